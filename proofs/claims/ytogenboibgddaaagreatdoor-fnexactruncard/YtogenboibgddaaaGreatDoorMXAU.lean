/-
  EZ4, WD, VR2, Open, DWS. Own work.
-/
import Derived.Test.YtogenboibgddaaaGreatDoorMXAJ
import Derived.Test.YtogenboibgddaaaGreatDoorMXAB
import Derived.Test.YtogenboibgddaaaGreatDoorMXAC
import Derived.Test.YtogenboibgddaaaGreatDoorMXAK
import Derived.ProofKit
import Derived.SliceStrings
import Derived.RowKitTokens
import Derived.LaidMore
import Derived.OpenShut
import Derived.Stop.Joined
import Derived.Stop.LaidErr
import Derived.WalkSmall
namespace Go.Proofs.YtogenboibgddaaaGreatDoor
open Go.RowKit
set_option linter.unusedVariables false

set_option maxRecDepth 100000 in
set_option maxHeartbeats 1600000 in
theorem eqValue_same (x : Vl) (an an' : Option Addr) (nn cn cn' : Nat) (w : World)
    (h1 : Strs w an nn cn x.names) (h1' : Strs w an' nn cn' x.names) :
    Calls Tryz.prog 57 #[.agg #[.int .i64 x.kind, .int .i64 x.num, .string x.text, .slice an nn cn], .agg #[.int .i64 x.kind, .int .i64 x.num, .string x.text, .slice an' nn cn']] w fun e w' => e = .returned (.bool true) ∧ Below w.heap.size w w' := by
  have B0 := ((Below.refl w.heap.size w).alloc (Nat.le_refl _) (.cells #[.int .i64 x.kind, .int .i64 x.num, .string x.text, .slice an nn cn] 88)).alloc (by simp) (.cells #[.int .i64 x.kind, .int .i64 x.num, .string x.text, .slice an' nn cn'] 88)
  go_enter Tryz.func57, Tryz.ntmps57
  go_wp2_with fail
  refine (eqStringS_same _ _ _ _ _ _ _ (h1.below B0 (Nat.le_refl _)) (h1'.below B0 (Nat.le_refl _))).mono ?_
  rintro e w1 ⟨rfl, hb1⟩
  go_wp2_with fail
  go_ret
  exact ⟨rfl, B0.trans (hb1.mono (by simp; omega))⟩

set_option maxRecDepth 100000 in
set_option maxHeartbeats 1600000 in
theorem eqValueS_same (a a' : Option Addr) (n c c' : Nat) (N : List Vl) (w : World) (h : Vls w a n c N) (h' : Vls w a' n c' N) :
    Calls Tryz.prog 30 #[.slice a n c, .slice a' n c'] w fun e w' => e = .returned (.bool true) ∧ Below w.heap.size w w' := by
  have hn := h.small
  have Hl := hide h.len
  go_enter Tryz.func30, Tryz.ntmps30
  go_wp2_with fail
  go_loopw [5] (fun i wr => ∃ k : Nat, k ≤ n ∧ i = .int .i64 k ∧ Below w.heap.size w wr) (fun i _ => n - (intOf i).toNat)
  case atStart => exact ⟨0, Nat.zero_le _, rfl, Below.refl _ _⟩
  case round =>
    obtain ⟨k, hk, rfl, hb⟩ := hrel
    by_cases hlt : k < n
    · have hkl : k < N.length := by rw [unhide Hl]; exact hlt
      obtain ⟨b, off, rfl, hbl, an, nn, cn, c0, c1, c2, c3, hN⟩ := (h.below hb (Nat.le_refl _)).cells k hkl
      obtain ⟨b', off', rfl, hbl', an', nn', cn', d0, d1, d2, d3, hN'⟩ := (h'.below hb (Nat.le_refl _)).cells k hkl
      have i3 : (k : Int) < (n : Int) := by omega
      generalize N[k] = x at c0 c1 c2 c3 hN d0 d1 d2 d3 hN'
      obtain rfl : nn = nn' := by rw [hN.len, hN'.len]
      have Hlt := hide hlt
      clear hlt h h'
      go_wp2_with fail
      have D1 : Below wr.heap.size wr wr.drew := (Below.refl _ _).drew
      have q1 : wr.drew.cell? ⟨b, off + k * 4, none⟩ = some (.int .i64 x.kind) ∧ wr.drew.cell? ⟨b, off + k * 4 + 1, none⟩ = some (.int .i64 x.num) ∧ wr.drew.cell? ⟨b, off + k * 4 + 2, none⟩ = some (.string x.text) ∧ wr.drew.cell? ⟨b, off + k * 4 + 3, none⟩ = some (.slice an nn cn) ∧ wr.drew.cell? ⟨b', off' + k * 4, none⟩ = some (.int .i64 x.kind) ∧ wr.drew.cell? ⟨b', off' + k * 4 + 1, none⟩ = some (.int .i64 x.num) ∧ wr.drew.cell? ⟨b', off' + k * 4 + 2, none⟩ = some (.string x.text) ∧ wr.drew.cell? ⟨b', off' + k * 4 + 3, none⟩ = some (.slice an' nn cn') := ⟨c0, c1, c2, c3, d0, d1, d2, d3⟩
      go_region_held3 (fun w' => w'.cell? ⟨b, off + k * 4, none⟩ = some (.int .i64 x.kind) ∧ w'.cell? ⟨b, off + k * 4 + 1, none⟩ = some (.int .i64 x.num) ∧ w'.cell? ⟨b, off + k * 4 + 2, none⟩ = some (.string x.text) ∧ w'.cell? ⟨b, off + k * 4 + 3, none⟩ = some (.slice an nn cn) ∧ w'.cell? ⟨b', off' + k * 4, none⟩ = some (.int .i64 x.kind) ∧ w'.cell? ⟨b', off' + k * 4 + 1, none⟩ = some (.int .i64 x.num) ∧ w'.cell? ⟨b', off' + k * 4 + 2, none⟩ = some (.string x.text) ∧ w'.cell? ⟨b', off' + k * 4 + 3, none⟩ = some (.slice an' nn cn')) (first | assumption | go_keep)
        (first
          | (go_at_call 57; refine (eqValue_same x _ _ _ _ _ _ (hN.below D1 (Nat.le_refl _)) (hN'.below D1 (Nat.le_refl _))).mono ?_; rintro e w2 ⟨rfl, hb2⟩; have E2 := D1.trans (hb2.mono D1.size); obtain ⟨ec, _⟩ := bcell E2; have q2 : w2.cell? ⟨b, off + k * 4, none⟩ = some (.int .i64 x.kind) ∧ w2.cell? ⟨b, off + k * 4 + 1, none⟩ = some (.int .i64 x.num) ∧ w2.cell? ⟨b, off + k * 4 + 2, none⟩ = some (.string x.text) ∧ w2.cell? ⟨b, off + k * 4 + 3, none⟩ = some (.slice an nn cn) ∧ w2.cell? ⟨b', off' + k * 4, none⟩ = some (.int .i64 x.kind) ∧ w2.cell? ⟨b', off' + k * 4 + 1, none⟩ = some (.int .i64 x.num) ∧ w2.cell? ⟨b', off' + k * 4 + 2, none⟩ = some (.string x.text) ∧ w2.cell? ⟨b', off' + k * 4 + 3, none⟩ = some (.slice an' nn cn') := ⟨(ec _ _ hbl).trans c0, (ec _ _ hbl).trans c1, (ec _ _ hbl).trans c2, (ec _ _ hbl).trans c3, (ec _ _ hbl').trans d0, (ec _ _ hbl').trans d1, (ec _ _ hbl').trans d2, (ec _ _ hbl').trans d3⟩))
      go_wp2_with fail
      go_roundw
      case rel => exact ⟨k + 1, unhide Hlt, by go_num, hb.trans (E2.mono hb.size)⟩
      case measure => have := unhide Hlt; simp [intOf]; omega
    · have i3 : ¬ ((k : Int) < (n : Int)) := by omega
      go_wp2_with fail
      go_ret
      exact ⟨rfl, hb⟩

set_option maxHeartbeats 800000 in
theorem eqIns_same (s : Is1) (w : World) :
    Calls Tryz.prog 58 #[.agg #[.int .i64 s.op, .int .i64 s.arg], .agg #[.int .i64 s.op, .int .i64 s.arg]] w fun e w' => e = .returned (.bool true) ∧ Below w.heap.size w w' := by
  go_enter Tryz.func58, Tryz.ntmps58
  go_wp2
  go_ret
  exact ⟨rfl, ((Below.refl w.heap.size w).alloc (Nat.le_refl _) _).alloc (by simp) _⟩

set_option maxRecDepth 100000 in
set_option maxHeartbeats 1600000 in
theorem eqInsS_same (a a' : Option Addr) (n c c' : Nat) (N : List Is1) (w : World) (h : Iss w a n c N) (h' : Iss w a' n c' N) :
    Calls Tryz.prog 31 #[.slice a n c, .slice a' n c'] w fun e w' => e = .returned (.bool true) ∧ Below w.heap.size w w' := by
  have hn := h.small
  have Hl := hide h.len
  go_enter Tryz.func31, Tryz.ntmps31
  go_wp2_with fail
  go_loopw [5] (fun i wr => ∃ k : Nat, k ≤ n ∧ i = .int .i64 k ∧ Below w.heap.size w wr) (fun i _ => n - (intOf i).toNat)
  case atStart => exact ⟨0, Nat.zero_le _, rfl, Below.refl _ _⟩
  case round =>
    obtain ⟨k, hk, rfl, hb⟩ := hrel
    by_cases hlt : k < n
    · have hkl : k < N.length := by rw [unhide Hl]; exact hlt
      obtain ⟨b, off, rfl, hbl, c0, c1⟩ := (h.below hb (Nat.le_refl _)).cells k hkl
      obtain ⟨b', off', rfl, hbl', d0, d1⟩ := (h'.below hb (Nat.le_refl _)).cells k hkl
      have i3 : (k : Int) < (n : Int) := by omega
      generalize N[k] = x at c0 c1 d0 d1
      have Hlt := hide hlt
      clear hlt h h'
      go_wp2_with fail
      have D1 : Below wr.heap.size wr wr.drew := (Below.refl _ _).drew
      have q1 : wr.drew.cell? ⟨b, off + k * 2, none⟩ = some (.int .i64 x.op) ∧ wr.drew.cell? ⟨b, off + k * 2 + 1, none⟩ = some (.int .i64 x.arg) ∧ wr.drew.cell? ⟨b', off' + k * 2, none⟩ = some (.int .i64 x.op) ∧ wr.drew.cell? ⟨b', off' + k * 2 + 1, none⟩ = some (.int .i64 x.arg) := ⟨c0, c1, d0, d1⟩
      go_region_held3 (fun w' => w'.cell? ⟨b, off + k * 2, none⟩ = some (.int .i64 x.op) ∧ w'.cell? ⟨b, off + k * 2 + 1, none⟩ = some (.int .i64 x.arg) ∧ w'.cell? ⟨b', off' + k * 2, none⟩ = some (.int .i64 x.op) ∧ w'.cell? ⟨b', off' + k * 2 + 1, none⟩ = some (.int .i64 x.arg)) (first | assumption | go_keep)
        (first
          | (go_at_call 58; refine (eqIns_same x _).mono ?_; rintro e w2 ⟨rfl, hb2⟩; have E2 := D1.trans (hb2.mono D1.size); obtain ⟨ec, _⟩ := bcell E2; have q2 : w2.cell? ⟨b, off + k * 2, none⟩ = some (.int .i64 x.op) ∧ w2.cell? ⟨b, off + k * 2 + 1, none⟩ = some (.int .i64 x.arg) ∧ w2.cell? ⟨b', off' + k * 2, none⟩ = some (.int .i64 x.op) ∧ w2.cell? ⟨b', off' + k * 2 + 1, none⟩ = some (.int .i64 x.arg) := ⟨(ec _ _ hbl).trans c0, (ec _ _ hbl).trans c1, (ec _ _ hbl').trans d0, (ec _ _ hbl').trans d1⟩))
      go_wp2_with fail
      go_roundw
      case rel => exact ⟨k + 1, unhide Hlt, by go_num, hb.trans (E2.mono hb.size)⟩
      case measure => have := unhide Hlt; simp [intOf]; omega
    · have i3 : ¬ ((k : Int) < (n : Int)) := by omega
      go_wp2_with fail
      go_ret
      exact ⟨rfl, hb⟩

set_option maxHeartbeats 1600000 in
theorem eqCode_same (a a' b b' : Option Addr) (n c c' m d d' : Nat) (s : Int) (N : List Vl) (L : List Is1) (w : World) (h1 : Vls w a n c N) (h1' : Vls w a' n c' N) (h2 : Iss w b m d L) (h2' : Iss w b' m d' L) :
    Calls Tryz.prog 11 #[.agg #[.slice a n c, .int .i64 s, .slice b m d], .agg #[.slice a' n c', .int .i64 s, .slice b' m d']] w fun e w' => e = .returned (.bool true) ∧ Below w.heap.size w w' := by
  have B0 := ((Below.refl w.heap.size w).alloc (Nat.le_refl _) (.cells #[.slice a n c, .int .i64 s, .slice b m d] 39)).alloc (by simp) (.cells #[.slice a' n c', .int .i64 s, .slice b' m d'] 39)
  have R0 := (Row.new w #[.slice a n c, .int .i64 s, .slice b m d] 39).alloc (.cells #[.slice a' n c', .int .i64 s, .slice b' m d'] 39)
  have R1 := Row.new (w.alloc (.cells #[.slice a n c, .int .i64 s, .slice b m d] 39)) #[.slice a' n c', .int .i64 s, .slice b' m d'] 39
  simp only [World.size_alloc] at R1
  go_enter Tryz.func11, Tryz.ntmps11
  go_wp2_with fail
  refine (eqValueS_same _ _ _ _ _ _ _ (h1.below B0 (Nat.le_refl _)) (h1'.below B0 (Nat.le_refl _))).mono ?_
  rintro e w1 ⟨rfl, hb1⟩
  have B1 := B0.trans (hb1.mono (by simp; omega))
  have q0 := (R0.after hb1 (Nat.le_refl _)).cell 1
  have q1 := (R1.after hb1 (Nat.le_refl _)).cell 1
  have q2 := (R0.after hb1 (Nat.le_refl _)).cell 2
  have q3 := (R1.after hb1 (Nat.le_refl _)).cell 2
  have z1 := hb1.size
  simp at q0 q1 q2 q3 z1
  clear R0 R1 B0 hb1
  go_wp2_with fail
  refine (eqInsS_same _ _ _ _ _ _ _ (h2.below B1 (Nat.le_refl _)) (h2'.below B1 (Nat.le_refl _))).mono ?_
  rintro e w2 ⟨rfl, hb2⟩
  go_wp2_with fail
  go_ret
  exact ⟨rfl, B1.trans (hb2.mono (by omega))⟩

end Go.Proofs.YtogenboibgddaaaGreatDoor

namespace Go.Proofs.YtogenboibgddaaaGreatDoor
open Go.RowKit

/-- a row that lies at an address, as long as said -/
def Wd (w : World) (x : Addr) (n : Nat) (t : TypeId) : Prop := ∃ q cs, x = ⟨q, 0, none⟩ ∧ Row w q cs t ∧ cs.size = n

theorem Wd.below {w w' : World} {B n : Nat} {x : Addr} {t : TypeId} (h : Wd w x n t) (hb : Below B w w') (hB : w.heap.size ≤ B) : Wd w' x n t := by
  obtain ⟨q, cs, e, r, z⟩ := h
  exact ⟨q, cs, e, r.after hb hB, z⟩

theorem Wd.setFar {w : World} {n : Nat} {x : Addr} {t : TypeId} (h : Wd w x n t) {p : Addr} (hp : p.block ≠ x.block) (u : Value) : Wd (w.setCell p u) x n t := by
  obtain ⟨q, cs, rfl, r, z⟩ := h
  exact ⟨q, cs, rfl, r.setFar (fun e => hp e.symm) u, z⟩

theorem Wd.of_owns {w : World} {B n : Nat} {x : Addr} {t : TypeId} {xs : List Value} (h : w.ownsRow B t 1 (.slice (some x) n n) n xs) : Wd w x n t := by
  rcases h.2 with ⟨q, _⟩ | ⟨g, cap, cur, q, _, hg, _, _, hz, _⟩
  · cases q
  · cases q
    exact ⟨g, cur, rfl, ⟨hg⟩, by omega⟩

end Go.Proofs.YtogenboibgddaaaGreatDoor

namespace Go.Proofs.YtogenboibgddaaaGreatDoor
open Go.RowKit

set_option maxHeartbeats 800000 in
theorem szRequest_any (cl us : ByteArray) (lv nw : Int) (a1 : Option Addr) (n1 c1 : Nat) (s1 : List ByteArray) (a2 : Option Addr) (n2 c2 : Nat) (s2 : List ByteArray) (L : Int) (w : World)
    (hcl : cl.size ≤ maxLen) (hus : us.size ≤ maxLen) (h1 : Strs w a1 n1 c1 s1) (h2 : Strs w a2 n2 c2 s2) (hL : 0 ≤ L) (hL' : L ≤ 1048576) :
    Calls Tryz.prog 5 #[.agg #[.string cl, .string us, .int .i64 lv, .int .i64 nw, .slice a1 n1 c1, .slice a2 n2 c2], .int .i64 L] w fun e w' => (∃ r : Int, e = .returned (.int .i64 r) ∧ (r = -1 ∨ 0 ≤ r ∧ n1 ≤ 1048576 ∧ n2 ≤ 1048576)) ∧ Below w.heap.size w w' := by
  unfold maxLen at hcl hus
  have b0 : Below w.heap.size w (w.alloc (.cells #[.string cl, .string us, .int .i64 lv, .int .i64 nw, .slice a1 n1 c1, .slice a2 n2 c2] 28)) := (Below.refl _ _).alloc (Nat.le_refl _) _
  have g1 := h1.below b0 (Nat.le_refl _)
  have g2 := h2.below b0 (Nat.le_refl _)
  by_cases e1 : L - cl.size < 0
  · go_enter Tryz.func5, Tryz.ntmps5
    go_wp2_with fail
    go_ret
    exact ⟨⟨_, rfl, .inl rfl⟩, b0⟩
  · have e1' : 0 ≤ L - cl.size := by omega
    by_cases e2 : L - cl.size - us.size < 0
    · go_enter Tryz.func5, Tryz.ntmps5
      go_wp2_with fail
      go_ret
      exact ⟨⟨_, rfl, .inl rfl⟩, b0⟩
    · have e2' : 0 ≤ L - cl.size - us.size := by omega
      go_enter Tryz.func5, Tryz.ntmps5
      go_wp2_with fail
      refine (szStringS_any _ _ _ _ _ _ g1 (by omega) (by omega)).mono ?_
      rintro e w' ⟨⟨r, rfl, hr⟩, rfl⟩
      by_cases e3 : r < 0
      · go_wp2_with fail
        go_ret
        exact ⟨⟨_, rfl, .inl rfl⟩, b0⟩
      · have e3' : 0 ≤ r := by omega
        have hr1 : n1 ≤ 1048576 ∧ r ≤ 1048576 := by rcases hr with hr | ⟨_, hr⟩ <;> omega
        clear hr
        go_wp2_with fail
        refine (szStringS_any _ _ _ _ _ _ g2 (by omega) (by omega)).mono ?_
        rintro e w' ⟨⟨r2, rfl, hr⟩, rfl⟩
        by_cases e4 : r2 < 0
        · go_wp2_with fail
          go_ret
          exact ⟨⟨_, rfl, .inl rfl⟩, b0⟩
        · have e4' : 0 ≤ r2 := by omega
          have hr2 : n2 ≤ 1048576 := by rcases hr with hr | ⟨_, hr⟩ <;> omega
          clear hr
          go_wp2_with fail
          go_ret
          exact ⟨⟨_, rfl, .inr ⟨e4', hr1.1, hr2⟩⟩, b0⟩

set_option maxHeartbeats 1600000 in
theorem toRequest_any (cl us : ByteArray) (lv nw : Int) (a1 : Option Addr) (n1 c1 : Nat) (s1 : List ByteArray) (a2 : Option Addr) (n2 c2 : Nat) (s2 : List ByteArray) (w : World)
    (h1 : Strs w a1 n1 c1 s1) (h2 : Strs w a2 n2 c2 s2) (k1 : n1 ≤ 1048576) (k2 : n2 ≤ 1048576) :
    Calls Tryz.prog 8 #[.agg #[.string cl, .string us, .int .i64 lv, .int .i64 nw, .slice a1 n1 c1, .slice a2 n2 c2]] w fun e w' =>
      ∃ x1 x2, e = .returned (.agg #[.string cl, .string us, .int .i64 lv, .int .i64 nw, .slice (some x1) n1 n1, .slice (some x2) n2 n2]) ∧ Strs w' (some x1) n1 n1 s1 ∧ Strs w' (some x2) n2 n2 s2 ∧ Below w.heap.size w w' ∧ Wd w' x1 n1 9 ∧ Wd w' x2 n2 9 ∧ w.heap.size ≤ x1.block ∧ w.heap.size ≤ x2.block := by
  go_enter Tryz.func8, Tryz.ntmps8
  go_wp2_with fail
  have B0 := ((((Below.refl w.heap.size w).alloc (Nat.le_refl _) (.cells #[.string cl, .string us, .int .i64 lv, .int .i64 nw, .slice a1 n1 c1, .slice a2 n2 c2] 28)).alloc (by simp) (.cells #[.string ⟨#[]⟩, .string ⟨#[]⟩, .int .i64 0, .int .i64 0, .slice none 0 0, .slice none 0 0] 41)).alloc (by simp; omega) (.cells #[.string cl, .string us, .int .i64 lv, .int .i64 nw, .slice none 0 0, .slice none 0 0] 41))
  have R0 := ((Row.new w #[.string cl, .string us, .int .i64 lv, .int .i64 nw, .slice a1 n1 c1, .slice a2 n2 c2] 28).alloc (.cells #[.string ⟨#[]⟩, .string ⟨#[]⟩, .int .i64 0, .int .i64 0, .slice none 0 0, .slice none 0 0] 41)).alloc (.cells #[.string cl, .string us, .int .i64 lv, .int .i64 nw, .slice none 0 0, .slice none 0 0] 41)
  have R1 := (Row.new (w.alloc (.cells #[.string cl, .string us, .int .i64 lv, .int .i64 nw, .slice a1 n1 c1, .slice a2 n2 c2] 28)) #[.string ⟨#[]⟩, .string ⟨#[]⟩, .int .i64 0, .int .i64 0, .slice none 0 0, .slice none 0 0] 41).alloc (.cells #[.string cl, .string us, .int .i64 lv, .int .i64 nw, .slice none 0 0, .slice none 0 0] 41)
  have R2 := Row.new ((w.alloc (.cells #[.string cl, .string us, .int .i64 lv, .int .i64 nw, .slice a1 n1 c1, .slice a2 n2 c2] 28)).alloc (.cells #[.string ⟨#[]⟩, .string ⟨#[]⟩, .int .i64 0, .int .i64 0, .slice none 0 0, .slice none 0 0] 41)) #[.string cl, .string us, .int .i64 lv, .int .i64 nw, .slice none 0 0, .slice none 0 0] 41
  simp only [World.size_alloc] at R1 R2
  have Z := R2.lt
  refine (toStringS_any _ _ _ _ _ (h1.below B0 (Nat.le_refl _)) k1).mono ?_
  rintro e w1 ⟨rfl, hb1, ho1⟩
  have B1 := B0.trans (hb1.mono (by simp; omega))
  have r0 := R0.after hb1 (Nat.le_refl _)
  have r1 := R1.after hb1 (Nat.le_refl _)
  have r2 := R2.after hb1 (Nat.le_refl _)
  have z1 := hb1.size
  have s1' := Strs.of_owns ho1 h1.sizes
  have y1 := Wd.of_owns ho1
  simp only [World.size_alloc] at z1 s1' y1
  clear B0 R0 R1 R2 ho1 hb1 Z
  have q0 := r0.cell 5
  have q1 := r2.cell 4
  have q2 := r2.frozen 4
  simp only [List.getElem?_toArray, List.getElem?_cons_succ, List.getElem?_cons_zero] at q0 q1
  go_wp2_with fail
  have B2 := B1.setCell (p := ⟨w.heap.size + 1 + 1, 4, none⟩) (by show w.heap.size ≤ w.heap.size + 1 + 1; omega) (.slice (some ⟨w.heap.size + 1 + 1 + 1, 0, none⟩) n1 n1)
  refine (toStringS_any _ _ _ _ _ (h2.below B2 (Nat.le_refl _)) k2).mono ?_
  rintro e w2 ⟨rfl, hb2, ho2⟩
  have r1' := (r1.setFar (p := ⟨w.heap.size + 1 + 1, 4, none⟩) (by show w.heap.size + 1 ≠ w.heap.size + 1 + 1; omega) (.slice (some ⟨w.heap.size + 1 + 1 + 1, 0, none⟩) n1 n1)).after hb2 (Nat.le_refl _)
  have r2' := (r2.set 4 (.slice (some ⟨w.heap.size + 1 + 1 + 1, 0, none⟩) n1 n1)).after hb2 (Nat.le_refl _)
  have s1'' := (s1'.setFar (p := ⟨w.heap.size + 1 + 1, 4, none⟩) (fun x hx => by cases hx; show w.heap.size + 1 + 1 ≠ w.heap.size + 1 + 1 + 1; omega) (.slice (some ⟨w.heap.size + 1 + 1 + 1, 0, none⟩) n1 n1)).below hb2 (Nat.le_refl _)
  have y1' := (y1.setFar (p := ⟨w.heap.size + 1 + 1, 4, none⟩) (by show w.heap.size + 1 + 1 ≠ w.heap.size + 1 + 1 + 1; omega) (.slice (some ⟨w.heap.size + 1 + 1 + 1, 0, none⟩) n1 n1)).below hb2 (Nat.le_refl _)
  have s2' := Strs.of_owns ho2 h2.sizes
  have y2 := Wd.of_owns ho2
  have B3 := B2.trans (hb2.mono (by simp; omega))
  have z2 := hb2.size
  simp only [World.size_setCell] at z2 s2' y2
  clear y1 r0 r1 r2 s1' q0 q1 q2 B1 B2 hb2 ho2
  have f1 := fun j => r1'.frozen j
  have f2 := fun j => r2'.frozen j
  have p0 := r1'.cell 0
  have p1 := r1'.cell 1
  have p2 := r1'.cell 2
  have p3 := r1'.cell 3
  have p4 := r1'.cell 4
  have p5 := r1'.cell 5
  have q0 := r2'.cell 0
  have q1 := r2'.cell 1
  have q2 := r2'.cell 2
  have q3 := r2'.cell 3
  have q4 := r2'.cell 4
  have q5 := r2'.cell 5
  simp at p0 p1 p2 p3 p4 p5 q0 q1 q2 q3 q4 q5
  go_wp2_with fail
  refine bodyPost_ret (v := .agg #[.string cl, .string us, .int .i64 lv, .int .i64 nw, .slice (some ⟨w.heap.size + 1 + 1 + 1, 0, none⟩) n1 n1, .slice (some ⟨w1.heap.size, 0, none⟩) n2 n2]) (by simp [results, Tryz.results8, go_sem, p0, p1, p2, p3, p4, p5]) rfl ⟨_, _, rfl, ?_, ?_, ?_, ?_, ?_, by show w.heap.size ≤ w.heap.size + 1 + 1 + 1; omega, by show w.heap.size ≤ w1.heap.size; omega⟩
  · clear p0 p1 p2 p3 p4 p5 q0 q1 q2 q3 q4 q5 f1 f2 r1' r2'
    refine Strs.setFar (Strs.setFar (Strs.setFar (Strs.setFar (Strs.setFar (Strs.setFar (Strs.setFar s1'' ?_ _) ?_ _) ?_ _) ?_ _) ?_ _) ?_ _) ?_ _
    all_goals (intro x hx; cases hx; dsimp only; omega)
  · clear p0 p1 p2 p3 p4 p5 q0 q1 q2 q3 q4 q5 f1 f2 r1' r2'
    refine Strs.setFar (Strs.setFar (Strs.setFar (Strs.setFar (Strs.setFar (Strs.setFar (Strs.setFar s2' ?_ _) ?_ _) ?_ _) ?_ _) ?_ _) ?_ _) ?_ _
    all_goals (intro x hx; cases hx; dsimp only; omega)
  · clear p0 p1 p2 p3 p4 p5 q0 q1 q2 q3 q4 q5 f1 f2 r1' r2'
    refine Below.setCell (Below.setCell (Below.setCell (Below.setCell (Below.setCell (Below.setCell (Below.setCell B3 ?_ _) ?_ _) ?_ _) ?_ _) ?_ _) ?_ _) ?_ _
    all_goals (dsimp only; omega)
  · clear p0 p1 p2 p3 p4 p5 q0 q1 q2 q3 q4 q5 f1 f2 r1' r2'
    refine Wd.setFar (Wd.setFar (Wd.setFar (Wd.setFar (Wd.setFar (Wd.setFar (Wd.setFar y1' ?_ _) ?_ _) ?_ _) ?_ _) ?_ _) ?_ _) ?_ _
    all_goals (dsimp only; omega)
  · clear p0 p1 p2 p3 p4 p5 q0 q1 q2 q3 q4 q5 f1 f2 r1' r2'
    refine Wd.setFar (Wd.setFar (Wd.setFar (Wd.setFar (Wd.setFar (Wd.setFar (Wd.setFar y2 ?_ _) ?_ _) ?_ _) ?_ _) ?_ _) ?_ _) ?_ _
    all_goals (dsimp only; omega)

set_option maxHeartbeats 800000 in
theorem eqRequest_same (cl us : ByteArray) (lv nw : Int) (a1 : Option Addr) (n1 c1 : Nat) (s1 : List ByteArray) (a2 : Option Addr) (n2 c2 : Nat) (s2 : List ByteArray) (a1' : Option Addr) (c1' : Nat) (a2' : Option Addr) (c2' : Nat) (w : World)
    (h1 : Strs w a1 n1 c1 s1) (h2 : Strs w a2 n2 c2 s2) (h1' : Strs w a1' n1 c1' s1) (h2' : Strs w a2' n2 c2' s2) :
    Calls Tryz.prog 12 #[.agg #[.string cl, .string us, .int .i64 lv, .int .i64 nw, .slice a1 n1 c1, .slice a2 n2 c2], .agg #[.string cl, .string us, .int .i64 lv, .int .i64 nw, .slice a1' n1 c1', .slice a2' n2 c2']] w fun e w' => e = .returned (.bool true) ∧ Below w.heap.size w w' := by
  have B0 := ((Below.refl w.heap.size w).alloc (Nat.le_refl _) (.cells #[.string cl, .string us, .int .i64 lv, .int .i64 nw, .slice a1 n1 c1, .slice a2 n2 c2] 41)).alloc (by simp) (.cells #[.string cl, .string us, .int .i64 lv, .int .i64 nw, .slice a1' n1 c1', .slice a2' n2 c2'] 41)
  have R0 := (Row.new w #[.string cl, .string us, .int .i64 lv, .int .i64 nw, .slice a1 n1 c1, .slice a2 n2 c2] 41).alloc (.cells #[.string cl, .string us, .int .i64 lv, .int .i64 nw, .slice a1' n1 c1', .slice a2' n2 c2'] 41)
  have R1 := Row.new (w.alloc (.cells #[.string cl, .string us, .int .i64 lv, .int .i64 nw, .slice a1 n1 c1, .slice a2 n2 c2] 41)) #[.string cl, .string us, .int .i64 lv, .int .i64 nw, .slice a1' n1 c1', .slice a2' n2 c2'] 41
  simp only [World.size_alloc] at R1
  go_enter Tryz.func12, Tryz.ntmps12
  go_wp2_with fail
  refine (eqStringS_same _ _ _ _ _ _ _ (h1.below B0 (Nat.le_refl _)) (h1'.below B0 (Nat.le_refl _))).mono ?_
  rintro e w1 ⟨rfl, hb1⟩
  have B1 := B0.trans (hb1.mono (by simp; omega))
  have q0 := (R0.after hb1 (Nat.le_refl _)).cell 5
  have q1 := (R1.after hb1 (Nat.le_refl _)).cell 5
  have z1 := hb1.size
  simp at q0 q1 z1
  clear R0 R1 B0 hb1
  go_wp2_with fail
  refine (eqStringS_same _ _ _ _ _ _ _ (h2.below B1 (Nat.le_refl _)) (h2'.below B1 (Nat.le_refl _))).mono ?_
  rintro e w2 ⟨rfl, hb2⟩
  go_wp2_with fail
  go_ret
  exact ⟨rfl, B1.trans (hb2.mono (by omega))⟩

end Go.Proofs.YtogenboibgddaaaGreatDoor

namespace Go.Proofs.YtogenboibgddaaaGreatDoor
open Go.ChangeShapes Go.WideShapes Go.RowKit

theorem lt_of_cell {w : World} {p : Addr} {v : Value} (h : w.cell? p = some v) : p.block < w.heap.size := by
  by_cases hb : p.block < w.heap.size
  · exact hb
  · have : w.heap[p.block]? = none := Array.getElem?_eq_none (by omega)
    simp [World.cell?, this] at h

theorem Strs.of_trod {H : Type} {enc : TypeId × Value → H} {P : Program} {w : World} {held : Bool} {t e : TypeId} {fuel : Nat} {x : DataW H × List MemPlace} {a : Option Addr} {n c : Nat}
    (ht : P.underlying t = some (.slice e)) (he : P.underlying e = some .string) (hc : P.cellsOf e = 1)
    (h : DataW.trod enc P w 0 (fun _ => true) held fuel t [.slice a n c] = some x) : ∃ ss, Strs w a n c ss := by
  rcases open_strings ht he hc h with ⟨hcs, _⟩ | ⟨ad, len, cap, ss, hcs, _, hl, hm, hz, _, hcell, hws⟩
  · simp only [List.cons.injEq, Value.slice.injEq, and_true] at hcs
    obtain ⟨rfl, rfl, rfl⟩ := hcs
    exact ⟨[], rfl, Nat.le_refl _, Nat.zero_le _, fun j hj => by omega, fun j hj => by omega⟩
  · simp only [List.cons.injEq, Value.slice.injEq, and_true] at hcs
    obtain ⟨rfl, rfl, rfl⟩ := hcs
    simp only [if_true] at hz
    have hlen : (ss.take n).length = n := by simp; omega
    have hnth : ∀ j, j < n → nth (ss.take n) j = ss.getD j ByteArray.empty := fun j hj => by
      rw [nth_eq _ j (by omega), List.getElem_take]
      simp [List.getD, show j < ss.length from by omega]
    refine ⟨ss.take n, hlen.symm, hl, hm, fun j hj => ?_, fun j hj => ?_⟩
    · rw [hnth j hj]
      apply hws
      simp [List.getD, show j < ss.length from by omega]
    · have hcj := hcell j (by omega)
      have hs := World.cell?_spot (hcell 0 (by omega))
      obtain ⟨b, off, spot⟩ := ad
      simp only [Addr.add, if_true] at hs
      subst hs
      have hadd : (⟨b, off, none⟩ : Addr).add j = ⟨b, off + j, none⟩ := by
        by_cases e : j = 0 <;> simp [Addr.add, e]
      rw [hadd] at hcj
      refine ⟨b, off, rfl, ?_, ?_⟩
      · exact lt_of_cell hcj
      · rw [hnth j hj, ← hcj]

end Go.Proofs.YtogenboibgddaaaGreatDoor

namespace Go.Proofs.YtogenboibgddaaaGreatDoor
open Go.ChangeShapes Go.WideShapes Go.ChangeAt Go.RowKit

theorem gShape : Tryz.prog.globalNamed "loop.example/s01308/impl.errShape" = some 6 := by kernel_rfl
theorem gOver : Tryz.prog.globalNamed "loop.example/s01308/impl.errOverflow" = some 0 := by kernel_rfl
theorem gZero : Tryz.prog.globalNamed "loop.example/s01308/impl.errZero" = some 1 := by kernel_rfl
theorem gWide : Tryz.prog.globalNamed "loop.example/s01308/impl.errWidth" = some 2 := by kernel_rfl
theorem tShape : (Tryz.prog.globals[6]?).map (·.type) = some 104 := by kernel_rfl
theorem tOver : (Tryz.prog.globals[0]?).map (·.type) = some 104 := by kernel_rfl
theorem tZero : (Tryz.prog.globals[1]?).map (·.type) = some 104 := by kernel_rfl
theorem tWide : (Tryz.prog.globals[2]?).map (·.type) = some 104 := by kernel_rfl
theorem row66 : ∀ u, Tryz.prog.typeName? 3 u = some "*errors.errorString" → u = 216 :=
  typeName_ptr_named (nm := "errors.errorString") (by kernel_rfl) (by kernel_rfl) (by decide)
theorem cells91 : Tryz.prog.cellsOf 246 = 1 := by kernel_rfl
theorem cells9 : Tryz.prog.cellsOf 9 = 1 := by kernel_rfl

set_option maxRecDepth 100000 in
/-- What the condition gives the walks, and that the variables read so. -/
theorem sent_of_laid {W : World} {l : List (String × DataW Unit)} (h0 : laidMet Tryz.prog (("loop.example/s01308/impl.errOverflow", Rows.laid_loop_example_s01308_impl_errOverflow) :: ("loop.example/s01308/impl.errZero", Rows.laid_loop_example_s01308_impl_errZero) :: ("loop.example/s01308/impl.errWidth", Rows.laid_loop_example_s01308_impl_errWidth) :: ("loop.example/s01308/impl.errShape", Rows.laid_loop_example_s01308_impl_errShape) :: l) W) : ∃ aS aO aZ aW, Sent W aS aO aZ aW ∧
    W.var? Tryz.prog "loop.example/s01308/impl.errShape" = some #[.iface 216 (.pointer (some aS))] ∧ W.var? Tryz.prog "loop.example/s01308/impl.errOverflow" = some #[.iface 216 (.pointer (some aO))] ∧
    W.var? Tryz.prog "loop.example/s01308/impl.errZero" = some #[.iface 216 (.pointer (some aZ))] ∧ W.var? Tryz.prog "loop.example/s01308/impl.errWidth" = some #[.iface 216 (.pointer (some aW))] := by
  obtain ⟨ps, ⟨g0, t0, cs0, f0, p0, q0, hg0, ht0, hv0, hd0, ⟨g1, t1, cs1, f1, p1, q1, hg1, ht1, hv1, hd1, ⟨g2, t2, cs2, f2, p2, q2, hg2, ht2, hv2, hd2, ⟨g3, t3, cs3, f3, p3, q3, hg3, ht3, hv3, hd3, hq3, e3⟩, e2⟩, e1⟩, e0⟩, hnd, hrows⟩ := h0
  obtain rfl := Option.some.inj (gOver.symm.trans hg0)
  obtain rfl := Option.some.inj (gZero.symm.trans hg1)
  obtain rfl := Option.some.inj (gWide.symm.trans hg2)
  obtain rfl := Option.some.inj (gShape.symm.trans hg3)
  obtain rfl := Option.some.inj (tOver.symm.trans ht0)
  obtain rfl := Option.some.inj (tZero.symm.trans ht1)
  obtain rfl := Option.some.inj (tWide.symm.trans ht2)
  obtain rfl := Option.some.inj (tShape.symm.trans ht3)
  subst e3
  subst e2
  subst e1
  subst e0
  obtain ⟨l0⟩ := cs0
  obtain ⟨l1⟩ := cs1
  obtain ⟨l2⟩ := cs2
  obtain ⟨l3⟩ := cs3
  have ok0 : ∀ u v, l0 = [.iface u v] → Value.okWide Tryz.prog W .any 0 u v := fun u v e => by
    subst e
    exact (hrows 0 0 (by simp [MemPlace.row])).2 u v (by simpa using World.var?_cell hg0 hv0 0)
  have ok1 : ∀ u v, l1 = [.iface u v] → Value.okWide Tryz.prog W .any 0 u v := fun u v e => by
    subst e
    exact (hrows 1 0 (by simp [MemPlace.row])).2 u v (by simpa using World.var?_cell hg1 hv1 0)
  have ok2 : ∀ u v, l2 = [.iface u v] → Value.okWide Tryz.prog W .any 0 u v := fun u v e => by
    subst e
    exact (hrows 2 0 (by simp [MemPlace.row])).2 u v (by simpa using World.var?_cell hg2 hv2 0)
  have ok3 : ∀ u v, l3 = [.iface u v] → Value.okWide Tryz.prog W .any 0 u v := fun u v e => by
    subst e
    exact (hrows 6 0 (by simp [MemPlace.row])).2 u v (by simpa using World.var?_cell hg3 hv3 0)
  obtain ⟨aO, s0, rfl, hc0, _, _, rfl⟩ := errorString_of_trod Tryz.underlying104 row66 Tryz.underlying216 Tryz.underlying246 rfl rfl Tryz.underlying9 cells91 cells9 hd0 ok0
  obtain ⟨aZ, s1, rfl, hc1, _, _, rfl⟩ := errorString_of_trod Tryz.underlying104 row66 Tryz.underlying216 Tryz.underlying246 rfl rfl Tryz.underlying9 cells91 cells9 hd1 ok1
  obtain ⟨aW, s2, rfl, hc2, _, _, rfl⟩ := errorString_of_trod Tryz.underlying104 row66 Tryz.underlying216 Tryz.underlying246 rfl rfl Tryz.underlying9 cells91 cells9 hd2 ok2
  obtain ⟨aS, s3, rfl, hc3, _, _, rfl⟩ := errorString_of_trod Tryz.underlying104 row66 Tryz.underlying216 Tryz.underlying246 rfl rfl Tryz.underlying9 cells91 cells9 hd3 ok3
  have rO := (hrows aO.block aO.off (by simp [MemPlace.row])).1
  have rZ := (hrows aZ.block aZ.off (by simp [MemPlace.row])).1
  have rW := (hrows aW.block aW.off (by simp [MemPlace.row])).1
  have rS := (hrows aS.block aS.off (by simp [MemPlace.row])).1
  have b0 := (hrows 6 0 (by simp [MemPlace.row])).1
  have b1 := (hrows 0 0 (by simp [MemPlace.row])).1
  have b2 := (hrows 1 0 (by simp [MemPlace.row])).1
  have b3 := (hrows 2 0 (by simp [MemPlace.row])).1
  refine ⟨aS, aO, aZ, aW, ⟨by simpa using World.var?_cell hg3 hv3 0, by simpa using World.var?_cell hg0 hv0 0, by simpa using World.var?_cell hg1 hv1 0, by simpa using World.var?_cell hg2 hv2 0, ?_, rS, rO, rZ, rW, ?_, ?_, ?_, ?_, ?_, ?_⟩, hv3, hv0, hv1, hv2⟩
  · obtain ⟨_, _, hb0⟩ := b0
    obtain ⟨_, _, hb1⟩ := b1
    obtain ⟨_, _, hb2⟩ := b2
    obtain ⟨_, _, hb3⟩ := b3
    have := (Array.getElem?_eq_some_iff.1 hb0).1
    have := (Array.getElem?_eq_some_iff.1 hb1).1
    have := (Array.getElem?_eq_some_iff.1 hb2).1
    have := (Array.getElem?_eq_some_iff.1 hb3).1
    omega
  all_goals (rintro rfl; simp [MemPlace.row] at hnd)

end Go.Proofs.YtogenboibgddaaaGreatDoor
