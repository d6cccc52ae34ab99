/-
  VPX, VPY0, ZT3, VPX1. Own work.
-/
import Derived.Test.YtddpcehgopeklaaGreatDoorMXBQ
import Derived.Test.YtddpcehgopeklaaGreatDoorMXAZ
import Derived.Test.YtddpcehgopeklaaGreatDoorMXBK
namespace Go.Proofs.YtddpcehgopeklaaGreatDoor
open Go.RowKit
set_option linter.unusedVariables false

set_option maxHeartbeats 800000 in
theorem eqIntS_same (a a' : Option Addr) (n c c' : Nat) (L : List Int) (w : World) (h : Ints w a n c L) (h' : Ints w a' n c' L) :
    Calls Tryz.prog 27 #[.slice a n c, .slice a' n c'] w fun e w' => e = .returned (.bool true) ∧ Below w.heap.size w w' := by
  have hn := h.small
  have Hl := hide h.len
  go_enter Tryz.func27, Tryz.ntmps27
  go_wp2
  go_loopw [5] (fun i wr => ∃ k : Nat, k ≤ n ∧ i = .int .i64 k ∧ Below w.heap.size w wr) (fun i _ => n - (intOf i).toNat)
  case atStart => exact ⟨0, Nat.zero_le _, rfl, Below.refl _ _⟩
  case round =>
    obtain ⟨k, hk, rfl, hb⟩ := hrel
    by_cases hlt : k < n
    · have hkl : k < L.length := by rw [unhide Hl]; exact hlt
      obtain ⟨b, off, rfl, _, hc⟩ := (h.below hb (Nat.le_refl _)).cells k hkl
      obtain ⟨b', off', rfl, _, hc'⟩ := (h'.below hb (Nat.le_refl _)).cells k hkl
      have i3 : (k : Int) < (n : Int) := by omega
      generalize L[k] = x at hc hc'
      go_wp2
      go_quiet (fail)
      go_wp2
      go_roundw
      case rel => exact ⟨k + 1, by omega, by go_num, hb.trans ((below_drewM wr _).mono hb.size)⟩
      case measure => simp [intOf]; omega
    · go_wp2
      go_ret
      exact ⟨rfl, hb⟩

set_option maxRecDepth 100000 in
set_option maxHeartbeats 1600000 in
theorem eqNode_same (x : Nd) (an an' : Option Addr) (nn cn cn' : Nat) (ak ak' : Option Addr) (nk ck ck' : Nat) (w : World)
    (h1 : Strs w an nn cn x.names) (h1' : Strs w an' nn cn' x.names) (h2 : Ints w ak nk ck x.kids) (h2' : Ints w ak' nk ck' x.kids) :
    Calls Tryz.prog 49 #[.agg #[.int .i64 x.op, .int .i64 x.num, .string x.text, .slice an nn cn, .slice ak nk ck], .agg #[.int .i64 x.op, .int .i64 x.num, .string x.text, .slice an' nn cn', .slice ak' nk ck']] w fun e w' => e = .returned (.bool true) ∧ Below w.heap.size w w' := by
  have B0 := ((Below.refl w.heap.size w).alloc (Nat.le_refl _) (.cells #[.int .i64 x.op, .int .i64 x.num, .string x.text, .slice an nn cn, .slice ak nk ck] 53)).alloc (by simp) (.cells #[.int .i64 x.op, .int .i64 x.num, .string x.text, .slice an' nn cn', .slice ak' nk ck'] 53)
  have R0 := (Row.new w #[.int .i64 x.op, .int .i64 x.num, .string x.text, .slice an nn cn, .slice ak nk ck] 53).alloc (.cells #[.int .i64 x.op, .int .i64 x.num, .string x.text, .slice an' nn cn', .slice ak' nk ck'] 53)
  have R1 := Row.new (w.alloc (.cells #[.int .i64 x.op, .int .i64 x.num, .string x.text, .slice an nn cn, .slice ak nk ck] 53)) #[.int .i64 x.op, .int .i64 x.num, .string x.text, .slice an' nn cn', .slice ak' nk ck'] 53
  simp only [World.size_alloc] at R1
  go_enter Tryz.func49, Tryz.ntmps49
  go_wp2_with fail
  refine (eqStringS_same _ _ _ _ _ _ _ (h1.below B0 (Nat.le_refl _)) (h1'.below B0 (Nat.le_refl _))).mono ?_
  rintro e w1 ⟨rfl, hb1⟩
  have B1 := B0.trans (hb1.mono (by simp; omega))
  have q0 := (R0.after hb1 (Nat.le_refl _)).cell 4
  have q1 := (R1.after hb1 (Nat.le_refl _)).cell 4
  have z1 := hb1.size
  simp at q0 q1 z1
  clear R0 R1 B0 hb1
  go_wp2_with fail
  refine (eqIntS_same _ _ _ _ _ _ _ (h2.below B1 (Nat.le_refl _)) (h2'.below B1 (Nat.le_refl _))).mono ?_
  rintro e w2 ⟨rfl, hb2⟩
  go_wp2_with fail
  go_ret
  exact ⟨rfl, B1.trans (hb2.mono (by omega))⟩

set_option maxRecDepth 100000 in
set_option maxHeartbeats 1600000 in
theorem eqNodeS_same (a a' : Option Addr) (n c c' : Nat) (N : List Nd) (w : World) (h : Nds w a n c N) (h' : Nds w a' n c' N) :
    Calls Tryz.prog 25 #[.slice a n c, .slice a' n c'] w fun e w' => e = .returned (.bool true) ∧ Below w.heap.size w w' := by
  have hn := h.small
  have Hl := hide h.len
  go_enter Tryz.func25, Tryz.ntmps25
  go_wp2_with fail
  go_loopw [5] (fun i wr => ∃ k : Nat, k ≤ n ∧ i = .int .i64 k ∧ Below w.heap.size w wr) (fun i _ => n - (intOf i).toNat)
  case atStart => exact ⟨0, Nat.zero_le _, rfl, Below.refl _ _⟩
  case round =>
    obtain ⟨k, hk, rfl, hb⟩ := hrel
    by_cases hlt : k < n
    · have hkl : k < N.length := by rw [unhide Hl]; exact hlt
      obtain ⟨b, off, rfl, hbl, an, nn, cn, ak, nk, ck, c0, c1, c2, c3, c4, hN, hK⟩ := (h.below hb (Nat.le_refl _)).cells k hkl
      obtain ⟨b', off', rfl, hbl', an', nn', cn', ak', nk', ck', d0, d1, d2, d3, d4, hN', hK'⟩ := (h'.below hb (Nat.le_refl _)).cells k hkl
      have i3 : (k : Int) < (n : Int) := by omega
      generalize N[k] = x at c0 c1 c2 c3 c4 hN hK d0 d1 d2 d3 d4 hN' hK'
      obtain rfl : nn = nn' := by rw [hN.len, hN'.len]
      obtain rfl : nk = nk' := by rw [← hK.len, ← hK'.len]
      have Hlt := hide hlt
      clear hlt h h'
      go_wp2_with fail
      have D1 : Below wr.heap.size wr wr.drew := (Below.refl _ _).drew
      have q1 : wr.drew.cell? ⟨b, off + k * 5, none⟩ = some (.int .i64 x.op) ∧ wr.drew.cell? ⟨b, off + k * 5 + 1, none⟩ = some (.int .i64 x.num) ∧ wr.drew.cell? ⟨b, off + k * 5 + 2, none⟩ = some (.string x.text) ∧ wr.drew.cell? ⟨b, off + k * 5 + 3, none⟩ = some (.slice an nn cn) ∧ wr.drew.cell? ⟨b, off + k * 5 + 4, none⟩ = some (.slice ak nk ck) ∧ wr.drew.cell? ⟨b', off' + k * 5, none⟩ = some (.int .i64 x.op) ∧ wr.drew.cell? ⟨b', off' + k * 5 + 1, none⟩ = some (.int .i64 x.num) ∧ wr.drew.cell? ⟨b', off' + k * 5 + 2, none⟩ = some (.string x.text) ∧ wr.drew.cell? ⟨b', off' + k * 5 + 3, none⟩ = some (.slice an' nn cn') ∧ wr.drew.cell? ⟨b', off' + k * 5 + 4, none⟩ = some (.slice ak' nk ck') := ⟨c0, c1, c2, c3, c4, d0, d1, d2, d3, d4⟩
      go_region_held3 (fun w' => w'.cell? ⟨b, off + k * 5, none⟩ = some (.int .i64 x.op) ∧ w'.cell? ⟨b, off + k * 5 + 1, none⟩ = some (.int .i64 x.num) ∧ w'.cell? ⟨b, off + k * 5 + 2, none⟩ = some (.string x.text) ∧ w'.cell? ⟨b, off + k * 5 + 3, none⟩ = some (.slice an nn cn) ∧ w'.cell? ⟨b, off + k * 5 + 4, none⟩ = some (.slice ak nk ck) ∧ w'.cell? ⟨b', off' + k * 5, none⟩ = some (.int .i64 x.op) ∧ w'.cell? ⟨b', off' + k * 5 + 1, none⟩ = some (.int .i64 x.num) ∧ w'.cell? ⟨b', off' + k * 5 + 2, none⟩ = some (.string x.text) ∧ w'.cell? ⟨b', off' + k * 5 + 3, none⟩ = some (.slice an' nn cn') ∧ w'.cell? ⟨b', off' + k * 5 + 4, none⟩ = some (.slice ak' nk ck')) (first | assumption | go_keep)
        (first
          | (go_at_call 49; refine (eqNode_same x _ _ _ _ _ _ _ _ _ _ _ (hN.below D1 (Nat.le_refl _)) (hN'.below D1 (Nat.le_refl _)) (hK.below D1 (Nat.le_refl _)) (hK'.below D1 (Nat.le_refl _))).mono ?_; rintro e w2 ⟨rfl, hb2⟩; have E2 := D1.trans (hb2.mono D1.size); obtain ⟨ec, _⟩ := bcell E2; have q2 : w2.cell? ⟨b, off + k * 5, none⟩ = some (.int .i64 x.op) ∧ w2.cell? ⟨b, off + k * 5 + 1, none⟩ = some (.int .i64 x.num) ∧ w2.cell? ⟨b, off + k * 5 + 2, none⟩ = some (.string x.text) ∧ w2.cell? ⟨b, off + k * 5 + 3, none⟩ = some (.slice an nn cn) ∧ w2.cell? ⟨b, off + k * 5 + 4, none⟩ = some (.slice ak nk ck) ∧ w2.cell? ⟨b', off' + k * 5, none⟩ = some (.int .i64 x.op) ∧ w2.cell? ⟨b', off' + k * 5 + 1, none⟩ = some (.int .i64 x.num) ∧ w2.cell? ⟨b', off' + k * 5 + 2, none⟩ = some (.string x.text) ∧ w2.cell? ⟨b', off' + k * 5 + 3, none⟩ = some (.slice an' nn cn') ∧ w2.cell? ⟨b', off' + k * 5 + 4, none⟩ = some (.slice ak' nk ck') := ⟨(ec _ _ hbl).trans c0, (ec _ _ hbl).trans c1, (ec _ _ hbl).trans c2, (ec _ _ hbl).trans c3, (ec _ _ hbl).trans c4, (ec _ _ hbl').trans d0, (ec _ _ hbl').trans d1, (ec _ _ hbl').trans d2, (ec _ _ hbl').trans d3, (ec _ _ hbl').trans d4⟩))
      go_wp2_with fail
      go_roundw
      case rel => exact ⟨k + 1, unhide Hlt, by go_num, hb.trans (E2.mono hb.size)⟩
      case measure => have := unhide Hlt; simp [intOf]; omega
    · have i3 : ¬ ((k : Int) < (n : Int)) := by omega
      go_wp2_with fail
      go_ret
      exact ⟨rfl, hb⟩

set_option maxHeartbeats 800000 in
theorem eqStmt_same (s : St) (w : World) :
    Calls Tryz.prog 50 #[.agg #[.int .i64 s.kind, .string s.name, .int .i64 s.cond, .int .i64 s.grant], .agg #[.int .i64 s.kind, .string s.name, .int .i64 s.cond, .int .i64 s.grant]] w fun e w' => e = .returned (.bool true) ∧ Below w.heap.size w w' := by
  go_enter Tryz.func50, Tryz.ntmps50
  go_wp2
  go_ret
  exact ⟨rfl, ((Below.refl w.heap.size w).alloc (Nat.le_refl _) _).alloc (by simp) _⟩

set_option maxRecDepth 100000 in
set_option maxHeartbeats 1600000 in
theorem eqStmtS_same (a a' : Option Addr) (n c c' : Nat) (N : List St) (w : World) (h : Sts w a n c N) (h' : Sts w a' n c' N) :
    Calls Tryz.prog 26 #[.slice a n c, .slice a' n c'] w fun e w' => e = .returned (.bool true) ∧ Below w.heap.size w w' := by
  have hn := h.small
  have Hl := hide h.len
  go_enter Tryz.func26, Tryz.ntmps26
  go_wp2_with fail
  go_loopw [5] (fun i wr => ∃ k : Nat, k ≤ n ∧ i = .int .i64 k ∧ Below w.heap.size w wr) (fun i _ => n - (intOf i).toNat)
  case atStart => exact ⟨0, Nat.zero_le _, rfl, Below.refl _ _⟩
  case round =>
    obtain ⟨k, hk, rfl, hb⟩ := hrel
    by_cases hlt : k < n
    · have hkl : k < N.length := by rw [unhide Hl]; exact hlt
      obtain ⟨b, off, rfl, hbl, c0, c1, c2, c3⟩ := (h.below hb (Nat.le_refl _)).cells k hkl
      obtain ⟨b', off', rfl, hbl', d0, d1, d2, d3⟩ := (h'.below hb (Nat.le_refl _)).cells k hkl
      have i3 : (k : Int) < (n : Int) := by omega
      generalize N[k] = x at c0 c1 c2 c3 d0 d1 d2 d3
      have Hlt := hide hlt
      clear hlt h h'
      go_wp2_with fail
      have D1 : Below wr.heap.size wr wr.drew := (Below.refl _ _).drew
      have q1 : wr.drew.cell? ⟨b, off + k * 4, none⟩ = some (.int .i64 x.kind) ∧ wr.drew.cell? ⟨b, off + k * 4 + 1, none⟩ = some (.string x.name) ∧ wr.drew.cell? ⟨b, off + k * 4 + 2, none⟩ = some (.int .i64 x.cond) ∧ wr.drew.cell? ⟨b, off + k * 4 + 3, none⟩ = some (.int .i64 x.grant) ∧ wr.drew.cell? ⟨b', off' + k * 4, none⟩ = some (.int .i64 x.kind) ∧ wr.drew.cell? ⟨b', off' + k * 4 + 1, none⟩ = some (.string x.name) ∧ wr.drew.cell? ⟨b', off' + k * 4 + 2, none⟩ = some (.int .i64 x.cond) ∧ wr.drew.cell? ⟨b', off' + k * 4 + 3, none⟩ = some (.int .i64 x.grant) := ⟨c0, c1, c2, c3, d0, d1, d2, d3⟩
      go_region_held3 (fun w' => w'.cell? ⟨b, off + k * 4, none⟩ = some (.int .i64 x.kind) ∧ w'.cell? ⟨b, off + k * 4 + 1, none⟩ = some (.string x.name) ∧ w'.cell? ⟨b, off + k * 4 + 2, none⟩ = some (.int .i64 x.cond) ∧ w'.cell? ⟨b, off + k * 4 + 3, none⟩ = some (.int .i64 x.grant) ∧ w'.cell? ⟨b', off' + k * 4, none⟩ = some (.int .i64 x.kind) ∧ w'.cell? ⟨b', off' + k * 4 + 1, none⟩ = some (.string x.name) ∧ w'.cell? ⟨b', off' + k * 4 + 2, none⟩ = some (.int .i64 x.cond) ∧ w'.cell? ⟨b', off' + k * 4 + 3, none⟩ = some (.int .i64 x.grant)) (first | assumption | go_keep)
        (first
          | (go_at_call 50; refine (eqStmt_same x _).mono ?_; rintro e w2 ⟨rfl, hb2⟩; have E2 := D1.trans (hb2.mono D1.size); obtain ⟨ec, _⟩ := bcell E2; have q2 : w2.cell? ⟨b, off + k * 4, none⟩ = some (.int .i64 x.kind) ∧ w2.cell? ⟨b, off + k * 4 + 1, none⟩ = some (.string x.name) ∧ w2.cell? ⟨b, off + k * 4 + 2, none⟩ = some (.int .i64 x.cond) ∧ w2.cell? ⟨b, off + k * 4 + 3, none⟩ = some (.int .i64 x.grant) ∧ w2.cell? ⟨b', off' + k * 4, none⟩ = some (.int .i64 x.kind) ∧ w2.cell? ⟨b', off' + k * 4 + 1, none⟩ = some (.string x.name) ∧ w2.cell? ⟨b', off' + k * 4 + 2, none⟩ = some (.int .i64 x.cond) ∧ w2.cell? ⟨b', off' + k * 4 + 3, none⟩ = some (.int .i64 x.grant) := ⟨(ec _ _ hbl).trans c0, (ec _ _ hbl).trans c1, (ec _ _ hbl).trans c2, (ec _ _ hbl).trans c3, (ec _ _ hbl').trans d0, (ec _ _ hbl').trans d1, (ec _ _ hbl').trans d2, (ec _ _ hbl').trans d3⟩))
      go_wp2_with fail
      go_roundw
      case rel => exact ⟨k + 1, unhide Hlt, by go_num, hb.trans (E2.mono hb.size)⟩
      case measure => have := unhide Hlt; simp [intOf]; omega
    · have i3 : ¬ ((k : Int) < (n : Int)) := by omega
      go_wp2_with fail
      go_ret
      exact ⟨rfl, hb⟩

end Go.Proofs.YtddpcehgopeklaaGreatDoor

namespace Go.Proofs.YtddpcehgopeklaaGreatDoor
open Go.RowKit
set_option linter.unusedVariables false

theorem shapeI_iff (N : List Nd) (L : List St) : shapeI N L = true ↔ ∃ S, runT (N.map Nd.kids) N.length [] 0 = some S ∧ topsI S = L.flatMap askedOf := by
  rw [shapeI]
  cases h : runT (N.map Nd.kids) N.length [] 0 with
  | none => simp
  | some S => simp

/-- the program and the model say the same -/
theorem well_same (N : List Nd) (L : List St) : wellI N L = true ↔ (N.length ≤ 4000 ∧ 1 ≤ L.length ∧ L.length ≤ 600) ∧ N.all fieldsB = true ∧ ValidS N L := by
  rw [← valid_same, ValidI, ← shapeI_iff, wellI]
  simp only [Bool.and_eq_true, decide_eq_true_eq]
  constructor
  · rintro ⟨⟨⟨h1, h2, h3⟩, h4⟩, h5⟩
    exact ⟨⟨h1, h2⟩, h4, h3, h5⟩
  · rintro ⟨⟨h1, h2⟩, h4, h3, h5⟩
    exact ⟨⟨⟨h1, h2, h3⟩, h4⟩, h5⟩

theorem shape_well {n m : Nat} {N : List Nd} {L : List St} {e : Ending} (h : ShapeAns n m N L e) (hn : N.length = n) (hm : L.length = m) : e = .returned (.bool (wellI N L)) := by
  obtain ⟨b, rfl, hb⟩ := h
  have : b = wellI N L := by
    rw [Bool.eq_iff_iff, hb, well_same, hn, hm]
  rw [this]

set_option maxHeartbeats 800000 in
theorem sValidPolicy_any (a b : Option Addr) (n c m d : Nat) (N : List Nd) (L : List St) (w : World) (h1 : Nds w a n c N) (h2 : Sts w b m d L) :
    Calls Tryz.prog 16 #[.agg #[.slice a n c, .slice b m d]] w fun e w' => e = .returned (.bool (wellI N L)) ∧ Below w.heap.size w w' := by
  have B0 := (Below.refl w.heap.size w).alloc (Nat.le_refl _) (.cells #[.slice a n c, .slice b m d] 37)
  have HN := hide h1.len
  have HL := hide h2.len
  go_enter Tryz.func16, Tryz.ntmps16
  go_wp2_with (go_at_call 36; refine (l2shape_any _ _ _ _ _ _ N L _ (h1.below B0 (Nat.le_refl _)) (h2.below B0 (Nat.le_refl _))).mono ?_; rintro e w2 ⟨he, hb2⟩; have he2 := shape_well he (unhide HN) (unhide HL); subst he2; clear he)
  go_ret
  exact ⟨rfl, B0.trans (hb2.mono B0.size)⟩

end Go.Proofs.YtddpcehgopeklaaGreatDoor

namespace Go.Proofs.YtddpcehgopeklaaGreatDoor
open Go.RowKit
set_option linter.unusedVariables false

set_option maxHeartbeats 1600000 in
theorem eqTyped_same (a a' b b' f f' : Option Addr) (n c c' m d d' p g g' : Nat) (N : List Nd) (L : List St) (T : List Int) (w : World) (h1 : Nds w a n c N) (h1' : Nds w a' n c' N) (h2 : Sts w b m d L) (h2' : Sts w b' m d' L) (h3 : Ints w f p g T) (h3' : Ints w f' p g' T) :
    Calls Tryz.prog 8 #[.agg #[.slice a n c, .slice b m d, .slice f p g], .agg #[.slice a' n c', .slice b' m d', .slice f' p g']] w fun e w' => e = .returned (.bool true) ∧ Below w.heap.size w w' := by
  have B0 := ((Below.refl w.heap.size w).alloc (Nat.le_refl _) (.cells #[.slice a n c, .slice b m d, .slice f p g] 31)).alloc (by simp) (.cells #[.slice a' n c', .slice b' m d', .slice f' p g'] 31)
  have R0 := (Row.new w #[.slice a n c, .slice b m d, .slice f p g] 31).alloc (.cells #[.slice a' n c', .slice b' m d', .slice f' p g'] 31)
  have R1 := Row.new (w.alloc (.cells #[.slice a n c, .slice b m d, .slice f p g] 31)) #[.slice a' n c', .slice b' m d', .slice f' p g'] 31
  simp only [World.size_alloc] at R1
  go_enter Tryz.func8, Tryz.ntmps8
  go_wp2_with fail
  refine (eqNodeS_same _ _ _ _ _ _ _ (h1.below B0 (Nat.le_refl _)) (h1'.below B0 (Nat.le_refl _))).mono ?_
  rintro e w1 ⟨rfl, hb1⟩
  have B1 := B0.trans (hb1.mono (by simp; omega))
  have A1 := R0.after hb1 (Nat.le_refl _)
  have A2 := R1.after hb1 (Nat.le_refl _)
  obtain ⟨q0, q1, q2⟩ := rowT3 A1
  obtain ⟨s0, s1, s2⟩ := rowT3 A2
  have z1 := hb1.size
  simp at z1
  clear R0 R1 B0 hb1
  try dsimp only
  go_wp2_with fail
  refine (eqStmtS_same _ _ _ _ _ _ _ (h2.below B1 (Nat.le_refl _)) (h2'.below B1 (Nat.le_refl _))).mono ?_
  rintro e w2 ⟨rfl, hb2⟩
  have B2 := B1.trans (hb2.mono (by omega))
  obtain ⟨t0, t1, t2⟩ := rowT3 (A1.after hb2 (Nat.le_refl _))
  obtain ⟨u0, u1, u2⟩ := rowT3 (A2.after hb2 (Nat.le_refl _))
  try dsimp only
  go_wp2_with fail
  refine (eqIntS_same _ _ _ _ _ _ _ (h3.below B2 (Nat.le_refl _)) (h3'.below B2 (Nat.le_refl _))).mono ?_
  rintro e w3 ⟨rfl, hb3⟩
  go_wp2_with fail
  go_ret
  exact ⟨rfl, B2.trans (hb3.mono (by have := hb2.size; omega))⟩

end Go.Proofs.YtddpcehgopeklaaGreatDoor

namespace Go.Proofs.YtddpcehgopeklaaGreatDoor
open Go.RowKit
set_option linter.unusedVariables false

set_option maxHeartbeats 1600000 in
theorem eqPolicy_same (a a' b b' : Option Addr) (n c c' m d d' : Nat) (N : List Nd) (L : List St) (w : World) (h1 : Nds w a n c N) (h1' : Nds w a' n c' N) (h2 : Sts w b m d L) (h2' : Sts w b' m d' L) :
    Calls Tryz.prog 10 #[.agg #[.slice a n c, .slice b m d], .agg #[.slice a' n c', .slice b' m d']] w fun e w' => e = .returned (.bool true) ∧ Below w.heap.size w w' := by
  have B0 := ((Below.refl w.heap.size w).alloc (Nat.le_refl _) (.cells #[.slice a n c, .slice b m d] 37)).alloc (by simp) (.cells #[.slice a' n c', .slice b' m d'] 37)
  have R0 := (Row.new w #[.slice a n c, .slice b m d] 37).alloc (.cells #[.slice a' n c', .slice b' m d'] 37)
  have R1 := Row.new (w.alloc (.cells #[.slice a n c, .slice b m d] 37)) #[.slice a' n c', .slice b' m d'] 37
  simp only [World.size_alloc] at R1
  go_enter Tryz.func10, Tryz.ntmps10
  go_wp2_with fail
  refine (eqNodeS_same _ _ _ _ _ _ _ (h1.below B0 (Nat.le_refl _)) (h1'.below B0 (Nat.le_refl _))).mono ?_
  rintro e w1 ⟨rfl, hb1⟩
  have B1 := B0.trans (hb1.mono (by simp; omega))
  have q0 := (R0.after hb1 (Nat.le_refl _)).cell 1
  have q1 := (R1.after hb1 (Nat.le_refl _)).cell 1
  have z1 := hb1.size
  simp at q0 q1 z1
  clear R0 R1 B0 hb1
  go_wp2_with fail
  refine (eqStmtS_same _ _ _ _ _ _ _ (h2.below B1 (Nat.le_refl _)) (h2'.below B1 (Nat.le_refl _))).mono ?_
  rintro e w2 ⟨rfl, hb2⟩
  go_wp2_with fail
  go_ret
  exact ⟨rfl, B1.trans (hb2.mono (by omega))⟩

end Go.Proofs.YtddpcehgopeklaaGreatDoor
