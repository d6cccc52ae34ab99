/-
  ZT2, VPX, ZT3. Own work.
-/
import Derived.Test.YtjapdeehnfoonaaGreatDoorZT1
import Derived.Test.YtjapdeehnfoonaaGreatDoorVPW
import Derived.Test.YtjapdeehnfoonaaGreatDoorMWJ
namespace Go.Proofs.YtjapdeehnfoonaaGreatDoor
open Go.RowKit
set_option linter.unusedVariables false

theorem Ints.setFar2 {w : World} {a : Option Addr} {n c : Nat} {L : List Int} (h : Ints w a n c L) {q : Addr} (hq : ∀ x, a = some x → x.block ≠ q.block) (u : Value) : Ints (w.setCell q u) a n c L :=
  ⟨h.len, h.small, fun j hj => by
    obtain ⟨b, off, hb, hl, c0⟩ := h.cells j hj
    refine ⟨b, off, hb, by simpa using hl, ?_⟩
    rw [World.cell?_of_block (w := w) (heap_setCell_other w q b u (hq _ hb))]
    exact c0⟩

set_option maxHeartbeats 3200000 in
theorem toTyped_any (a b f : Option Addr) (n c m d p g : Nat) (N : List Nd) (L : List St) (T : List Int) (w : World) (h1 : NdsR w a n c N) (h2 : StsR w b m d L) (h3 : IntsR w f p g T) (hs : smallT n m p N L) :
    Calls Tryz.prog 6 #[.agg #[.slice a n c, .slice b m d, .slice f p g]] w fun e w' => ∃ x1 x2 x3, e = .returned (.agg #[.slice (some x1) n n, .slice (some x2) m m, .slice (some x3) p p]) ∧ Nds w' (some x1) n n N ∧ Sts w' (some x2) m m L ∧ Ints w' (some x3) p p T ∧ Below w.heap.size w w' := by
  go_enter Tryz.func6, Tryz.ntmps6
  go_wp2_with fail
  have B0 := ((((Below.refl w.heap.size w).alloc (Nat.le_refl _) (.cells #[.slice a n c, .slice b m d, .slice f p g] 26)).alloc (by simp) (.cells #[.slice none 0 0, .slice none 0 0, .slice none 0 0] 32)).alloc (by simp; omega) (.cells #[.slice none 0 0, .slice none 0 0, .slice none 0 0] 32))
  have R0 := ((Row.new w #[.slice a n c, .slice b m d, .slice f p g] 26).alloc (.cells #[.slice none 0 0, .slice none 0 0, .slice none 0 0] 32)).alloc (.cells #[.slice none 0 0, .slice none 0 0, .slice none 0 0] 32)
  have R1 := (Row.new (w.alloc (.cells #[.slice a n c, .slice b m d, .slice f p g] 26)) #[.slice none 0 0, .slice none 0 0, .slice none 0 0] 32).alloc (.cells #[.slice none 0 0, .slice none 0 0, .slice none 0 0] 32)
  have R2 := Row.new ((w.alloc (.cells #[.slice a n c, .slice b m d, .slice f p g] 26)).alloc (.cells #[.slice none 0 0, .slice none 0 0, .slice none 0 0] 32)) #[.slice none 0 0, .slice none 0 0, .slice none 0 0] 32
  simp only [World.size_alloc] at R1 R2
  refine (toNodeS_any _ _ _ _ _ (h1.below B0 (Nat.le_refl _)) hs.1.1.1 hs.1.1.2).mono ?_
  rintro e w1 ⟨rfl, hb1, ho1⟩
  have B1 := B0.trans (hb1.mono (by simp; omega))
  have r0 := R0.after hb1 (Nat.le_refl _)
  have r1 := R1.after hb1 (Nat.le_refl _)
  have r2 := R2.after hb1 (Nat.le_refl _)
  have z1 := hb1.size
  simp only [World.size_alloc] at z1 ho1 ⊢
  clear B0 R0 R1 R2 hb1
  generalize hg0 : w.heap.size = g0 at r0 r1 r2 z1 ho1 B1 ⊢
  generalize hg1 : g0 + 1 = g1 at r1 r2 z1 ho1 ⊢
  generalize hg2 : g1 + 1 = g2 at r2 z1 ho1 ⊢
  generalize hg3 : g2 + 1 = g3 at z1 ho1 ⊢
  have O1 : g0 < g1 ∧ g1 < g2 ∧ g2 < g3 ∧ g3 ≤ w1.heap.size := by omega
  have HG := hide hg0
  clear hg1 hg2 hg3 hg0
  obtain ⟨k0, k1, k2⟩ := rowT3 r0
  obtain ⟨q0, q1, q2⟩ := rowT3 r2
  have qf := fun j => r2.frozen j
  try dsimp only
  go_wp2_with fail
  have B2 := B1.setCell (p := ⟨g2, 0, none⟩) (by show g0 ≤ g2; omega) (.slice (some ⟨g3, 0, none⟩) n n)
  have C2 : Below w.heap.size w (w1.setCell ⟨g2, 0, none⟩ (.slice (some ⟨g3, 0, none⟩) n n)) := by rw [unhide HG]; exact B2
  refine (toStmtS_any _ _ _ _ _ (h2.below C2 (Nat.le_refl _)) hs.1.2.1 hs.1.2.2).mono ?_
  rintro e w2 ⟨rfl, hb2, ho2⟩
  have r0' := (r0.setFar (p := ⟨g2, 0, none⟩) (by show g0 ≠ g2; omega) (.slice (some ⟨g3, 0, none⟩) n n)).after hb2 (Nat.le_refl _)
  have r1' := (r1.setFar (p := ⟨g2, 0, none⟩) (by show g1 ≠ g2; omega) (.slice (some ⟨g3, 0, none⟩) n n)).after hb2 (Nat.le_refl _)
  have r2' := (r2.set 0 (.slice (some ⟨g3, 0, none⟩) n n)).after hb2 (Nat.le_refl _)
  have s1 := (ho1.setLow (p := ⟨g2, 0, none⟩) (by show g2 < g3; omega) (.slice (some ⟨g3, 0, none⟩) n n)).below hb2 (Nat.le_refl _)
  have B3 := B2.trans (hb2.mono (by simp; omega))
  have z2 := hb2.size
  simp only [World.size_setCell] at z2 ho2 ⊢
  clear r0 r1 r2 ho1 k0 k1 k2 q0 q1 q2 qf B1 B2 C2 hb2
  generalize hg4 : w1.heap.size = g4 at O1 z2 ho2 ⊢
  clear hg4
  obtain ⟨k0, k1, k2⟩ := rowT3 r0'
  obtain ⟨q0, q1, q2⟩ := rowT3 r2'
  have qf := fun j => r2'.frozen j
  try dsimp only
  go_wp2_with fail
  have B4 := B3.setCell (p := ⟨g2, 1, none⟩) (by show g0 ≤ g2; omega) (.slice (some ⟨g4, 0, none⟩) m m)
  have C4 : Below w.heap.size w (w2.setCell ⟨g2, 1, none⟩ (.slice (some ⟨g4, 0, none⟩) m m)) := by rw [unhide HG]; exact B4
  refine (toIntS_any _ _ _ _ _ (h3.below C4 (Nat.le_refl _)) hs.2).mono ?_
  rintro e w3 ⟨rfl, hb3, ho3⟩
  have r1'' := (r1'.setFar (p := ⟨g2, 1, none⟩) (by show g1 ≠ g2; omega) (.slice (some ⟨g4, 0, none⟩) m m)).after hb3 (Nat.le_refl _)
  have r2'' := (r2'.set 1 (.slice (some ⟨g4, 0, none⟩) m m)).after hb3 (Nat.le_refl _)
  have s2 := (s1.setLow (p := ⟨g2, 1, none⟩) (by show g2 < g3; omega) (.slice (some ⟨g4, 0, none⟩) m m)).below hb3 (Nat.le_refl _)
  have t2 := (Sts.setFar ho2 (p := ⟨g2, 1, none⟩) (by show g2 ≠ g4; omega) (.slice (some ⟨g4, 0, none⟩) m m)).below hb3 (Nat.le_refl _)
  have B5 := B4.trans (hb3.mono (by simp; omega))
  have z3 := hb3.size
  simp only [World.size_setCell] at z3 ho3 ⊢
  have I3 := ints_of_row ho3 hs.2
  clear r0' r1' r2' s1 ho2 ho3 k0 k1 k2 q0 q1 q2 qf B3 B4 C4 hb3
  generalize hg5 : w2.heap.size = g5 at z2 z3 I3 ⊢
  clear hg5
  have f1 := fun j => r1''.frozen j
  have f2 := fun j => r2''.frozen j
  obtain ⟨p0, p1, p2⟩ := rowT3 r1''
  obtain ⟨q0, q1, q2⟩ := rowT3 r2''
  try dsimp only
  go_wp2_with fail
  refine bodyPost_ret (v := .agg #[.slice (some ⟨g3, 0, none⟩) n n, .slice (some ⟨g4, 0, none⟩) m m, .slice (some ⟨g5, 0, none⟩) p p]) (by simp [results, Tryz.results6, go_sem, p0, p1, p2]) rfl ⟨_, _, _, rfl, ?_, ?_, ?_, ?_⟩
  · refine Hi.nds ?_ h1.len hs.1.1.1 hs.1.1.2
    refine Hi.setLow (Hi.setLow (Hi.setLow (Hi.setLow s2 ?_ _) ?_ _) ?_ _) ?_ _
    all_goals (dsimp only; omega)
  · refine Sts.setFar (Sts.setFar (Sts.setFar (Sts.setFar t2 ?_ _) ?_ _) ?_ _) ?_ _
    all_goals (dsimp only; omega)
  · refine Ints.setFar2 (Ints.setFar2 (Ints.setFar2 (Ints.setFar2 I3 ?_ _) ?_ _) ?_ _) ?_ _
    all_goals (intro x hx; cases hx; dsimp only; omega)
  · rw [unhide HG]
    refine Below.setCell (Below.setCell (Below.setCell (Below.setCell B5 ?_ _) ?_ _) ?_ _) ?_ _
    all_goals (dsimp only; omega)

end Go.Proofs.YtjapdeehnfoonaaGreatDoor

namespace Go.Proofs.YtjapdeehnfoonaaGreatDoor
open Go.RowKit
set_option linter.unusedVariables false

set_option maxHeartbeats 800000 in
theorem eqIntS_same (a a' : Option Addr) (n c c' : Nat) (L : List Int) (w : World) (h : Ints w a n c L) (h' : Ints w a' n c' L) :
    Calls Tryz.prog 23 #[.slice a n c, .slice a' n c'] w fun e w' => e = .returned (.bool true) ∧ Below w.heap.size w w' := by
  have hn := h.small
  have Hl := hide h.len
  go_enter Tryz.func23, Tryz.ntmps23
  go_wp2
  go_loopw [5] (fun i wr => ∃ k : Nat, k ≤ n ∧ i = .int .i64 k ∧ Below w.heap.size w wr) (fun i _ => n - (intOf i).toNat)
  case atStart => exact ⟨0, Nat.zero_le _, rfl, Below.refl _ _⟩
  case round =>
    obtain ⟨k, hk, rfl, hb⟩ := hrel
    by_cases hlt : k < n
    · have hkl : k < L.length := by rw [unhide Hl]; exact hlt
      obtain ⟨b, off, rfl, _, hc⟩ := (h.below hb (Nat.le_refl _)).cells k hkl
      obtain ⟨b', off', rfl, _, hc'⟩ := (h'.below hb (Nat.le_refl _)).cells k hkl
      have i3 : (k : Int) < (n : Int) := by omega
      generalize L[k] = x at hc hc'
      go_wp2
      go_quiet (fail)
      go_wp2
      go_roundw
      case rel => exact ⟨k + 1, by omega, by go_num, hb.trans ((below_drewM wr _).mono hb.size)⟩
      case measure => simp [intOf]; omega
    · go_wp2
      go_ret
      exact ⟨rfl, hb⟩

set_option maxRecDepth 100000 in
set_option maxHeartbeats 1600000 in
theorem eqNode_same (x : Nd) (an an' : Option Addr) (nn cn cn' : Nat) (ak ak' : Option Addr) (nk ck ck' : Nat) (w : World)
    (h1 : Strs w an nn cn x.names) (h1' : Strs w an' nn cn' x.names) (h2 : Ints w ak nk ck x.kids) (h2' : Ints w ak' nk ck' x.kids) :
    Calls Tryz.prog 39 #[.agg #[.int .i64 x.op, .int .i64 x.num, .string x.text, .slice an nn cn, .slice ak nk ck], .agg #[.int .i64 x.op, .int .i64 x.num, .string x.text, .slice an' nn cn', .slice ak' nk ck']] w fun e w' => e = .returned (.bool true) ∧ Below w.heap.size w w' := by
  have B0 := ((Below.refl w.heap.size w).alloc (Nat.le_refl _) (.cells #[.int .i64 x.op, .int .i64 x.num, .string x.text, .slice an nn cn, .slice ak nk ck] 69)).alloc (by simp) (.cells #[.int .i64 x.op, .int .i64 x.num, .string x.text, .slice an' nn cn', .slice ak' nk ck'] 69)
  have R0 := (Row.new w #[.int .i64 x.op, .int .i64 x.num, .string x.text, .slice an nn cn, .slice ak nk ck] 69).alloc (.cells #[.int .i64 x.op, .int .i64 x.num, .string x.text, .slice an' nn cn', .slice ak' nk ck'] 69)
  have R1 := Row.new (w.alloc (.cells #[.int .i64 x.op, .int .i64 x.num, .string x.text, .slice an nn cn, .slice ak nk ck] 69)) #[.int .i64 x.op, .int .i64 x.num, .string x.text, .slice an' nn cn', .slice ak' nk ck'] 69
  simp only [World.size_alloc] at R1
  go_enter Tryz.func39, Tryz.ntmps39
  go_wp2_with fail
  refine (eqStringS_same _ _ _ _ _ _ _ (h1.below B0 (Nat.le_refl _)) (h1'.below B0 (Nat.le_refl _))).mono ?_
  rintro e w1 ⟨rfl, hb1⟩
  have B1 := B0.trans (hb1.mono (by simp; omega))
  have q0 := (R0.after hb1 (Nat.le_refl _)).cell 4
  have q1 := (R1.after hb1 (Nat.le_refl _)).cell 4
  have z1 := hb1.size
  simp at q0 q1 z1
  clear R0 R1 B0 hb1
  go_wp2_with fail
  refine (eqIntS_same _ _ _ _ _ _ _ (h2.below B1 (Nat.le_refl _)) (h2'.below B1 (Nat.le_refl _))).mono ?_
  rintro e w2 ⟨rfl, hb2⟩
  go_wp2_with fail
  go_ret
  exact ⟨rfl, B1.trans (hb2.mono (by omega))⟩

set_option maxRecDepth 100000 in
set_option maxHeartbeats 1600000 in
theorem eqNodeS_same (a a' : Option Addr) (n c c' : Nat) (N : List Nd) (w : World) (h : Nds w a n c N) (h' : Nds w a' n c' N) :
    Calls Tryz.prog 21 #[.slice a n c, .slice a' n c'] w fun e w' => e = .returned (.bool true) ∧ Below w.heap.size w w' := by
  have hn := h.small
  have Hl := hide h.len
  go_enter Tryz.func21, Tryz.ntmps21
  go_wp2_with fail
  go_loopw [5] (fun i wr => ∃ k : Nat, k ≤ n ∧ i = .int .i64 k ∧ Below w.heap.size w wr) (fun i _ => n - (intOf i).toNat)
  case atStart => exact ⟨0, Nat.zero_le _, rfl, Below.refl _ _⟩
  case round =>
    obtain ⟨k, hk, rfl, hb⟩ := hrel
    by_cases hlt : k < n
    · have hkl : k < N.length := by rw [unhide Hl]; exact hlt
      obtain ⟨b, off, rfl, hbl, an, nn, cn, ak, nk, ck, c0, c1, c2, c3, c4, hN, hK⟩ := (h.below hb (Nat.le_refl _)).cells k hkl
      obtain ⟨b', off', rfl, hbl', an', nn', cn', ak', nk', ck', d0, d1, d2, d3, d4, hN', hK'⟩ := (h'.below hb (Nat.le_refl _)).cells k hkl
      have i3 : (k : Int) < (n : Int) := by omega
      generalize N[k] = x at c0 c1 c2 c3 c4 hN hK d0 d1 d2 d3 d4 hN' hK'
      obtain rfl : nn = nn' := by rw [hN.len, hN'.len]
      obtain rfl : nk = nk' := by rw [← hK.len, ← hK'.len]
      have Hlt := hide hlt
      clear hlt h h'
      go_wp2_with fail
      have D1 : Below wr.heap.size wr wr.drew := (Below.refl _ _).drew
      have q1 : wr.drew.cell? ⟨b, off + k * 5, none⟩ = some (.int .i64 x.op) ∧ wr.drew.cell? ⟨b, off + k * 5 + 1, none⟩ = some (.int .i64 x.num) ∧ wr.drew.cell? ⟨b, off + k * 5 + 2, none⟩ = some (.string x.text) ∧ wr.drew.cell? ⟨b, off + k * 5 + 3, none⟩ = some (.slice an nn cn) ∧ wr.drew.cell? ⟨b, off + k * 5 + 4, none⟩ = some (.slice ak nk ck) ∧ wr.drew.cell? ⟨b', off' + k * 5, none⟩ = some (.int .i64 x.op) ∧ wr.drew.cell? ⟨b', off' + k * 5 + 1, none⟩ = some (.int .i64 x.num) ∧ wr.drew.cell? ⟨b', off' + k * 5 + 2, none⟩ = some (.string x.text) ∧ wr.drew.cell? ⟨b', off' + k * 5 + 3, none⟩ = some (.slice an' nn cn') ∧ wr.drew.cell? ⟨b', off' + k * 5 + 4, none⟩ = some (.slice ak' nk ck') := ⟨c0, c1, c2, c3, c4, d0, d1, d2, d3, d4⟩
      go_region_held3 (fun w' => w'.cell? ⟨b, off + k * 5, none⟩ = some (.int .i64 x.op) ∧ w'.cell? ⟨b, off + k * 5 + 1, none⟩ = some (.int .i64 x.num) ∧ w'.cell? ⟨b, off + k * 5 + 2, none⟩ = some (.string x.text) ∧ w'.cell? ⟨b, off + k * 5 + 3, none⟩ = some (.slice an nn cn) ∧ w'.cell? ⟨b, off + k * 5 + 4, none⟩ = some (.slice ak nk ck) ∧ w'.cell? ⟨b', off' + k * 5, none⟩ = some (.int .i64 x.op) ∧ w'.cell? ⟨b', off' + k * 5 + 1, none⟩ = some (.int .i64 x.num) ∧ w'.cell? ⟨b', off' + k * 5 + 2, none⟩ = some (.string x.text) ∧ w'.cell? ⟨b', off' + k * 5 + 3, none⟩ = some (.slice an' nn cn') ∧ w'.cell? ⟨b', off' + k * 5 + 4, none⟩ = some (.slice ak' nk ck')) (first | assumption | go_keep)
        (first
          | (go_at_call 39; refine (eqNode_same x _ _ _ _ _ _ _ _ _ _ _ (hN.below D1 (Nat.le_refl _)) (hN'.below D1 (Nat.le_refl _)) (hK.below D1 (Nat.le_refl _)) (hK'.below D1 (Nat.le_refl _))).mono ?_; rintro e w2 ⟨rfl, hb2⟩; have E2 := D1.trans (hb2.mono D1.size); obtain ⟨ec, _⟩ := bcell E2; have q2 : w2.cell? ⟨b, off + k * 5, none⟩ = some (.int .i64 x.op) ∧ w2.cell? ⟨b, off + k * 5 + 1, none⟩ = some (.int .i64 x.num) ∧ w2.cell? ⟨b, off + k * 5 + 2, none⟩ = some (.string x.text) ∧ w2.cell? ⟨b, off + k * 5 + 3, none⟩ = some (.slice an nn cn) ∧ w2.cell? ⟨b, off + k * 5 + 4, none⟩ = some (.slice ak nk ck) ∧ w2.cell? ⟨b', off' + k * 5, none⟩ = some (.int .i64 x.op) ∧ w2.cell? ⟨b', off' + k * 5 + 1, none⟩ = some (.int .i64 x.num) ∧ w2.cell? ⟨b', off' + k * 5 + 2, none⟩ = some (.string x.text) ∧ w2.cell? ⟨b', off' + k * 5 + 3, none⟩ = some (.slice an' nn cn') ∧ w2.cell? ⟨b', off' + k * 5 + 4, none⟩ = some (.slice ak' nk ck') := ⟨(ec _ _ hbl).trans c0, (ec _ _ hbl).trans c1, (ec _ _ hbl).trans c2, (ec _ _ hbl).trans c3, (ec _ _ hbl).trans c4, (ec _ _ hbl').trans d0, (ec _ _ hbl').trans d1, (ec _ _ hbl').trans d2, (ec _ _ hbl').trans d3, (ec _ _ hbl').trans d4⟩))
      go_wp2_with fail
      go_roundw
      case rel => exact ⟨k + 1, unhide Hlt, by go_num, hb.trans (E2.mono hb.size)⟩
      case measure => have := unhide Hlt; simp [intOf]; omega
    · have i3 : ¬ ((k : Int) < (n : Int)) := by omega
      go_wp2_with fail
      go_ret
      exact ⟨rfl, hb⟩

set_option maxHeartbeats 800000 in
theorem eqStmt_same (s : St) (w : World) :
    Calls Tryz.prog 40 #[.agg #[.int .i64 s.kind, .string s.name, .int .i64 s.cond, .int .i64 s.grant], .agg #[.int .i64 s.kind, .string s.name, .int .i64 s.cond, .int .i64 s.grant]] w fun e w' => e = .returned (.bool true) ∧ Below w.heap.size w w' := by
  go_enter Tryz.func40, Tryz.ntmps40
  go_wp2
  go_ret
  exact ⟨rfl, ((Below.refl w.heap.size w).alloc (Nat.le_refl _) _).alloc (by simp) _⟩

set_option maxRecDepth 100000 in
set_option maxHeartbeats 1600000 in
theorem eqStmtS_same (a a' : Option Addr) (n c c' : Nat) (N : List St) (w : World) (h : Sts w a n c N) (h' : Sts w a' n c' N) :
    Calls Tryz.prog 22 #[.slice a n c, .slice a' n c'] w fun e w' => e = .returned (.bool true) ∧ Below w.heap.size w w' := by
  have hn := h.small
  have Hl := hide h.len
  go_enter Tryz.func22, Tryz.ntmps22
  go_wp2_with fail
  go_loopw [5] (fun i wr => ∃ k : Nat, k ≤ n ∧ i = .int .i64 k ∧ Below w.heap.size w wr) (fun i _ => n - (intOf i).toNat)
  case atStart => exact ⟨0, Nat.zero_le _, rfl, Below.refl _ _⟩
  case round =>
    obtain ⟨k, hk, rfl, hb⟩ := hrel
    by_cases hlt : k < n
    · have hkl : k < N.length := by rw [unhide Hl]; exact hlt
      obtain ⟨b, off, rfl, hbl, c0, c1, c2, c3⟩ := (h.below hb (Nat.le_refl _)).cells k hkl
      obtain ⟨b', off', rfl, hbl', d0, d1, d2, d3⟩ := (h'.below hb (Nat.le_refl _)).cells k hkl
      have i3 : (k : Int) < (n : Int) := by omega
      generalize N[k] = x at c0 c1 c2 c3 d0 d1 d2 d3
      have Hlt := hide hlt
      clear hlt h h'
      go_wp2_with fail
      have D1 : Below wr.heap.size wr wr.drew := (Below.refl _ _).drew
      have q1 : wr.drew.cell? ⟨b, off + k * 4, none⟩ = some (.int .i64 x.kind) ∧ wr.drew.cell? ⟨b, off + k * 4 + 1, none⟩ = some (.string x.name) ∧ wr.drew.cell? ⟨b, off + k * 4 + 2, none⟩ = some (.int .i64 x.cond) ∧ wr.drew.cell? ⟨b, off + k * 4 + 3, none⟩ = some (.int .i64 x.grant) ∧ wr.drew.cell? ⟨b', off' + k * 4, none⟩ = some (.int .i64 x.kind) ∧ wr.drew.cell? ⟨b', off' + k * 4 + 1, none⟩ = some (.string x.name) ∧ wr.drew.cell? ⟨b', off' + k * 4 + 2, none⟩ = some (.int .i64 x.cond) ∧ wr.drew.cell? ⟨b', off' + k * 4 + 3, none⟩ = some (.int .i64 x.grant) := ⟨c0, c1, c2, c3, d0, d1, d2, d3⟩
      go_region_held3 (fun w' => w'.cell? ⟨b, off + k * 4, none⟩ = some (.int .i64 x.kind) ∧ w'.cell? ⟨b, off + k * 4 + 1, none⟩ = some (.string x.name) ∧ w'.cell? ⟨b, off + k * 4 + 2, none⟩ = some (.int .i64 x.cond) ∧ w'.cell? ⟨b, off + k * 4 + 3, none⟩ = some (.int .i64 x.grant) ∧ w'.cell? ⟨b', off' + k * 4, none⟩ = some (.int .i64 x.kind) ∧ w'.cell? ⟨b', off' + k * 4 + 1, none⟩ = some (.string x.name) ∧ w'.cell? ⟨b', off' + k * 4 + 2, none⟩ = some (.int .i64 x.cond) ∧ w'.cell? ⟨b', off' + k * 4 + 3, none⟩ = some (.int .i64 x.grant)) (first | assumption | go_keep)
        (first
          | (go_at_call 40; refine (eqStmt_same x _).mono ?_; rintro e w2 ⟨rfl, hb2⟩; have E2 := D1.trans (hb2.mono D1.size); obtain ⟨ec, _⟩ := bcell E2; have q2 : w2.cell? ⟨b, off + k * 4, none⟩ = some (.int .i64 x.kind) ∧ w2.cell? ⟨b, off + k * 4 + 1, none⟩ = some (.string x.name) ∧ w2.cell? ⟨b, off + k * 4 + 2, none⟩ = some (.int .i64 x.cond) ∧ w2.cell? ⟨b, off + k * 4 + 3, none⟩ = some (.int .i64 x.grant) ∧ w2.cell? ⟨b', off' + k * 4, none⟩ = some (.int .i64 x.kind) ∧ w2.cell? ⟨b', off' + k * 4 + 1, none⟩ = some (.string x.name) ∧ w2.cell? ⟨b', off' + k * 4 + 2, none⟩ = some (.int .i64 x.cond) ∧ w2.cell? ⟨b', off' + k * 4 + 3, none⟩ = some (.int .i64 x.grant) := ⟨(ec _ _ hbl).trans c0, (ec _ _ hbl).trans c1, (ec _ _ hbl).trans c2, (ec _ _ hbl).trans c3, (ec _ _ hbl').trans d0, (ec _ _ hbl').trans d1, (ec _ _ hbl').trans d2, (ec _ _ hbl').trans d3⟩))
      go_wp2_with fail
      go_roundw
      case rel => exact ⟨k + 1, unhide Hlt, by go_num, hb.trans (E2.mono hb.size)⟩
      case measure => have := unhide Hlt; simp [intOf]; omega
    · have i3 : ¬ ((k : Int) < (n : Int)) := by omega
      go_wp2_with fail
      go_ret
      exact ⟨rfl, hb⟩

end Go.Proofs.YtjapdeehnfoonaaGreatDoor

namespace Go.Proofs.YtjapdeehnfoonaaGreatDoor
open Go.RowKit
set_option linter.unusedVariables false

set_option maxHeartbeats 1600000 in
theorem eqTyped_same (a a' b b' f f' : Option Addr) (n c c' m d d' p g g' : Nat) (N : List Nd) (L : List St) (T : List Int) (w : World) (h1 : Nds w a n c N) (h1' : Nds w a' n c' N) (h2 : Sts w b m d L) (h2' : Sts w b' m d' L) (h3 : Ints w f p g T) (h3' : Ints w f' p g' T) :
    Calls Tryz.prog 8 #[.agg #[.slice a n c, .slice b m d, .slice f p g], .agg #[.slice a' n c', .slice b' m d', .slice f' p g']] w fun e w' => e = .returned (.bool true) ∧ Below w.heap.size w w' := by
  have B0 := ((Below.refl w.heap.size w).alloc (Nat.le_refl _) (.cells #[.slice a n c, .slice b m d, .slice f p g] 32)).alloc (by simp) (.cells #[.slice a' n c', .slice b' m d', .slice f' p g'] 32)
  have R0 := (Row.new w #[.slice a n c, .slice b m d, .slice f p g] 32).alloc (.cells #[.slice a' n c', .slice b' m d', .slice f' p g'] 32)
  have R1 := Row.new (w.alloc (.cells #[.slice a n c, .slice b m d, .slice f p g] 32)) #[.slice a' n c', .slice b' m d', .slice f' p g'] 32
  simp only [World.size_alloc] at R1
  go_enter Tryz.func8, Tryz.ntmps8
  go_wp2_with fail
  refine (eqNodeS_same _ _ _ _ _ _ _ (h1.below B0 (Nat.le_refl _)) (h1'.below B0 (Nat.le_refl _))).mono ?_
  rintro e w1 ⟨rfl, hb1⟩
  have B1 := B0.trans (hb1.mono (by simp; omega))
  have A1 := R0.after hb1 (Nat.le_refl _)
  have A2 := R1.after hb1 (Nat.le_refl _)
  obtain ⟨q0, q1, q2⟩ := rowT3 A1
  obtain ⟨s0, s1, s2⟩ := rowT3 A2
  have z1 := hb1.size
  simp at z1
  clear R0 R1 B0 hb1
  try dsimp only
  go_wp2_with fail
  refine (eqStmtS_same _ _ _ _ _ _ _ (h2.below B1 (Nat.le_refl _)) (h2'.below B1 (Nat.le_refl _))).mono ?_
  rintro e w2 ⟨rfl, hb2⟩
  have B2 := B1.trans (hb2.mono (by omega))
  obtain ⟨t0, t1, t2⟩ := rowT3 (A1.after hb2 (Nat.le_refl _))
  obtain ⟨u0, u1, u2⟩ := rowT3 (A2.after hb2 (Nat.le_refl _))
  try dsimp only
  go_wp2_with fail
  refine (eqIntS_same _ _ _ _ _ _ _ (h3.below B2 (Nat.le_refl _)) (h3'.below B2 (Nat.le_refl _))).mono ?_
  rintro e w3 ⟨rfl, hb3⟩
  go_wp2_with fail
  go_ret
  exact ⟨rfl, B2.trans (hb3.mono (by have := hb2.size; omega))⟩

end Go.Proofs.YtjapdeehnfoonaaGreatDoor
