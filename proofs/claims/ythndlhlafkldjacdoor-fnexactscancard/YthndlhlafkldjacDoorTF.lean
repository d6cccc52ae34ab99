/-
  The sentinels of the scanner in memory; a placed error, and the fault that is told of it. Own work.
-/
import Derived.Test.YthndlhlafkldjacDoorAs
import Derived.Test.YthndlhlafkldjacDoorIs
import Derived.Test.YthndlhlafkldjacDoorCMem
import Derived.Test.YthndlhlafkldjacDoorHid
import Derived.Deep.RegionHeld3
namespace Go.Proofs.YthndlhlafkldjacDoor
open Go.RowKit
set_option linter.unusedVariables false

/-- What the scanner's sentinels are, in memory, and the handle that errors.As asks for. -/
structure Snt (w : World) (aS aB aT : Addr) : Prop where
  gS : w.cell? ⟨0, 0, none⟩ = some (.iface 184 (.pointer (some aS)))
  gB : w.cell? ⟨6, 0, none⟩ = some (.iface 184 (.pointer (some aB)))
  gT : w.cell? ⟨7, 0, none⟩ = some (.iface 184 (.pointer (some aT)))
  gE : w.cell? ⟨5, 0, none⟩ = some (.iface 132 (.agg #[.pointer (some ⟨21, 53, none⟩)]))
  gR : ∃ tp p, w.var? Tryd.prog "strconv.ErrRange" = some #[.iface tp p]
  big : 21 ≤ w.heap.size
  rS : ∃ c t, w.heap[aS.block]? = some (.cells c t (0, 0))
  rB : ∃ c t, w.heap[aB.block]? = some (.cells c t (0, 0))
  rT : ∃ c t, w.heap[aT.block]? = some (.cells c t (0, 0))
  nSB : aS ≠ aB
  nST : aS ≠ aT
  nBT : aB ≠ aT

theorem row_below {w w' : World} {B : Nat} {a : Addr} (h : ∃ c t, w.heap[a.block]? = some (.cells c t (0, 0))) (hb : Below B w w') (hB : w.heap.size ≤ B) : ∃ c t, w'.heap[a.block]? = some (.cells c t (0, 0)) := by
  obtain ⟨c, t, h⟩ := h
  have hlt : a.block < w.heap.size := (Array.getElem?_eq_some_iff.1 h).1
  exact ⟨c, t, (hb.block _ (by omega)).trans h⟩

theorem gRange : Tryd.prog.globalNamed "strconv.ErrRange" = some 15 := by kernel_rfl

theorem Snt.below {w w' : World} {B : Nat} {aS aB aT : Addr} (h : Snt w aS aB aT) (hb : Below B w w') (hB : w.heap.size ≤ B) : Snt w' aS aB aT where
  gS := (hb.cell (p := ⟨0, 0, none⟩) (by have := h.big; show 0 < B; omega)).trans h.gS
  gB := (hb.cell (p := ⟨6, 0, none⟩) (by have := h.big; show 6 < B; omega)).trans h.gB
  gT := (hb.cell (p := ⟨7, 0, none⟩) (by have := h.big; show 7 < B; omega)).trans h.gT
  gE := (hb.cell (p := ⟨5, 0, none⟩) (by have := h.big; show 5 < B; omega)).trans h.gE
  gR := by
    obtain ⟨tp, p, e⟩ := h.gR
    refine ⟨tp, p, ?_⟩
    rw [← e]
    unfold World.var?
    rw [gRange]
    simp only [Option.bind_some]
    rw [hb.block 15 (by have := h.big; omega)]
  big := Nat.le_trans h.big hb.size
  rS := row_below h.rS hb hB
  rB := row_below h.rB hb hB
  rT := row_below h.rT hb hB
  nSB := h.nSB
  nST := h.nST
  nBT := h.nBT

theorem Snt.of_heap {w w' : World} {aS aB aT : Addr} (h : Snt w aS aB aT) (e : w'.heap = w.heap) : Snt w' aS aB aT := by
  have c : ∀ p, w'.cell? p = w.cell? p := fun p => by unfold World.cell?; rw [e]
  refine ⟨by rw [c]; exact h.gS, by rw [c]; exact h.gB, by rw [c]; exact h.gT, by rw [c]; exact h.gE, ?_, by rw [e]; exact h.big, by rw [e]; exact h.rS, by rw [e]; exact h.rB, by rw [e]; exact h.rT, h.nSB, h.nST, h.nBT⟩
  obtain ⟨tp, p, k⟩ := h.gR
  refine ⟨tp, p, ?_⟩
  rw [← k]
  unfold World.var?
  rw [e]

variable {aS aB aT : Addr}

/-- the sentinel of a code -/
def causeV (aS aB aT : Addr) (c : Int) : Value := if c = 1 then .iface 184 (.pointer (some aS)) else if c = 2 then .iface 184 (.pointer (some aB)) else .iface 184 (.pointer (some aT))

theorem is_other' {a b : Addr} {w : World} (hne : a ≠ b) (ha : ∃ c t, w.heap[a.block]? = some (.cells c t (0, 0))) (hb : ∃ c t, w.heap[b.block]? = some (.cells c t (0, 0))) :
    Calls Tryd.prog 75 #[.iface 184 (.pointer (some a)), .iface 184 (.pointer (some b))] w fun e w' => e = .returned (.bool false) ∧ w' = w := by
  obtain ⟨c, t, ha⟩ := ha
  obtain ⟨c', t', hb⟩ := hb
  exact is_other a b c c' t t' w hne ha hb

set_option maxHeartbeats 800000 in
theorem faultCode_1 (w : World) (hs : Snt w aS aB aT) :
    Calls Tryd.prog 65 #[.iface 184 (.pointer (some aS))] w fun e w' => e = .returned (.int .i64 1) ∧ w' = w := by
  have h1 := hs.gS
  go_enter Tryd.func65, Tryd.ntmps65
  go_wp2_with fail
  refine (is_same aS w).mono ?_
  rintro e w' ⟨rfl, rfl⟩
  go_wp2_with fail
  go_ret
  exact ⟨rfl, rfl⟩

set_option maxHeartbeats 800000 in
theorem faultCode_2 (w : World) (hs : Snt w aS aB aT) :
    Calls Tryd.prog 65 #[.iface 184 (.pointer (some aB))] w fun e w' => e = .returned (.int .i64 2) ∧ w' = w := by
  have h1 := hs.gS
  have h2 := hs.gB
  go_enter Tryd.func65, Tryd.ntmps65
  go_wp2_with fail
  refine (is_other' (fun e => hs.nSB e.symm) hs.rB hs.rS).mono ?_
  rintro e w' ⟨rfl, rfl⟩
  go_wp2_with fail
  refine (is_same aB _).mono ?_
  rintro e w' ⟨rfl, rfl⟩
  go_wp2_with fail
  go_ret
  exact ⟨rfl, rfl⟩

set_option maxHeartbeats 800000 in
theorem faultCode_3 (w : World) (hs : Snt w aS aB aT) :
    Calls Tryd.prog 65 #[.iface 184 (.pointer (some aT))] w fun e w' => e = .returned (.int .i64 3) ∧ w' = w := by
  have h1 := hs.gS
  have h2 := hs.gB
  have h3 := hs.gT
  go_enter Tryd.func65, Tryd.ntmps65
  go_wp2_with fail
  refine (is_other' (fun e => hs.nST e.symm) hs.rT hs.rS).mono ?_
  rintro e w' ⟨rfl, rfl⟩
  go_wp2_with fail
  refine (is_other' (fun e => hs.nBT e.symm) hs.rT hs.rB).mono ?_
  rintro e w' ⟨rfl, rfl⟩
  go_wp2_with fail
  refine (is_same aT _).mono ?_
  rintro e w' ⟨rfl, rfl⟩
  go_wp2_with fail
  go_ret
  exact ⟨rfl, rfl⟩

theorem faultCode_any (c : Int) (w : World) (hs : Snt w aS aB aT) (hc : 1 ≤ c ∧ c ≤ 3) :
    Calls Tryd.prog 65 #[causeV aS aB aT c] w fun e w' => e = .returned (.int .i64 c) ∧ w' = w := by
  have h : c = 1 ∨ c = 2 ∨ c = 3 := by omega
  rcases h with rfl | rfl | rfl
  · exact faultCode_1 w hs
  · exact faultCode_2 w hs
  · exact faultCode_3 w hs

set_option maxHeartbeats 400000 in
theorem faultAt_any (i : Int) (t : TypeId) (p : Value) (w : World) :
    Calls Tryd.prog 62 #[.int .i64 i, .iface t p] w fun e w' => e = .returned (.iface 81 (.pointer (some ⟨w.heap.size, 0, none⟩))) ∧ Row w' w.heap.size #[.int .i64 i, .iface t p] 85 ∧ Below w.heap.size w w' := by
  go_enter Tryd.func62, Tryd.ntmps62
  go_wp2
  go_ret
  exact ⟨rfl, Row.new _ _ _, (Below.refl w.heap.size w).alloc (Nat.le_refl _) _⟩

/-- a fault out of its block -/
theorem res_fault {fn : Func} {a : Tmp} (h : fn.results = #[.cell a 24]) {tmps : Array Value} {w : World} {b : Nat} {v0 v1 : Value} (ha : tmps.getD a undef = .pointer (some ⟨b, 0, none⟩))
    (g0 : w.cell? ⟨b, 0, none⟩ = some v0) (g1 : w.cell? ⟨b, 1, none⟩ = some v1) :
    (results fn tmps).run Tryd.prog w = .ok (.agg #[v0, v1]) w := by
  rw [Array.getD_eq_getD_getElem?] at ha
  simp [results, h, ha, go_sem, g0, g1]

set_option maxHeartbeats 400000 in
theorem faultOf_nil (w : World) :
    Calls Tryd.prog 28 #[.nilIface] w fun e w' => e = .returned (.agg #[.int .i64 0, .int .i64 0]) ∧ Below w.heap.size w w' := by
  go_enter Tryd.func28, Tryd.ntmps28
  go_wp2
  have R := Row.new w #[.int .i64 0, .int .i64 0] 24
  have g0 := R.cell 0
  have g1 := R.cell 1
  refine bodyPost_ret (res_fault Tryd.results28 rfl g0 g1) rfl ⟨rfl, (Below.refl w.heap.size w).alloc (Nat.le_refl _) _⟩

theorem causeV_iface (aS aB aT : Addr) (c : Int) : ∃ a, causeV aS aB aT c = .iface 184 (.pointer (some a)) := by
  unfold causeV
  split
  · exact ⟨_, rfl⟩
  · split
    · exact ⟨_, rfl⟩
    · exact ⟨_, rfl⟩

set_option maxHeartbeats 1600000 in
theorem faultOf_any (b : Nat) (i c : Int) (w : World) (hs : Snt w aS aB aT) (hr : Row w b #[.int .i64 i, causeV aS aB aT c] 85) (hc : 1 ≤ c ∧ c ≤ 3) :
    Calls Tryd.prog 28 #[.iface 81 (.pointer (some ⟨b, 0, none⟩))] w fun e w' => e = .returned (.agg #[.int .i64 c, .int .i64 i]) ∧ Below w.heap.size w w' := by
  obtain ⟨ac, hac⟩ := causeV_iface aS aB aT c
  have Hc := hide (fun w hs => faultCode_any (aS := aS) (aB := aB) (aT := aT) c w hs hc)
  rw [hac] at hr Hc
  clear hac
  have B0 := ((Below.refl w.heap.size w).alloc (Nat.le_refl _) (.cells #[.int .i64 0, .int .i64 0] 24)).alloc (by simp) (.cells #[.pointer none] 81)
  have R0 := (Row.new w #[.int .i64 0, .int .i64 0] 24).alloc (.cells #[.pointer none] 81)
  have RP := Row.new (w.alloc (.cells #[.int .i64 0, .int .i64 0] 24)) #[.pointer none] 81
  have S0 := hide (hs.below B0 (Nat.le_refl _)).gE
  have Rr := hr.after B0 (Nat.le_refl _)
  have hlt := hr.lt
  have z0 : ((w.alloc (.cells #[.int .i64 0, .int .i64 0] 24)).alloc (.cells #[.pointer none] 81)).heap.size = w.heap.size + 2 := by simp
  simp only [World.size_alloc] at RP
  have HS := hide hs
  clear hs hr
  go_enter Tryd.func28, Tryd.ntmps28
  go_wp2_with fail
  generalize (w.alloc (.cells #[.int .i64 0, .int .i64 0] 24)).alloc (.cells #[.pointer none] 81) = W at *
  have hcell := RP.cell 0
  refine (as_hit ⟨b, 0, none⟩ ⟨w.heap.size + 1, 0, none⟩ (.pointer none) W (unhide S0) (by simpa using hcell) (RP.frozen 0)).mono ?_
  rintro e w1 ⟨rfl, hw1⟩
  have B1 : Below w.heap.size w w1 := by
    rw [hw1]
    exact ((((B0.alloc B0.size _).alloc (by simp; omega) _).alloc (by simp; omega) _).alloc (by simp; omega) _).setCell (p := ⟨w.heap.size + 1, 0, none⟩) (by show w.heap.size ≤ w.heap.size + 1; omega) _
  have R0' : Row w1 w.heap.size #[.int .i64 0, .int .i64 0] 24 := by
    rw [hw1]
    exact ((((R0.alloc _).alloc _).alloc _).alloc _).setFar (p := ⟨w.heap.size + 1, 0, none⟩) (by show w.heap.size ≠ w.heap.size + 1; omega) _
  have RP' : Row w1 (w.heap.size + 1) #[.pointer (some ⟨b, 0, none⟩)] 81 := by
    rw [hw1]
    exact ((((RP.alloc _).alloc _).alloc _).alloc _).set 0 _
  have Rr' : Row w1 b #[.int .i64 i, .iface 184 (.pointer (some ac))] 85 := by
    rw [hw1]
    exact ((((Rr.alloc _).alloc _).alloc _).alloc _).setFar (p := ⟨w.heap.size + 1, 0, none⟩) (by show b ≠ w.heap.size + 1; omega) _
  have S1 := hide ((unhide HS).below B1 (Nat.le_refl _))
  clear hw1 B0 R0 RP Rr S0 hcell
  have p0 := RP'.cell 0
  have r0 := Rr'.cell 0
  have r1 := Rr'.cell 1
  have f0 := fun k => R0'.frozen k
  have q0 := R0'.cell 0
  have q1 := R0'.cell 1
  simp only [List.getElem?_toArray, List.getElem?_cons_zero, List.getElem?_cons_succ] at p0 r0 r1 q0 q1
  have n1 : b ≠ w.heap.size := by omega
  have n2 : w.heap.size ≠ b := by omega
  have n3 : ¬ (b = w.heap.size) := n1
  go_wp2_with fail
  go_region_held3 (fun w' => w'.cell? ⟨w.heap.size + 1, 0, none⟩ = some (.pointer (some ⟨b, 0, none⟩)) ∧ w'.cell? ⟨b, 0, none⟩ = some (.int .i64 i) ∧ w'.cell? ⟨b, 1, none⟩ = some (.iface 184 (.pointer (some ac)))) (go_keep)
    ((go_at_call 65; refine (unhide Hc w1.drew (Snt.of_heap (unhide S1) rfl)).mono ?_; rintro e w2 ⟨rfl, hw2⟩; rw [hw2]; clear hw2))
  all_goals
    go_wp2_with fail
    have RF := (R0'.set 0 (.int .i64 c)).set 1 (.int .i64 i)
    have BF := ((B1.setCell (p := ⟨w.heap.size, 0, none⟩) (Nat.le_refl _) (.int .i64 c)).setCell (p := ⟨w.heap.size, 1, none⟩) (Nat.le_refl _) (.int .i64 i)).drew
    have g0 : _ = some (Value.int .i64 c) := RF.cell 0
    have g1 : _ = some (Value.int .i64 i) := RF.cell 1
    exact bodyPost_ret (res_fault Tryd.results28 rfl g0 g1) rfl ⟨rfl, BF⟩

end Go.Proofs.YthndlhlafkldjacDoor
