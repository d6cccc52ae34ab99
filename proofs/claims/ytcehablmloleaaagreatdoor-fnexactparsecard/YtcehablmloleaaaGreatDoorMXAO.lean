/-
  TF, GG. Own work.
-/
import Derived.Test.YtcehablmloleaaaGreatDoorAs
import Derived.Test.YtcehablmloleaaaGreatDoorIs
import Derived.Test.YtcehablmloleaaaGreatDoorMXAB
import Derived.Test.YtcehablmloleaaaGreatDoorMXAA
import Derived.Deep.RegionHeld3
namespace Go.Proofs.YtcehablmloleaaaGreatDoor
open Go.RowKit
set_option linter.unusedVariables false

/-- What the scanner's sentinels are, in memory, and the handle that errors.As asks for. -/
structure Snt (w : World) (aS aB aT : Addr) : Prop where
  gS : w.cell? ⟨0, 0, none⟩ = some (.iface 207 (.pointer (some aS)))
  gB : w.cell? ⟨4, 0, none⟩ = some (.iface 207 (.pointer (some aB)))
  gT : w.cell? ⟨5, 0, none⟩ = some (.iface 207 (.pointer (some aT)))
  gE : w.cell? ⟨3, 0, none⟩ = some (.iface 142 (.agg #[.pointer (some ⟨17, 55, none⟩)]))
  gR : ∃ tp p, w.var? Tryz.prog "strconv.ErrRange" = some #[.iface tp p]
  big : 17 ≤ w.heap.size
  rS : ∃ c t, w.heap[aS.block]? = some (.cells c t (0, 0))
  rB : ∃ c t, w.heap[aB.block]? = some (.cells c t (0, 0))
  rT : ∃ c t, w.heap[aT.block]? = some (.cells c t (0, 0))
  nSB : aS ≠ aB
  nST : aS ≠ aT
  nBT : aB ≠ aT

theorem row_below {w w' : World} {B : Nat} {a : Addr} (h : ∃ c t, w.heap[a.block]? = some (.cells c t (0, 0))) (hb : Below B w w') (hB : w.heap.size ≤ B) : ∃ c t, w'.heap[a.block]? = some (.cells c t (0, 0)) := by
  obtain ⟨c, t, h⟩ := h
  have hlt : a.block < w.heap.size := (Array.getElem?_eq_some_iff.1 h).1
  exact ⟨c, t, (hb.block _ (by omega)).trans h⟩

theorem gRange : Tryz.prog.globalNamed "strconv.ErrRange" = some 11 := by kernel_rfl

theorem Snt.below {w w' : World} {B : Nat} {aS aB aT : Addr} (h : Snt w aS aB aT) (hb : Below B w w') (hB : w.heap.size ≤ B) : Snt w' aS aB aT where
  gS := (hb.cell (p := ⟨0, 0, none⟩) (by have := h.big; show 0 < B; omega)).trans h.gS
  gB := (hb.cell (p := ⟨4, 0, none⟩) (by have := h.big; show 4 < B; omega)).trans h.gB
  gT := (hb.cell (p := ⟨5, 0, none⟩) (by have := h.big; show 5 < B; omega)).trans h.gT
  gE := (hb.cell (p := ⟨3, 0, none⟩) (by have := h.big; show 3 < B; omega)).trans h.gE
  gR := by
    obtain ⟨tp, p, e⟩ := h.gR
    refine ⟨tp, p, ?_⟩
    rw [← e]
    unfold World.var?
    rw [gRange]
    simp only [Option.bind_some]
    rw [hb.block 11 (by have := h.big; omega)]
  big := Nat.le_trans h.big hb.size
  rS := row_below h.rS hb hB
  rB := row_below h.rB hb hB
  rT := row_below h.rT hb hB
  nSB := h.nSB
  nST := h.nST
  nBT := h.nBT

theorem Snt.of_heap {w w' : World} {aS aB aT : Addr} (h : Snt w aS aB aT) (e : w'.heap = w.heap) : Snt w' aS aB aT := by
  have c : ∀ p, w'.cell? p = w.cell? p := fun p => by unfold World.cell?; rw [e]
  refine ⟨by rw [c]; exact h.gS, by rw [c]; exact h.gB, by rw [c]; exact h.gT, by rw [c]; exact h.gE, ?_, by rw [e]; exact h.big, by rw [e]; exact h.rS, by rw [e]; exact h.rB, by rw [e]; exact h.rT, h.nSB, h.nST, h.nBT⟩
  obtain ⟨tp, p, k⟩ := h.gR
  refine ⟨tp, p, ?_⟩
  rw [← k]
  unfold World.var?
  rw [e]

variable {aS aB aT : Addr}

/-- the sentinel of a code -/
def causeV (aS aB aT : Addr) (c : Int) : Value := if c = 1 then .iface 207 (.pointer (some aS)) else if c = 2 then .iface 207 (.pointer (some aB)) else .iface 207 (.pointer (some aT))

theorem is_other' {a b : Addr} {w : World} (hne : a ≠ b) (ha : ∃ c t, w.heap[a.block]? = some (.cells c t (0, 0))) (hb : ∃ c t, w.heap[b.block]? = some (.cells c t (0, 0))) :
    Calls Tryz.prog 69 #[.iface 207 (.pointer (some a)), .iface 207 (.pointer (some b))] w fun e w' => e = .returned (.bool false) ∧ w' = w := by
  obtain ⟨c, t, ha⟩ := ha
  obtain ⟨c', t', hb⟩ := hb
  exact is_other a b c c' t t' w hne ha hb

set_option maxHeartbeats 800000 in
theorem faultCode_1 (w : World) (hs : Snt w aS aB aT) :
    Calls Tryz.prog 40 #[.iface 207 (.pointer (some aS))] w fun e w' => e = .returned (.int .i64 1) ∧ w' = w := by
  have h1 := hs.gS
  go_enter Tryz.func40, Tryz.ntmps40
  go_wp2_with fail
  refine (is_same aS w).mono ?_
  rintro e w' ⟨rfl, rfl⟩
  go_wp2_with fail
  go_ret
  exact ⟨rfl, rfl⟩

set_option maxHeartbeats 800000 in
theorem faultCode_2 (w : World) (hs : Snt w aS aB aT) :
    Calls Tryz.prog 40 #[.iface 207 (.pointer (some aB))] w fun e w' => e = .returned (.int .i64 2) ∧ w' = w := by
  have h1 := hs.gS
  have h2 := hs.gB
  go_enter Tryz.func40, Tryz.ntmps40
  go_wp2_with fail
  refine (is_other' (fun e => hs.nSB e.symm) hs.rB hs.rS).mono ?_
  rintro e w' ⟨rfl, rfl⟩
  go_wp2_with fail
  refine (is_same aB _).mono ?_
  rintro e w' ⟨rfl, rfl⟩
  go_wp2_with fail
  go_ret
  exact ⟨rfl, rfl⟩

set_option maxHeartbeats 800000 in
theorem faultCode_3 (w : World) (hs : Snt w aS aB aT) :
    Calls Tryz.prog 40 #[.iface 207 (.pointer (some aT))] w fun e w' => e = .returned (.int .i64 3) ∧ w' = w := by
  have h1 := hs.gS
  have h2 := hs.gB
  have h3 := hs.gT
  go_enter Tryz.func40, Tryz.ntmps40
  go_wp2_with fail
  refine (is_other' (fun e => hs.nST e.symm) hs.rT hs.rS).mono ?_
  rintro e w' ⟨rfl, rfl⟩
  go_wp2_with fail
  refine (is_other' (fun e => hs.nBT e.symm) hs.rT hs.rB).mono ?_
  rintro e w' ⟨rfl, rfl⟩
  go_wp2_with fail
  refine (is_same aT _).mono ?_
  rintro e w' ⟨rfl, rfl⟩
  go_wp2_with fail
  go_ret
  exact ⟨rfl, rfl⟩

theorem faultCode_any (c : Int) (w : World) (hs : Snt w aS aB aT) (hc : 1 ≤ c ∧ c ≤ 3) :
    Calls Tryz.prog 40 #[causeV aS aB aT c] w fun e w' => e = .returned (.int .i64 c) ∧ w' = w := by
  have h : c = 1 ∨ c = 2 ∨ c = 3 := by omega
  rcases h with rfl | rfl | rfl
  · exact faultCode_1 w hs
  · exact faultCode_2 w hs
  · exact faultCode_3 w hs

set_option maxHeartbeats 400000 in
theorem faultAt_any (i : Int) (t : TypeId) (p : Value) (w : World) :
    Calls Tryz.prog 59 #[.int .i64 i, .iface t p] w fun e w' => e = .returned (.iface 83 (.pointer (some ⟨w.heap.size, 0, none⟩))) ∧ Row w' w.heap.size #[.int .i64 i, .iface t p] 88 ∧ Below w.heap.size w w' := by
  go_enter Tryz.func59, Tryz.ntmps59
  go_wp2
  go_ret
  exact ⟨rfl, Row.new _ _ _, (Below.refl w.heap.size w).alloc (Nat.le_refl _) _⟩

/-- a fault out of its block -/
theorem res_fault {fn : Func} {a : Tmp} (h : fn.results = #[.cell a 28]) {tmps : Array Value} {w : World} {b : Nat} {v0 v1 : Value} (ha : tmps.getD a undef = .pointer (some ⟨b, 0, none⟩))
    (g0 : w.cell? ⟨b, 0, none⟩ = some v0) (g1 : w.cell? ⟨b, 1, none⟩ = some v1) :
    (results fn tmps).run Tryz.prog w = .ok (.agg #[v0, v1]) w := by
  rw [Array.getD_eq_getD_getElem?] at ha
  simp [results, h, ha, go_sem, g0, g1]

set_option maxHeartbeats 400000 in
theorem faultOf_nil (w : World) :
    Calls Tryz.prog 20 #[.nilIface] w fun e w' => e = .returned (.agg #[.int .i64 0, .int .i64 0]) ∧ Below w.heap.size w w' := by
  go_enter Tryz.func20, Tryz.ntmps20
  go_wp2
  have R := Row.new w #[.int .i64 0, .int .i64 0] 28
  have g0 := R.cell 0
  have g1 := R.cell 1
  refine bodyPost_ret (res_fault Tryz.results20 rfl g0 g1) rfl ⟨rfl, (Below.refl w.heap.size w).alloc (Nat.le_refl _) _⟩

theorem causeV_iface (aS aB aT : Addr) (c : Int) : ∃ a, causeV aS aB aT c = .iface 207 (.pointer (some a)) := by
  unfold causeV
  split
  · exact ⟨_, rfl⟩
  · split
    · exact ⟨_, rfl⟩
    · exact ⟨_, rfl⟩

set_option maxHeartbeats 1600000 in
theorem faultOf_any (b : Nat) (i c : Int) (w : World) (hs : Snt w aS aB aT) (hr : Row w b #[.int .i64 i, causeV aS aB aT c] 88) (hc : 1 ≤ c ∧ c ≤ 3) :
    Calls Tryz.prog 20 #[.iface 83 (.pointer (some ⟨b, 0, none⟩))] w fun e w' => e = .returned (.agg #[.int .i64 c, .int .i64 i]) ∧ Below w.heap.size w w' := by
  obtain ⟨ac, hac⟩ := causeV_iface aS aB aT c
  have Hc := hide (fun w hs => faultCode_any (aS := aS) (aB := aB) (aT := aT) c w hs hc)
  rw [hac] at hr Hc
  clear hac
  have B0 := ((Below.refl w.heap.size w).alloc (Nat.le_refl _) (.cells #[.int .i64 0, .int .i64 0] 28)).alloc (by simp) (.cells #[.pointer none] 83)
  have R0 := (Row.new w #[.int .i64 0, .int .i64 0] 28).alloc (.cells #[.pointer none] 83)
  have RP := Row.new (w.alloc (.cells #[.int .i64 0, .int .i64 0] 28)) #[.pointer none] 83
  have S0 := hide (hs.below B0 (Nat.le_refl _)).gE
  have Rr := hr.after B0 (Nat.le_refl _)
  have hlt := hr.lt
  have z0 : ((w.alloc (.cells #[.int .i64 0, .int .i64 0] 28)).alloc (.cells #[.pointer none] 83)).heap.size = w.heap.size + 2 := by simp
  simp only [World.size_alloc] at RP
  have HS := hide hs
  clear hs hr
  go_enter Tryz.func20, Tryz.ntmps20
  go_wp2_with fail
  generalize (w.alloc (.cells #[.int .i64 0, .int .i64 0] 28)).alloc (.cells #[.pointer none] 83) = W at *
  have hcell := RP.cell 0
  refine (as_hit ⟨b, 0, none⟩ ⟨w.heap.size + 1, 0, none⟩ (.pointer none) W (unhide S0) (by simpa using hcell) (RP.frozen 0)).mono ?_
  rintro e w1 ⟨rfl, hw1⟩
  have B1 : Below w.heap.size w w1 := by
    rw [hw1]
    exact ((((B0.alloc B0.size _).alloc (by simp; omega) _).alloc (by simp; omega) _).alloc (by simp; omega) _).setCell (p := ⟨w.heap.size + 1, 0, none⟩) (by show w.heap.size ≤ w.heap.size + 1; omega) _
  have R0' : Row w1 w.heap.size #[.int .i64 0, .int .i64 0] 28 := by
    rw [hw1]
    exact ((((R0.alloc _).alloc _).alloc _).alloc _).setFar (p := ⟨w.heap.size + 1, 0, none⟩) (by show w.heap.size ≠ w.heap.size + 1; omega) _
  have RP' : Row w1 (w.heap.size + 1) #[.pointer (some ⟨b, 0, none⟩)] 83 := by
    rw [hw1]
    exact ((((RP.alloc _).alloc _).alloc _).alloc _).set 0 _
  have Rr' : Row w1 b #[.int .i64 i, .iface 207 (.pointer (some ac))] 88 := by
    rw [hw1]
    exact ((((Rr.alloc _).alloc _).alloc _).alloc _).setFar (p := ⟨w.heap.size + 1, 0, none⟩) (by show b ≠ w.heap.size + 1; omega) _
  have S1 := hide ((unhide HS).below B1 (Nat.le_refl _))
  clear hw1 B0 R0 RP Rr S0 hcell
  have p0 := RP'.cell 0
  have r0 := Rr'.cell 0
  have r1 := Rr'.cell 1
  have f0 := fun k => R0'.frozen k
  have q0 := R0'.cell 0
  have q1 := R0'.cell 1
  simp only [List.getElem?_toArray, List.getElem?_cons_zero, List.getElem?_cons_succ] at p0 r0 r1 q0 q1
  have n1 : b ≠ w.heap.size := by omega
  have n2 : w.heap.size ≠ b := by omega
  have n3 : ¬ (b = w.heap.size) := n1
  go_wp2_with fail
  go_region_held3 (fun w' => w'.cell? ⟨w.heap.size + 1, 0, none⟩ = some (.pointer (some ⟨b, 0, none⟩)) ∧ w'.cell? ⟨b, 0, none⟩ = some (.int .i64 i) ∧ w'.cell? ⟨b, 1, none⟩ = some (.iface 207 (.pointer (some ac)))) (go_keep)
    ((go_at_call 40; refine (unhide Hc w1.drew (Snt.of_heap (unhide S1) rfl)).mono ?_; rintro e w2 ⟨rfl, hw2⟩; rw [hw2]; clear hw2))
  all_goals
    go_wp2_with fail
    have RF := (R0'.set 0 (.int .i64 c)).set 1 (.int .i64 i)
    have BF := ((B1.setCell (p := ⟨w.heap.size, 0, none⟩) (Nat.le_refl _) (.int .i64 c)).setCell (p := ⟨w.heap.size, 1, none⟩) (Nat.le_refl _) (.int .i64 i)).drew
    have g0 : _ = some (Value.int .i64 c) := RF.cell 0
    have g1 : _ = some (Value.int .i64 i) := RF.cell 1
    exact bodyPost_ret (res_fault Tryz.results20 rfl g0 g1) rfl ⟨rfl, BF⟩

end Go.Proofs.YtcehablmloleaaaGreatDoor

namespace Go.Proofs.YtcehablmloleaaaGreatDoor
open Go.RowKit
set_option linter.unusedVariables false

/-- the sentinels of a text's faults, in memory, and the handle that errors.As asks for -/
structure S6 (w : World) (a1 a2 a3 a4 a5 a6 : Addr) : Prop where
  g1 : w.cell? ⟨0, 0, none⟩ = some (.iface 207 (.pointer (some a1)))
  g2 : w.cell? ⟨4, 0, none⟩ = some (.iface 207 (.pointer (some a2)))
  g3 : w.cell? ⟨5, 0, none⟩ = some (.iface 207 (.pointer (some a3)))
  g4 : w.cell? ⟨6, 0, none⟩ = some (.iface 207 (.pointer (some a4)))
  g5 : w.cell? ⟨1, 0, none⟩ = some (.iface 207 (.pointer (some a5)))
  g6 : w.cell? ⟨2, 0, none⟩ = some (.iface 207 (.pointer (some a6)))
  gE : w.cell? ⟨3, 0, none⟩ = some (.iface 142 (.agg #[.pointer (some ⟨17, 55, none⟩)]))
  gR : ∃ tp p, w.var? Tryz.prog "strconv.ErrRange" = some #[.iface tp p]
  big : 17 ≤ w.heap.size
  rows : ∀ a ∈ [a1, a2, a3, a4, a5, a6], ∃ c t, w.heap[a.block]? = some (.cells c t (0, 0))
  nd : ([a1, a2, a3, a4, a5, a6] : List Addr).Nodup

variable {a1 a2 a3 a4 a5 a6 : Addr}

theorem S6.snt {w : World} (h : S6 w a1 a2 a3 a4 a5 a6) : Snt w a1 a2 a3 := by
  have nd := h.nd
  simp only [List.nodup_cons, List.mem_cons, not_or] at nd
  exact ⟨h.g1, h.g2, h.g3, h.gE, h.gR, h.big, h.rows _ (by simp), h.rows _ (by simp), h.rows _ (by simp), nd.1.1, nd.1.2.1, nd.2.1.1⟩

theorem S6.below {w w' : World} {B : Nat} (h : S6 w a1 a2 a3 a4 a5 a6) (hb : Below B w w') (hB : w.heap.size ≤ B) : S6 w' a1 a2 a3 a4 a5 a6 where
  g1 := (hb.cell (p := ⟨0, 0, none⟩) (by have := h.big; show 0 < B; omega)).trans h.g1
  g2 := (hb.cell (p := ⟨4, 0, none⟩) (by have := h.big; show 4 < B; omega)).trans h.g2
  g3 := (hb.cell (p := ⟨5, 0, none⟩) (by have := h.big; show 5 < B; omega)).trans h.g3
  g4 := (hb.cell (p := ⟨6, 0, none⟩) (by have := h.big; show 6 < B; omega)).trans h.g4
  g5 := (hb.cell (p := ⟨1, 0, none⟩) (by have := h.big; show 1 < B; omega)).trans h.g5
  g6 := (hb.cell (p := ⟨2, 0, none⟩) (by have := h.big; show 2 < B; omega)).trans h.g6
  gE := (hb.cell (p := ⟨3, 0, none⟩) (by have := h.big; show 3 < B; omega)).trans h.gE
  gR := (h.snt.below hb hB).gR
  big := Nat.le_trans h.big hb.size
  rows := fun a ha => row_below (h.rows a ha) hb hB
  nd := h.nd

theorem S6.drew {w : World} (h : S6 w a1 a2 a3 a4 a5 a6) : S6 w.drew a1 a2 a3 a4 a5 a6 := h.below (Below.refl w.heap.size w).drew (Nat.le_refl _)

set_option maxHeartbeats 1600000 in
theorem faultCode6_4 (w : World) (hs : S6 w a1 a2 a3 a4 a5 a6) :
    Calls Tryz.prog 40 #[.iface 207 (.pointer (some a4))] w fun e w' => e = .returned (.int .i64 4) ∧ w' = w := by
  have h1 := hs.g1
  have h2 := hs.g2
  have h3 := hs.g3
  have h4 := hs.g4
  have HN := hide hs.nd
  have HR := hide hs.rows
  clear hs
  go_enter Tryz.func40, Tryz.ntmps40
  go_wp2_with fail
  refine (is_other' (a := a4) (b := a1) (by have := unhide HN; simp at this; grind) (unhide HR _ (by simp)) (unhide HR _ (by simp))).mono ?_
  rintro e w' ⟨rfl, rfl⟩
  go_wp2_with fail
  refine (is_other' (a := a4) (b := a2) (by have := unhide HN; simp at this; grind) (unhide HR _ (by simp)) (unhide HR _ (by simp))).mono ?_
  rintro e w' ⟨rfl, rfl⟩
  go_wp2_with fail
  refine (is_other' (a := a4) (b := a3) (by have := unhide HN; simp at this; grind) (unhide HR _ (by simp)) (unhide HR _ (by simp))).mono ?_
  rintro e w' ⟨rfl, rfl⟩
  go_wp2_with fail
  refine (is_same a4 _).mono ?_
  rintro e w' ⟨rfl, rfl⟩
  go_wp2_with fail
  go_ret
  exact ⟨rfl, rfl⟩

set_option maxHeartbeats 1600000 in
theorem faultCode6_5 (w : World) (hs : S6 w a1 a2 a3 a4 a5 a6) :
    Calls Tryz.prog 40 #[.iface 207 (.pointer (some a5))] w fun e w' => e = .returned (.int .i64 5) ∧ w' = w := by
  have h1 := hs.g1
  have h2 := hs.g2
  have h3 := hs.g3
  have h4 := hs.g4
  have h5 := hs.g5
  have HN := hide hs.nd
  have HR := hide hs.rows
  clear hs
  go_enter Tryz.func40, Tryz.ntmps40
  go_wp2_with fail
  refine (is_other' (a := a5) (b := a1) (by have := unhide HN; simp at this; grind) (unhide HR _ (by simp)) (unhide HR _ (by simp))).mono ?_
  rintro e w' ⟨rfl, rfl⟩
  go_wp2_with fail
  refine (is_other' (a := a5) (b := a2) (by have := unhide HN; simp at this; grind) (unhide HR _ (by simp)) (unhide HR _ (by simp))).mono ?_
  rintro e w' ⟨rfl, rfl⟩
  go_wp2_with fail
  refine (is_other' (a := a5) (b := a3) (by have := unhide HN; simp at this; grind) (unhide HR _ (by simp)) (unhide HR _ (by simp))).mono ?_
  rintro e w' ⟨rfl, rfl⟩
  go_wp2_with fail
  refine (is_other' (a := a5) (b := a4) (by have := unhide HN; simp at this; grind) (unhide HR _ (by simp)) (unhide HR _ (by simp))).mono ?_
  rintro e w' ⟨rfl, rfl⟩
  go_wp2_with fail
  refine (is_same a5 _).mono ?_
  rintro e w' ⟨rfl, rfl⟩
  go_wp2_with fail
  go_ret
  exact ⟨rfl, rfl⟩

set_option maxHeartbeats 1600000 in
theorem faultCode6_6 (w : World) (hs : S6 w a1 a2 a3 a4 a5 a6) :
    Calls Tryz.prog 40 #[.iface 207 (.pointer (some a6))] w fun e w' => e = .returned (.int .i64 6) ∧ w' = w := by
  have h1 := hs.g1
  have h2 := hs.g2
  have h3 := hs.g3
  have h4 := hs.g4
  have h5 := hs.g5
  have h6 := hs.g6
  have HN := hide hs.nd
  have HR := hide hs.rows
  clear hs
  go_enter Tryz.func40, Tryz.ntmps40
  go_wp2_with fail
  refine (is_other' (a := a6) (b := a1) (by have := unhide HN; simp at this; grind) (unhide HR _ (by simp)) (unhide HR _ (by simp))).mono ?_
  rintro e w' ⟨rfl, rfl⟩
  go_wp2_with fail
  refine (is_other' (a := a6) (b := a2) (by have := unhide HN; simp at this; grind) (unhide HR _ (by simp)) (unhide HR _ (by simp))).mono ?_
  rintro e w' ⟨rfl, rfl⟩
  go_wp2_with fail
  refine (is_other' (a := a6) (b := a3) (by have := unhide HN; simp at this; grind) (unhide HR _ (by simp)) (unhide HR _ (by simp))).mono ?_
  rintro e w' ⟨rfl, rfl⟩
  go_wp2_with fail
  refine (is_other' (a := a6) (b := a4) (by have := unhide HN; simp at this; grind) (unhide HR _ (by simp)) (unhide HR _ (by simp))).mono ?_
  rintro e w' ⟨rfl, rfl⟩
  go_wp2_with fail
  refine (is_other' (a := a6) (b := a5) (by have := unhide HN; simp at this; grind) (unhide HR _ (by simp)) (unhide HR _ (by simp))).mono ?_
  rintro e w' ⟨rfl, rfl⟩
  go_wp2_with fail
  refine (is_same a6 _).mono ?_
  rintro e w' ⟨rfl, rfl⟩
  go_wp2_with fail
  go_ret
  exact ⟨rfl, rfl⟩

/-- the sentinel of a code -/
def ad6 (a4 a5 a6 : Addr) (c : Int) : Addr := if c = 4 then a4 else if c = 5 then a5 else a6

theorem faultCode6 (c : Int) (w : World) (hs : S6 w a1 a2 a3 a4 a5 a6) (hc : 4 ≤ c ∧ c ≤ 6) :
    Calls Tryz.prog 40 #[.iface 207 (.pointer (some (ad6 a4 a5 a6 c)))] w fun e w' => e = .returned (.int .i64 c) ∧ w' = w := by
  have h : c = 4 ∨ c = 5 ∨ c = 6 := by omega
  rcases h with rfl | rfl | rfl
  · exact faultCode6_4 w hs
  · exact faultCode6_5 w hs
  · exact faultCode6_6 w hs

/-- a placed error, in memory -/
def ErP (a4 a5 a6 : Addr) (c i : Int) (b : Nat) (w : World) : Prop := Row w b #[.int .i64 i, .iface 207 (.pointer (some (ad6 a4 a5 a6 c)))] 88

set_option maxHeartbeats 1600000 in
theorem faultOf6 (b : Nat) (c i : Int) (w : World) (hs : S6 w a1 a2 a3 a4 a5 a6) (hr : ErP a4 a5 a6 c i b w) (hc : 4 ≤ c ∧ c ≤ 6) :
    Calls Tryz.prog 20 #[.iface 83 (.pointer (some ⟨b, 0, none⟩))] w fun e w' => e = .returned (.agg #[.int .i64 c, .int .i64 i]) ∧ Below w.heap.size w w' := by
  have Hc := hide (fun w hs => faultCode6 (a1 := a1) (a2 := a2) (a3 := a3) (a4 := a4) (a5 := a5) (a6 := a6) c w hs hc)
  change Row w b #[.int .i64 i, .iface 207 (.pointer (some (ad6 a4 a5 a6 c)))] 88 at hr
  clear hc
  generalize ad6 a4 a5 a6 c = ac at hr Hc
  have B0 := ((Below.refl w.heap.size w).alloc (Nat.le_refl _) (.cells #[.int .i64 0, .int .i64 0] 28)).alloc (by simp) (.cells #[.pointer none] 83)
  have R0 := (Row.new w #[.int .i64 0, .int .i64 0] 28).alloc (.cells #[.pointer none] 83)
  have RP := Row.new (w.alloc (.cells #[.int .i64 0, .int .i64 0] 28)) #[.pointer none] 83
  have S0 := hide (hs.below B0 (Nat.le_refl _)).gE
  have Rr := hr.after B0 (Nat.le_refl _)
  have hlt := hr.lt
  have z0 : ((w.alloc (.cells #[.int .i64 0, .int .i64 0] 28)).alloc (.cells #[.pointer none] 83)).heap.size = w.heap.size + 2 := by simp
  simp only [World.size_alloc] at RP
  have HS := hide hs
  clear hs hr
  go_enter Tryz.func20, Tryz.ntmps20
  go_wp2_with fail
  generalize (w.alloc (.cells #[.int .i64 0, .int .i64 0] 28)).alloc (.cells #[.pointer none] 83) = W at *
  have hcell := RP.cell 0
  refine (as_hit ⟨b, 0, none⟩ ⟨w.heap.size + 1, 0, none⟩ (.pointer none) W (unhide S0) (by simpa using hcell) (RP.frozen 0)).mono ?_
  rintro e w1 ⟨rfl, hw1⟩
  have B1 : Below w.heap.size w w1 := by
    rw [hw1]
    exact ((((B0.alloc B0.size _).alloc (by simp; omega) _).alloc (by simp; omega) _).alloc (by simp; omega) _).setCell (p := ⟨w.heap.size + 1, 0, none⟩) (by show w.heap.size ≤ w.heap.size + 1; omega) _
  have R0' : Row w1 w.heap.size #[.int .i64 0, .int .i64 0] 28 := by
    rw [hw1]
    exact ((((R0.alloc _).alloc _).alloc _).alloc _).setFar (p := ⟨w.heap.size + 1, 0, none⟩) (by show w.heap.size ≠ w.heap.size + 1; omega) _
  have RP' : Row w1 (w.heap.size + 1) #[.pointer (some ⟨b, 0, none⟩)] 83 := by
    rw [hw1]
    exact ((((RP.alloc _).alloc _).alloc _).alloc _).set 0 _
  have Rr' : Row w1 b #[.int .i64 i, .iface 207 (.pointer (some ac))] 88 := by
    rw [hw1]
    exact ((((Rr.alloc _).alloc _).alloc _).alloc _).setFar (p := ⟨w.heap.size + 1, 0, none⟩) (by show b ≠ w.heap.size + 1; omega) _
  have S1 := hide ((unhide HS).below B1 (Nat.le_refl _))
  clear hw1 B0 R0 RP Rr S0 hcell
  have p0 := RP'.cell 0
  have r0 := Rr'.cell 0
  have r1 := Rr'.cell 1
  have f0 := fun k => R0'.frozen k
  have q0 := R0'.cell 0
  have q1 := R0'.cell 1
  simp only [List.getElem?_toArray, List.getElem?_cons_zero, List.getElem?_cons_succ] at p0 r0 r1 q0 q1
  have n1 : b ≠ w.heap.size := by omega
  have n2 : w.heap.size ≠ b := by omega
  have n3 : ¬ (b = w.heap.size) := n1
  go_wp2_with fail
  go_region_held3 (fun w' => w'.cell? ⟨w.heap.size + 1, 0, none⟩ = some (.pointer (some ⟨b, 0, none⟩)) ∧ w'.cell? ⟨b, 0, none⟩ = some (.int .i64 i) ∧ w'.cell? ⟨b, 1, none⟩ = some (.iface 207 (.pointer (some ac)))) (go_keep)
    ((go_at_call 40; refine (unhide Hc w1.drew ((unhide S1).drew)).mono ?_; rintro e w2 ⟨rfl, hw2⟩; rw [hw2]; clear hw2))
  all_goals
    go_wp2_with fail
    have RF := (R0'.set 0 (.int .i64 c)).set 1 (.int .i64 i)
    have BF := ((B1.setCell (p := ⟨w.heap.size, 0, none⟩) (Nat.le_refl _) (.int .i64 c)).setCell (p := ⟨w.heap.size, 1, none⟩) (Nat.le_refl _) (.int .i64 i)).drew
    have g0 : _ = some (Value.int .i64 c) := RF.cell 0
    have g1 : _ = some (Value.int .i64 i) := RF.cell 1
    exact bodyPost_ret (res_fault Tryz.results20 rfl g0 g1) rfl ⟨rfl, BF⟩


end Go.Proofs.YtcehablmloleaaaGreatDoor
