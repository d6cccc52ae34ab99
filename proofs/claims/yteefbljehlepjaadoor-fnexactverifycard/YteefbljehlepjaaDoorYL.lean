/-
  The program's verifier: a new one. Own work.
-/
import Derived.Test.YteefbljehlepjaaDoorYK
import Derived.Deep.OwnRows
namespace Go.Proofs.YteefbljehlepjaaDoor
open Go.RowKit Go.Lib
set_option linter.unusedVariables false

theorem infoPS : (Tryd.prog.info? 78).map (fun i => (i.zero, i.size, i.bytes)) = some (some (.pointer none), 1, 8) := by kernel_rfl

theorem made_list (z : Value) (n : Nat) : madeCells #[z] n = (List.replicate n z).toArray := by
  apply Array.ext
  · rw [size_madeCells]; simp
  · intro i h1 h2
    simp [madeCells, Nat.mod_one]

/-- a state ahead of the first place -/
def vs0 (S : Nat) : Vs := ⟨[], List.replicate S 0⟩

def NvA (w : World) (a b : Option Addr) (n c m d S : Nat) (e : Ending) (w' : World) : Prop := ∃ pt, e = .returned (.pointer (some ⟨w.heap.size + 2, 0, none⟩)) ∧ Row w' (w.heap.size + 2) #[.slice a n c, .int .i64 S, .slice b m d, .slice (some ⟨w.heap.size + 1, 0, none⟩) m m, .int .i64 0] 54 ∧ Kn w' (w.heap.size + 3) (w.heap.size + 1) ((List.replicate m none).set 0 (some (vs0 S))) pt ∧ Below w.heap.size w w'

set_option maxRecDepth 100000 in
set_option maxHeartbeats 6400000 in
theorem newVerifier_any (a b : Option Addr) (n c m d : Nat) (S : Nat) (w : World) (hm : 0 < m) (hms : m ≤ 1048576) (hS : S ≤ 600) :
    Calls Tryd.prog 18 #[.agg #[.slice a n c, .int .i64 S, .slice b m d]] w fun e w' => NvA w a b n c m d S e w' := by
  have mk1 : ∀ w', (Instr.makeSlice 52 (.int .i64 (m : Int)) (.int .i64 (m : Int))).run Tryd.prog w' = .ok (.slice (some ⟨w'.heap.size, 0, none⟩) m m) (w'.alloc (.cells (List.replicate m (.pointer none)).toArray 78)) := fun w' => by
    rw [← made_list]
    exact run_make_row' 52 78 (.pointer none) 8 Tryd.underlying52 infoPS rfl .i64 .i64 m (by omega) (by omega) w'
  have mk2 : ∀ w', (Instr.makeSlice 40 (.int .i64 (S : Int)) (.int .i64 (S : Int))).run Tryd.prog w' = .ok (.slice (some ⟨w'.heap.size, 0, none⟩) S S) (w'.alloc (.cells (List.replicate S (.int .i64 0)).toArray 3)) := fun w' => by
    rw [← made_list]
    exact run_make_row' 40 3 (.int .i64 0) 8 Tryd.underlying40 infoI rfl .i64 .i64 S (by omega) (by omega) w'
  have im : (0 : Int) < (m : Int) := by omega
  have Hm := hide hm
  go_enter Tryd.func18, Tryd.ntmps18
  go_wp2_with fail
  go_region
  go_wp2_with fail
  have B3 : Below w.heap.size w (((w.alloc (.cells #[.slice a n c, .int .i64 S, .slice b m d] 32)).alloc (.cells (Array.replicate m (.pointer none)) 78)).alloc (.cells #[.slice a n c, .int .i64 S, .slice b m d, .slice (some ⟨w.heap.size + 1, 0, none⟩) m m, .int .i64 0] 54)).drew := ((((Below.refl w.heap.size w).alloc (Nat.le_refl _) _).alloc (by simp) _).alloc (by simp; omega) _).drew
  have RC := ((Row.new w #[.slice a n c, .int .i64 S, .slice b m d] 32).alloc (.cells (Array.replicate m (.pointer none)) 78)).alloc (.cells #[.slice a n c, .int .i64 S, .slice b m d, .slice (some ⟨w.heap.size + 1, 0, none⟩) m m, .int .i64 0] 54)
  have RK := (Row.new (w.alloc (.cells #[.slice a n c, .int .i64 S, .slice b m d] 32)) (Array.replicate m (.pointer none)) 78).alloc (.cells #[.slice a n c, .int .i64 S, .slice b m d, .slice (some ⟨w.heap.size + 1, 0, none⟩) m m, .int .i64 0] 54)
  have RV := Row.new ((w.alloc (.cells #[.slice a n c, .int .i64 S, .slice b m d] 32)).alloc (.cells (Array.replicate m (.pointer none)) 78)) #[.slice a n c, .int .i64 S, .slice b m d, .slice (some ⟨w.heap.size + 1, 0, none⟩) m m, .int .i64 0] 54
  have RC' : Row (((w.alloc (.cells #[.slice a n c, .int .i64 S, .slice b m d] 32)).alloc (.cells (Array.replicate m (.pointer none)) 78)).alloc (.cells #[.slice a n c, .int .i64 S, .slice b m d, .slice (some ⟨w.heap.size + 1, 0, none⟩) m m, .int .i64 0] 54)).drew w.heap.size _ _ := ⟨RC.out⟩
  have RK' : Row (((w.alloc (.cells #[.slice a n c, .int .i64 S, .slice b m d] 32)).alloc (.cells (Array.replicate m (.pointer none)) 78)).alloc (.cells #[.slice a n c, .int .i64 S, .slice b m d, .slice (some ⟨w.heap.size + 1, 0, none⟩) m m, .int .i64 0] 54)).drew (w.heap.size + 1) (Array.replicate m (.pointer none)) 78 := by
    have := RK.out
    rw [World.size_alloc] at this
    exact ⟨this⟩
  have RV' : Row (((w.alloc (.cells #[.slice a n c, .int .i64 S, .slice b m d] 32)).alloc (.cells (Array.replicate m (.pointer none)) 78)).alloc (.cells #[.slice a n c, .int .i64 S, .slice b m d, .slice (some ⟨w.heap.size + 1, 0, none⟩) m m, .int .i64 0] 54)).drew (w.heap.size + 1 + 1) #[.slice a n c, .int .i64 S, .slice b m d, .slice (some ⟨w.heap.size + 1, 0, none⟩) m m, .int .i64 0] 54 := by
    have := RV.out
    rw [World.size_alloc, World.size_alloc] at this
    exact ⟨this⟩
  have Hsz := hide (show w.heap.size + 3 = (((w.alloc (.cells #[.slice a n c, .int .i64 S, .slice b m d] 32)).alloc (.cells (Array.replicate m (.pointer none)) 78)).alloc (.cells #[.slice a n c, .int .i64 S, .slice b m d, .slice (some ⟨w.heap.size + 1, 0, none⟩) m m, .int .i64 0] 54)).drew.heap.size by simp)
  clear RC RK RV
  generalize (((w.alloc (.cells #[.slice a n c, .int .i64 S, .slice b m d] 32)).alloc (.cells (Array.replicate m (.pointer none)) 78)).alloc (.cells #[.slice a n c, .int .i64 S, .slice b m d, .slice (some ⟨w.heap.size + 1, 0, none⟩) m m, .int .i64 0] 54)).drew = W at B3 RC' RK' RV' Hsz ⊢
  have sm : S ≤ 1048576 := by omega
  have HI := hide (ints_new W W.heap.size rfl (List.replicate S 0) 3 S (by simpa using sm))
  have RK2 := (RK'.alloc (.cells (Array.replicate S (.int .i64 0)) 3)).alloc (.cells #[.slice none 0 0, .slice (some ⟨W.heap.size, 0, none⟩) S S] 80)
  have RV2 := (RV'.alloc (.cells (Array.replicate S (.int .i64 0)) 3)).alloc (.cells #[.slice none 0 0, .slice (some ⟨W.heap.size, 0, none⟩) S S] 80)
  have k0 : ((W.alloc (.cells (Array.replicate S (.int .i64 0)) 3)).alloc (.cells #[.slice none 0 0, .slice (some ⟨W.heap.size, 0, none⟩) S S] 80)).cell? ⟨w.heap.size + 1, 0, none⟩ = some (.pointer none) := by
    have := RK2.cell 0
    rw [this]
    simp [unhide Hm]
  have f0 := RK2.frozen 0
  obtain ⟨_, _, _, q3, _⟩ := rowR RV'
  obtain ⟨_, _, _, q3', _⟩ := rowR (RV'.alloc (.cells (Array.replicate S (.int .i64 0)) 3))
  obtain ⟨_, _, _, q3'', _⟩ := rowR RV2
  have z1 : W.cell? ⟨w.heap.size, 1, none⟩ = some (.int .i64 S) := by simpa using RC'.cell 1
  have HRK := hide RK2
  have HRV := hide RV2
  clear RK2 RV2 RC' RK' RV'
  have hlt : w.heap.size + 2 < W.heap.size := by have := unhide Hsz; omega
  go_region
  all_goals
    go_wp2_with fail
    go_ret
    have hsz := unhide Hsz
    have hrep : (List.map (Value.int .i64) (List.replicate S 0)).toArray = Array.replicate S (.int .i64 0) := by simp
    have hrl : (List.replicate S (0 : Int)).length = S := by simp
    have BA := (Below.refl (W.alloc (.cells (Array.replicate S (.int .i64 0)) 3)).heap.size (W.alloc (.cells (Array.replicate S (.int .i64 0)) 3))).alloc (Nat.le_refl _) (.cells #[.slice none 0 0, .slice (some ⟨W.heap.size, 0, none⟩) S S] 80)
    have I1 := unhide HI
    rw [hrep] at I1
    have I2 := I1.below BA (Nat.le_refl _)
    rw [hrl] at I2
    have RS := Row.new (W.alloc (.cells (Array.replicate S (.int .i64 0)) 3)) #[.slice none 0 0, .slice (some ⟨W.heap.size, 0, none⟩) S S] 80
    have hq : (W.alloc (.cells (Array.replicate S (.int .i64 0)) 3)).heap.size = W.heap.size + 1 := by simp
    rw [hq] at RS
    have hST : StAt ((W.alloc (.cells (Array.replicate S (.int .i64 0)) 3)).alloc (.cells #[.slice none 0 0, .slice (some ⟨W.heap.size, 0, none⟩) S S] 80)) (W.heap.size + 1) (vs0 S) := ⟨none, 0, 0, _, S, S, RS, ⟨rfl, by omega, fun j hj => absurd hj (by simp [vs0])⟩, I2, Nat.le_refl _, Nat.le_refl _, by unfold maxLen; omega, by unfold maxLen; omega⟩
    have hSL : StLo (w.heap.size + 3) ((W.alloc (.cells (Array.replicate S (.int .i64 0)) 3)).alloc (.cells #[.slice none 0 0, .slice (some ⟨W.heap.size, 0, none⟩) S S] 80)) (W.heap.size + 1) := StLo.mk' RS (by omega) (fun ad e => by cases e) (fun ad e => by cases e; show w.heap.size + 3 ≤ W.heap.size; omega)
    have hmk : ((List.replicate m (none : Option Nat)).map ptV).toArray = Array.replicate m (.pointer none) := by simp [ptV]
    have hno : ∀ j, (List.replicate m (none : Option Vs)).getD j none = none := fun j => by
      rw [List.getD, List.getElem?_replicate]
      split <;> rfl
    have hno' : ∀ j, (List.replicate m (none : Option Nat)).getD j none = none := fun j => by
      rw [List.getD, List.getElem?_replicate]
      split <;> rfl
    have KN : Kn ((W.alloc (.cells (Array.replicate S (.int .i64 0)) 3)).alloc (.cells #[.slice none 0 0, .slice (some ⟨W.heap.size, 0, none⟩) S S] 80)) (w.heap.size + 3) (w.heap.size + 1) (List.replicate m none) (List.replicate m none) := ⟨by rw [hmk]; exact unhide HRK, by simp, by omega, fun j s e => (by rw [hno j] at e; cases e), fun j _ => hno' j⟩
    have KS := KN.set 0 (W.heap.size + 1) (vs0 S) hST hSL
    have RVS := (unhide HRV).setFar (p := ⟨w.heap.size + 1, 0, none⟩) (by show w.heap.size + 1 + 1 ≠ w.heap.size + 1; omega) (.pointer (some ⟨W.heap.size + 1, 0, none⟩))
    have BD := (Below.refl (((W.alloc (.cells (Array.replicate S (.int .i64 0)) 3)).alloc (.cells #[.slice none 0 0, .slice (some ⟨W.heap.size, 0, none⟩) S S] 80)).setCell ⟨w.heap.size + 1, 0, none⟩ (.pointer (some ⟨W.heap.size + 1, 0, none⟩))).heap.size (((W.alloc (.cells (Array.replicate S (.int .i64 0)) 3)).alloc (.cells #[.slice none 0 0, .slice (some ⟨W.heap.size, 0, none⟩) S S] 80)).setCell ⟨w.heap.size + 1, 0, none⟩ (.pointer (some ⟨W.heap.size + 1, 0, none⟩)))).drew
    have BF := (((B3.alloc B3.size (.cells (Array.replicate S (.int .i64 0)) 3)).alloc (Nat.le_trans B3.size (by simp)) (.cells #[.slice none 0 0, .slice (some ⟨W.heap.size, 0, none⟩) S S] 80)).setCell (p := ⟨w.heap.size + 1, 0, none⟩) (by show w.heap.size ≤ w.heap.size + 1; omega) (.pointer (some ⟨W.heap.size + 1, 0, none⟩))).drew
    exact ⟨_, rfl, RVS.after BD (Nat.le_refl _), KS.below BD (Nat.le_refl _), BF⟩

end Go.Proofs.YteefbljehlepjaaDoor
