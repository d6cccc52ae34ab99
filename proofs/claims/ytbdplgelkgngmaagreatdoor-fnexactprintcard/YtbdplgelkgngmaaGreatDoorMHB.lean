/-
  QC, QD, QE, QF, QG, QB, QI, QL. Own work.
-/
import Derived.Test.YtbdplgelkgngmaaGreatDoorMHA
import Derived.Test.YtbdplgelkgngmaaGreatDoorCMem
import Derived.Lib.Builder
import Derived.Lib.AppendStr
import Derived.Lib.OthersKept
import Derived.Lib.UnsafeStr
import Derived.Test.YtbdplgelkgngmaaGreatDoorVPH
import Derived.Test.YtbdplgelkgngmaaGreatDoorShelf
import Derived.Lib.LaidTab
import Derived.Lib.SmallJoins
namespace Go.Proofs.YtbdplgelkgngmaaGreatDoor
open Go.RowKit
set_option linter.unusedVariables false

theorem sizeBld : (Tryz.prog.info? 46).map (·.size) = some 2 := by kernel_rfl
theorem liesBld : liesAt Tryz.prog Tryz.prog.depth 48 (2 / Tryz.prog.cellsOf 48) 0 46 1 = true := by kernel_rfl
theorem cellsByte : Tryz.prog.cellsOf 5 = 1 := by kernel_rfl
theorem infoByte : (Tryz.prog.info? 5).map (fun i => (i.zero, i.size, i.bytes)) = some (some (.int .u8 0), 1, 1) := by kernel_rfl

/-- what stands while a printer (its block b, all of it from B on) is written -/
structure Kp (B b : Nat) (w w' : World) : Prop where
  low : Below B w w'
  oth : Lib.OthersKept 5 (some b) w w'

theorem Kp.refl (B b : Nat) (w : World) : Kp B b w w := ⟨Below.refl _ _, Lib.OthersKept.refl _ _ _⟩
theorem Kp.trans {B b : Nat} {w w1 w2 : World} (h : Kp B b w w1) (k : Kp B b w1 w2) : Kp B b w w2 := ⟨h.low.trans k.low, h.oth.trans k.oth⟩
theorem Kp.size {B b : Nat} {w w' : World} (h : Kp B b w w') : w.heap.size ≤ w'.heap.size := h.low.size

theorem Kp.of_all {B b : Nat} {w w' : World} (h : Below w.heap.size w w') (hB : B ≤ w.heap.size) : Kp B b w w' :=
  ⟨h.mono hB, fun k o hk _ _ => (h.block k (Array.getElem?_eq_some_iff.1 hk).1).trans hk⟩

theorem Kp.row {B b : Nat} {w w' : World} (h : Kp B b w w') {g : Nat} {cs : Array Value} {t : TypeId} (R : Row w g cs t) (hg : g ≠ b) (ht : t ≠ 5) : Row w' g cs t :=
  ⟨h.oth g _ R.out (fun e => hg (Option.some.inj e)) (fun c fz e => ht (by injection e))⟩

/-- a printer that has written acc -/
def Pr (B b : Nat) (acc : ByteArray) (w : World) : Prop := Lib.IsBuilder 48 5 B b (Lib.strCells acc) w

theorem Pr.at {B b : Nat} {acc : ByteArray} {w : World} (h : Pr B b acc w) : ∃ p, Lib.BuilderAt 48 5 B b p (Lib.strCells acc) w := by
  rcases h with h | h
  · exact ⟨_, h⟩
  · exact ⟨_, h⟩

theorem Pr.le {B b : Nat} {acc : ByteArray} {w : World} (h : Pr B b acc w) : B ≤ b ∧ b < w.heap.size := by
  obtain ⟨p, h⟩ := h.at
  exact ⟨h.1, h.lt⟩

theorem bldAt_below {B b : Nat} {p : Value} {bs : List Value} {w w' : World} (h : Lib.BuilderAt 48 5 B b p bs w) (hb : Below w.heap.size w w') : Lib.BuilderAt 48 5 B b p bs w' := by
  have hl := h.lt
  obtain ⟨hB, v, h1, h2, h3⟩ := h
  refine ⟨hB, v, (hb.block b hl).trans h1, ⟨h2.1, ?_⟩, h3⟩
  rcases h2.2 with k | ⟨g, cap, cur, k1, k2, k3, k4⟩
  · exact .inl k
  · exact .inr ⟨g, cap, cur, k1, k2, (hb.block g (Array.getElem?_eq_some_iff.1 k3).1).trans k3, k4⟩

theorem Pr.below {B b : Nat} {acc : ByteArray} {w w' : World} (h : Pr B b acc w) (hb : Below w.heap.size w w') : Pr B b acc w' := by
  rcases h with h | h
  · exact .inl (bldAt_below h hb)
  · exact .inr (bldAt_below h hb)

theorem strCells_app (a b : ByteArray) : Lib.strCells (a ++ b) = Lib.strCells a ++ Lib.strCells b := by
  simp [Lib.strCells, ByteArray.data_append]

set_option maxHeartbeats 1000000 in
set_option maxRecDepth 100000 in
theorem copyCheck_used (b : Nat) (w : World) (h0 : w.cell? ⟨b, 0, none⟩ = some (.pointer (some ⟨b, 0, none⟩))) :
    Calls Tryz.prog 80 #[.pointer (some ⟨b, 0, none⟩)] w fun e w' => e = .returned (.tuple #[]) ∧ w' = w := by
  obtain ⟨j, hj, _⟩ := Option.map_eq_some_iff.1 sizeBld
  go_enter Tryz.func80, Tryz.ntmps80
  go_wp2
  rw [Lib.run_neq_ptr_same w _ Tryz.underlying43 hj]
  go_wp2
  go_end0
  exact ⟨rfl, rfl⟩

set_option maxHeartbeats 1000000 in
set_option maxRecDepth 100000 in
theorem copyCheck_fresh (b : Nat) (w : World) (h0 : w.cell? ⟨b, 0, none⟩ = some (.pointer none)) (hsh : w.shape? b = some (48, 2)) (hfz : w.frozen? ⟨b, 0, none⟩ = false) :
    Calls Tryz.prog 80 #[.pointer (some ⟨b, 0, none⟩)] w fun e w' => e = .returned (.tuple #[]) ∧ w' = w.setCell ⟨b, 0, none⟩ (.pointer (some ⟨b, 0, none⟩)) := by
  obtain ⟨j, hj, hjs⟩ := Option.map_eq_some_iff.1 sizeBld
  go_enter Tryz.func80, Tryz.ntmps80
  go_wp2
  rw [Lib.run_to_unsafe w ⟨b, 0, none⟩ Tryz.underlying43 Tryz.underlying143 hj (by rw [hjs]; decide) hsh (Nat.zero_lt_succ 1)]
  simp only [Result.andThen]
  rw [Oper.upon_value]
  go_wp2
  rw [run_callFunc_extern Tryz.func89 (by kernel_rfl) (by kernel_rfl) (by kernel_rfl) (e := Extern.AbiNoEscape.same) (by kernel_rfl)]
  rw [Lib.run_noEscape]
  simp only [Result.andThen]
  rw [Oper.upon_value]
  go_wp2
  rw [Lib.run_from_unsafe w ⟨b, 0, none⟩ Tryz.underlying143 Tryz.underlying43 hj hsh liesBld]
  simp only [Result.andThen]
  rw [Oper.upon_value]
  go_wp2
  go_end0
  exact ⟨rfl, rfl⟩

theorem copyCheck_any (B b : Nat) (bs : List Value) (w : World) (h : Lib.IsBuilder 48 5 B b bs w) :
    Calls Tryz.prog 80 #[.pointer (some ⟨b, 0, none⟩)] w fun e w' => e = .returned (.tuple #[]) ∧ Lib.BuilderAt 48 5 B b (.pointer (some ⟨b, 0, none⟩)) bs w' ∧ Kp B b w w' := by
  rcases h with h | h
  · refine (copyCheck_fresh b w h.cell0 h.shape h.frozen0).mono ?_
    rintro e w' ⟨rfl, rfl⟩
    exact ⟨rfl, h.used _, (Below.refl B w).setCell (p := ⟨b, 0, none⟩) h.1 _, (Lib.OthersKept.refl _ _ w).setCell ⟨b, 0, none⟩ rfl _⟩
  · refine (copyCheck_used b w h.cell0).mono ?_
    rintro e w' ⟨rfl, rfl⟩
    exact ⟨rfl, h, Kp.refl _ _ _⟩

set_option maxHeartbeats 2000000 in
set_option maxRecDepth 100000 in
theorem writeString_any (B b : Nat) (acc s : ByteArray) (w : World) (h : Pr B b acc w) (hlen : acc.size + s.size ≤ 140737488355328) :
    Calls Tryz.prog 56 #[.pointer (some ⟨b, 0, none⟩), .string s] w fun e w' => e = .returned (.tuple #[.int .i64 s.size, .nilIface]) ∧ Pr B b (acc ++ s) w' ∧ Kp B b w w' := by
  obtain ⟨i0, hi, hz0, hz1, hz2⟩ := info_parts infoByte
  have hBw : B ≤ w.heap.size := by have := h.le; omega
  go_enter Tryz.func56, Tryz.ntmps56
  go_wp2_with (go_at_call 80; refine (copyCheck_any B b _ _ h).mono ?_)
  rintro e w1 ⟨rfl, h1, hk1⟩
  obtain ⟨hB, v, hbk, hown, hne⟩ := h1
  have hb1 := hk1.low
  have c0 : w1.cell? ⟨b, 0, none⟩ = some (.pointer (some ⟨b, 0, none⟩)) := by rw [Lib.cell_of_heap hbk]; rfl
  have c1 : w1.cell? ⟨b, 1, none⟩ = some v := by rw [Lib.cell_of_heap hbk]; rfl
  rw [Lib.strCells_length] at hown
  go_wp2_with (at_builtin; refine Lib.wpList_append_own_string _ rfl _ _ 44 9 rfl B 5 i0 Tryz.underlying44 Tryz.underlying9 hi hz0 hz1 hz2 _ _ _ rfl hown s rfl ?c3 ?c4 ?c5 ?_)
  case c3 => unfold maxLen; omega
  case c4 => omega
  case c5 => have := hb1.size; omega
  intro v' w2 hown' hgrow _
  have hlt : b < w1.heap.size := (Array.getElem?_eq_some_iff.1 hbk).1
  have hb2 : w2.heap[b]? = some (.cells #[.pointer (some ⟨b, 0, none⟩), v] 48 (0, 0)) := by
    rw [hgrow.block b hlt (fun e => hne e.symm)]
    exact hbk
  have d0 : w2.cell? ⟨b, 0, none⟩ = some (.pointer (some ⟨b, 0, none⟩)) := by rw [Lib.cell_of_heap hb2]; rfl
  have d1 : w2.cell? ⟨b, 1, none⟩ = some v := by rw [Lib.cell_of_heap hb2]; rfl
  have f1 : w2.frozen? ⟨b, 1, none⟩ = false := Lib.frozen_of_heap hb2 1
  obtain ⟨ao, n', cap, rfl⟩ : ∃ ao n' cap, v' = .slice ao n' cap := by
    rcases hown'.2 with ⟨hv, _⟩ | ⟨g, cap, cur, hv, _⟩
    · exact ⟨_, _, _, hv⟩
    · exact ⟨_, _, _, hv⟩
  go_wp2
  go_ret2
  refine ⟨rfl, Or.inr ?_, ?_, ?_⟩
  · exact Lib.BuilderAt.put (T := 48) (e := 5) hB hb2 (bs' := Lib.strCells (acc ++ s)) (by rw [Lib.strCells_length, strCells_app, ByteArray.size_append]; exact hown') (by decide)
  · exact (hb1.grown hgrow (by have := hb1.size; omega) (fun k hk => (hown.lt k hk).1)).setCell (p := ⟨b, 1, none⟩) hB _
  · refine Lib.OthersKept.setCell (hk1.oth.grown hgrow ?_) ⟨b, 1, none⟩ rfl _
    intro g hg
    rcases hown.2 with ⟨rfl, _⟩ | ⟨g', cap', cur, rfl, _, hgg, _⟩
    · simp [Value.ownBlock] at hg
    · simp [Value.ownBlock] at hg
      subst hg
      exact ⟨cur, _, hgg⟩

end Go.Proofs.YtbdplgelkgngmaaGreatDoor

namespace Go.Proofs.YtbdplgelkgngmaaGreatDoor
open Go.RowKit
set_option linter.unusedVariables false

def catB : List ByteArray → ByteArray
  | [] => ⟨#[]⟩
  | x :: r => x ++ catB r

theorem catB_snoc (x : ByteArray) : ∀ (l : List ByteArray), catB (l ++ [x]) = catB l ++ x
  | [] => by simp [catB, nil_app, app_nil]
  | y :: r => by rw [List.cons_append, catB, catB, catB_snoc x r, ByteArray.append_assoc]

theorem catB_app : ∀ (l m : List ByteArray), catB (l ++ m) = catB l ++ catB m
  | [], m => by simp [catB, nil_app]
  | y :: r, m => by rw [List.cons_append, catB, catB, catB_app r m, ByteArray.append_assoc]

theorem catB_room (l : List ByteArray) (k : Nat) (h : k < l.length) : (catB (l.take k)).size + l[k].size ≤ (catB l).size := by
  have e : l = l.take k ++ (l[k] :: l.drop (k + 1)) := by rw [List.getElem_cons_drop, List.take_append_drop]
  have e2 := congrArg (fun x => (catB x).size) e
  simp only [catB_app, catB, ByteArray.size_append] at e2
  omega

theorem app3 (a b c : ByteArray) : catB [a, b, c] = a ++ b ++ c := by simp [catB, app_nil, ByteArray.append_assoc]
theorem app1 (a : ByteArray) : catB [a] = a := by simp [catB, app_nil]

set_option maxHeartbeats 2000000 in
set_option maxRecDepth 100000 in
theorem write_any (B b g : Nat) (ss : List ByteArray) (n : Nat) (hn : n = ss.length) (acc : ByteArray) (w : World) (h : Pr B b acc w) (R : Row w g (ss.map Value.string).toArray 9) (hg : g ≠ b) (hlen : acc.size + (catB ss).size ≤ 140737488355328) (hm : n ≤ 1000) :
    Calls Tryz.prog 33 #[.pointer (some ⟨b, 0, none⟩), .slice (some ⟨g, 0, none⟩) n n] w fun e w' => e = .returned (.tuple #[]) ∧ Pr B b (acc ++ catB ss) w' ∧ Kp B b w w' := by
  have HN := hide hn
  clear hn
  go_enter Tryz.func33, Tryz.ntmps33
  go_wp2_with fail
  go_loopw [8] (fun i wr => ∃ k : Nat, k ≤ n ∧ i = .int .i64 k ∧ Pr B b (acc ++ catB (ss.take k)) wr ∧ Kp B b w wr) (fun i _ => n - (intOf i).toNat)
  case atStart => exact ⟨0, Nat.zero_le _, rfl, by rw [List.take_zero, catB, app_nil]; exact h, Kp.refl _ _ _⟩
  case round =>
    obtain ⟨k, hk, rfl, P1, K1⟩ := hrel
    by_cases hlt : k < n
    · have ilt : (k : Int) < (n : Int) := by omega
      have hkl : k < ss.length := by rw [← unhide HN]; exact hlt
      have R1 := K1.row R hg (by decide)
      have c0 : wr.cell? ⟨g, k, none⟩ = some (.string ss[k]) := by
        have := R1.cell k
        rw [this]
        simp [hkl]
      have HZ := hide (catB_room ss k hkl)
      have HS := hide (show acc ++ catB (ss.take (k + 1)) = acc ++ catB (ss.take k) ++ ss[k] by rw [List.take_succ_eq_append_getElem hkl, catB_snoc, ByteArray.append_assoc])
      have Hlt := hide hlt
      generalize ss[k] = s at c0 HZ HS
      have hb := h.le.2
      have gl := R1.lt
      have zs := K1.size
      clear R1 hlt hkl
      go_wp2_with (go_at_call 56; refine (writeString_any B b _ s _ P1 (by have := unhide HZ; rw [ByteArray.size_append]; omega)).mono ?_)
      rintro e w2 ⟨rfl, P2, K2⟩
      go_wp2_with fail
      go_roundw
      case rel => exact ⟨k + 1, unhide Hlt, by go_num, by rw [unhide HS]; exact P2, K1.trans K2⟩
      case measure => have := unhide Hlt; simp [intOf]; omega
    · have e : k = n := by omega
      subst e
      have HS := hide (show ss.take k = ss by rw [unhide HN, List.take_length])
      go_wp2_with fail
      go_end0
      rw [unhide HS] at P1
      exact ⟨rfl, P1, K1⟩

theorem Kp.alloc0 {B b : Nat} (w : World) (o : Obj) (hB : B ≤ w.heap.size) : Kp B b w (w.alloc o) := ⟨(Below.refl B w).alloc hB o, (Lib.OthersKept.refl _ _ w).alloc o⟩

theorem Pr.alloc {B b : Nat} {acc : ByteArray} {w : World} (h : Pr B b acc w) (o : Obj) : Pr B b acc (w.alloc o) := h.below ((Below.refl _ w).alloc (Nat.le_refl _) o)

theorem write1 (B b : Nat) (s acc : ByteArray) (w : World) (h : Pr B b acc w) (hlen : acc.size + s.size ≤ 140737488355328) :
    Calls Tryz.prog 33 #[.pointer (some ⟨b, 0, none⟩), .slice (some ⟨w.heap.size, 0, none⟩) 1 1] (w.alloc (.cells #[.string s] 9)) fun e w' => e = .returned (.tuple #[]) ∧ Pr B b (acc ++ s) w' ∧ Kp B b w w' := by
  have hb := h.le
  refine (write_any B b w.heap.size [s] 1 rfl acc _ (h.alloc _) (Row.new w #[.string s] 9) (by omega) (by rw [app1]; exact hlen) (by decide)).mono ?_
  rintro e w' ⟨rfl, P1, K1⟩
  exact ⟨rfl, by rw [app1] at P1; exact P1, (Kp.alloc0 w _ (by omega)).trans K1⟩

theorem write3 (B b : Nat) (s t u acc : ByteArray) (w : World) (h : Pr B b acc w) (hlen : acc.size + (s.size + t.size + u.size) ≤ 140737488355328) :
    Calls Tryz.prog 33 #[.pointer (some ⟨b, 0, none⟩), .slice (some ⟨w.heap.size, 0, none⟩) 3 3] (w.alloc (.cells #[.string s, .string t, .string u] 9)) fun e w' => e = .returned (.tuple #[]) ∧ Pr B b (acc ++ (s ++ t ++ u)) w' ∧ Kp B b w w' := by
  have hb := h.le
  refine (write_any B b w.heap.size [s, t, u] 3 rfl acc _ (h.alloc _) (Row.new w #[.string s, .string t, .string u] 9) (by omega) (by rw [app3, ByteArray.size_append, ByteArray.size_append]; exact hlen) (by decide)).mono ?_
  rintro e w' ⟨rfl, P1, K1⟩
  exact ⟨rfl, by rw [app3] at P1; exact P1, (Kp.alloc0 w _ (by omega)).trans K1⟩

set_option maxHeartbeats 1000000 in
set_option maxRecDepth 100000 in
theorem string_any (B b : Nat) (acc : ByteArray) (w : World) (h : Pr B b acc w) (h0 : acc.size ≠ 0) :
    Calls Tryz.prog 18 #[.pointer (some ⟨b, 0, none⟩)] w fun e w' => e = .returned (.string acc) ∧ Below B w w' := by
  obtain ⟨p, hB, v, hbk, hown, hne⟩ := h.at
  rw [Lib.strCells_length] at hown
  obtain ⟨g, cap, cur, rfl, hbg, hg, hnc, hcm, hcs, htake⟩ : ∃ g cap cur, v = .slice (some ⟨g, 0, none⟩) acc.size cap ∧ B ≤ g ∧ w.heap[g]? = some (.cells cur 5 (0, 0)) ∧ acc.size ≤ cap ∧ cap ≤ maxLen ∧ cur.size = cap * 1 ∧ cur.toList.take (acc.size * 1) = Lib.strCells acc := by
    rcases hown.2 with ⟨_, hz⟩ | ⟨g, cap, cur, hv, r⟩
    · exact absurd hz h0
    · exact ⟨g, cap, cur, hv, r⟩
  have c1 : w.drew.cell? ⟨b, 1, none⟩ = some (.slice (some ⟨g, 0, none⟩) acc.size cap) := by
    have : w.drew.heap[b]? = some (.cells #[p, .slice (some ⟨g, 0, none⟩) acc.size cap] 48 (0, 0)) := hbk
    rw [Lib.cell_of_heap this]; rfl
  have hSD : (Builtin.unsafeSliceData_ #[44] 82 #[.slice (some ⟨g, 0, none⟩) acc.size cap]).run Tryz.prog w.drew = .ok (.pointer (some ⟨g, 0, none⟩)) w.drew :=
    Lib.run_unsafeSliceData_row _ _ _ _ _ _ (by omega)
  have hUS : (Builtin.unsafeString_ #[82, 3] 9 #[.pointer (some ⟨g, 0, none⟩), .int .i64 acc.size]).run Tryz.prog w.drew = .ok (.string acc) (w.drew.freeze ⟨g, 0, none⟩ acc.size) := by
    have hl : acc.data.toList.length = acc.size := by simp
    have := Lib.run_unsafeString_row w.drew 82 3 9 5 Tryz.underlying82 cellsByte g cur.size (by have hg' : w.drew.heap[g]? = some (.cells cur 5 (0, 0)) := hg; simp [World.shape?, hg']) acc.data.toList (fun e => h0 (by rw [← hl, e]; rfl)) (by rw [hl]; omega) (by rw [hl]; unfold maxLen at hcm; omega) (fun j x hx => hown.cells (g := g) rfl j (.int .u8 x.toNat) (by simp [Lib.strCells, hx]))
    rw [hl] at this
    exact this
  go_enter Tryz.func18, Tryz.ntmps18
  go_wp2
  go_region
  all_goals (go_wp2; go_ret; exact ⟨rfl, Lib.below_freeze (Below.drew (Below.refl B w)) (p := ⟨g, 0, none⟩) hbg _⟩)

end Go.Proofs.YtbdplgelkgngmaaGreatDoor

namespace Go.Proofs.YtbdplgelkgngmaaGreatDoor
open Go.RowKit
set_option linter.unusedVariables false

theorem Ex.form (e : Ex) : ∃ t u, e.val = .iface t u := by cases e <;> exact ⟨_, _, rfl⟩

theorem ta_hit {T : TypeId} {fs : Array Field} (hu : Tryz.prog.underlying T = some (.struct fs)) (xT : TypeId) (v : Value) (w : World) : (Instr.typeAssert (.iface T v) xT T true).run Tryz.prog w = .ok (.tuple #[v, .bool true]) w := by simp [Instr.typeAssert, run_underlying hu]

theorem ta_miss {S T : TypeId} {fs : Array Field} {z : Value} (hu : Tryz.prog.underlying T = some (.struct fs)) (hz : ∀ w, (zeroValue T).run Tryz.prog w = .ok z w) (h : S ≠ T) (xT : TypeId) (v : Value) (w : World) : (Instr.typeAssert (.iface S v) xT T true).run Tryz.prog w = .ok (.tuple #[z, .bool false]) w := by simp [Instr.typeAssert, run_underlying hu, hz, h]

theorem opr_lv : ∀ k, k < 16 → (opr k).lv = lvN (opr k).op ∧ (opr k).text = signB (opr k).op
  | 0, _ => ⟨rfl, rfl⟩
  | 1, _ => ⟨rfl, rfl⟩
  | 2, _ => ⟨rfl, rfl⟩
  | 3, _ => ⟨rfl, rfl⟩
  | 4, _ => ⟨rfl, rfl⟩
  | 5, _ => ⟨rfl, rfl⟩
  | 6, _ => ⟨rfl, rfl⟩
  | 7, _ => ⟨rfl, rfl⟩
  | 8, _ => ⟨rfl, rfl⟩
  | 9, _ => ⟨rfl, rfl⟩
  | 10, _ => ⟨rfl, rfl⟩
  | 11, _ => ⟨rfl, rfl⟩
  | 12, _ => ⟨rfl, rfl⟩
  | 13, _ => ⟨rfl, rfl⟩
  | 14, _ => ⟨rfl, rfl⟩
  | 15, _ => ⟨rfl, rfl⟩
  | n + 16, h => absurd h (by omega)

set_option maxRecDepth 100000 in
set_option maxHeartbeats 6400000 in
theorem binaryOperator_bin (op : Int) (w : World) (hT : TabOK w) (hop : 11 ≤ op ∧ op ≤ 26) :
    Calls Tryz.prog 82 #[.int .i64 op] w fun e w' => e = .returned (.tuple #[.agg #[.int .i64 op, .int .i64 (lvN op), .string (signB op)], .bool true]) ∧ Below w.heap.size w w' := by
  have hw := hT.lt
  have hc := hT.cells
  have Hop := hide hop
  clear hT hop
  have HC := hide (show ∀ k, (w.alloc (.cells #[.int .i64 0, .int .i64 0, .string ⟨#[]⟩] 140)).cell? ⟨0, k, none⟩ = binV[k]? from fun k => (World.cell?_alloc_lt _ _ ⟨0, k, none⟩ hw).trans (hc k))
  clear hc
  have B0 := (Below.refl w.heap.size w).alloc (Nat.le_refl _) (.cells #[.int .i64 0, .int .i64 0, .string ⟨#[]⟩] 140)
  have R0 := Row.new w #[.int .i64 0, .int .i64 0, .string ⟨#[]⟩] 140
  go_enter Tryz.func82, Tryz.ntmps82
  go_wp2_with (refine wpList_load_cells rfl 145 _ rfl 0 rfl binV _ (unhide HC) Tryz.underlying145 rfl (by kernel_rfl) ?_)
  clear HC
  go_loopw [7] (fun i wr => ∃ k : Nat, k ≤ 16 ∧ i = .int .i64 k ∧ Below w.heap.size w wr ∧ Row wr w.heap.size #[.int .i64 0, .int .i64 0, .string ⟨#[]⟩] 140 ∧ ∀ j, j < k → (opr j).op ≠ op) (fun i _ => 16 - (intOf i).toNat)
  case atStart => exact ⟨0, by omega, rfl, B0, R0, fun j h => absurd h (by omega)⟩
  case round =>
    obtain ⟨k, hk, rfl, B1, R1, hn⟩ := hrel
    have Hn := hide hn
    clear hn B0 R0
    by_cases hlt : k < 16
    · have ilt : (k : Int) < 16 := by omega
      have HR := hide (binV_row k hlt)
      have HI := hide (opr_lv k hlt)
      have Hlt := hide hlt
      have z1 := R1.lt
      have HE := hide (show (opr k).op ≠ op → ∀ j, j < k + 1 → (opr j).op ≠ op from fun e j hj => by
        by_cases ej : j = k
        · subst ej; exact e
        · exact unhide Hn j (by omega))
      clear Hn hlt
      generalize opr k = o at HR HE HI
      have B2 := B1.alloc B1.size (.cells #[.int .i64 o.op, .int .i64 o.lv, .string o.text] 140)
      have R2 := R1.alloc (.cells #[.int .i64 o.op, .int .i64 o.lv, .string o.text] 140)
      have R3 := Row.new wr #[.int .i64 o.op, .int .i64 o.lv, .string o.text] 140
      by_cases ho : o.op = op
      · have eo : (o.op == op) = true := beq_iff_eq.2 ho
        have HA := hide (show (Value.agg #[.int .i64 o.op, .int .i64 o.lv, .string o.text]) = .agg #[.int .i64 op, .int .i64 (lvN op), .string (signB op)] by rw [← ho, ← (unhide HI).1, ← (unhide HI).2])
        clear ho HI HE
        obtain ⟨q0, q1, q2, qf⟩ := row3 R1
        go_wp2_with (refine wpList_index_agg rfl 145 _ _ rfl binV rfl k rfl 16 140 Tryz.underlying145 (unhide Hlt) _ Tryz.underlying140 rfl 3 (by kernel_rfl) _ (unhide HR) ?_)
        have RF : Row _ w.heap.size #[.int .i64 o.op, .int .i64 o.lv, .string o.text] 140 := (((R1.set 0 (.int .i64 o.op)).set 1 (.int .i64 o.lv)).set 2 (.string o.text)).alloc (.cells #[.int .i64 o.op, .int .i64 o.lv, .string o.text] 140)
        have BF := (((B1.setCell (p := ⟨w.heap.size, 0, none⟩) (Nat.le_refl _) (.int .i64 o.op)).setCell (p := ⟨w.heap.size, 1, none⟩) (Nat.le_refl _) (.int .i64 o.lv)).setCell (p := ⟨w.heap.size, 2, none⟩) (Nat.le_refl _) (.string o.text))
        have BG := BF.alloc BF.size (.cells #[.int .i64 o.op, .int .i64 o.lv, .string o.text] 140)
        obtain ⟨g0, g1, g2, gf⟩ := row3 RF
        exact bodyPost_ret (res_bin Tryz.results82 rfl rfl g0 g1 g2) rfl ⟨by rw [← unhide HA]; rfl, BG⟩
      · have eo : (o.op == op) = false := beq_eq_false_iff_ne.2 ho
        have HE2 := hide (unhide HE ho)
        clear ho HI HE
        go_wp2_with (refine wpList_index_agg rfl 145 _ _ rfl binV rfl k rfl 16 140 Tryz.underlying145 (unhide Hlt) _ Tryz.underlying140 rfl 3 (by kernel_rfl) _ (unhide HR) ?_)
        go_roundw
        case rel => exact ⟨k + 1, unhide Hlt, by go_num, B2, R2, unhide HE2⟩
        case measure => have := unhide Hlt; simp [intOf]; omega
    · have e : k = 16 := by omega
      subst e
      obtain ⟨j, hj, e⟩ := opr_some op (unhide Hop)
      exact absurd e (unhide Hn j hj)

set_option maxRecDepth 100000 in
theorem unaryLevel_any (op : Int) (w : World) (hop : 8 ≤ op ∧ op ≤ 10) :
    Calls Tryz.prog 81 #[.int .i64 op] w fun e w' => e = .returned (.int .i64 (lvN op)) ∧ w' = w := by
  have : op = 8 ∨ op = 9 ∨ op = 10 := by omega
  rcases this with rfl | rfl | rfl
  · go_enter Tryz.func81, Tryz.ntmps81
    go_wp2
    go_ret
    exact ⟨rfl, rfl⟩
  · go_enter Tryz.func81, Tryz.ntmps81
    go_wp2
    go_ret
    exact ⟨rfl, rfl⟩
  · go_enter Tryz.func81, Tryz.ntmps81
    go_wp2
    go_ret
    exact ⟨rfl, rfl⟩

set_option maxHeartbeats 1600000 in
set_option maxRecDepth 100000 in
theorem levelOf_any (e : Ex) (w0 w : World) (hT : TabOK w) (hf : e.fit w0) :
    Calls Tryz.prog 57 #[e.val] w fun r w' => r = .returned (.int .i64 (lvN e.op)) ∧ Below w.heap.size w w' := by
  cases e with
  | int i n =>
    simp only [Ex.val, Ex.op]
    have a0 := ta_miss (S := 109) (T := 128) Tryz.underlying128 Tryz.zeroValue128 (by decide) 52
    have a1 := ta_miss (S := 109) (T := 122) Tryz.underlying122 Tryz.zeroValue122 (by decide) 52
    have a2 := ta_miss (S := 109) (T := 125) Tryz.underlying125 Tryz.zeroValue125 (by decide) 52
    clear hf hT
    go_enter Tryz.func57, Tryz.ntmps57
    go_wp2
    go_ret
    exact ⟨rfl, Below.refl _ _⟩
  | text i s =>
    simp only [Ex.val, Ex.op]
    have a0 := ta_miss (S := 112) (T := 128) Tryz.underlying128 Tryz.zeroValue128 (by decide) 52
    have a1 := ta_miss (S := 112) (T := 122) Tryz.underlying122 Tryz.zeroValue122 (by decide) 52
    have a2 := ta_miss (S := 112) (T := 125) Tryz.underlying125 Tryz.zeroValue125 (by decide) 52
    clear hf hT
    go_enter Tryz.func57, Tryz.ntmps57
    go_wp2
    go_ret
    exact ⟨rfl, Below.refl _ _⟩
  | bool i b =>
    simp only [Ex.val, Ex.op]
    have a0 := ta_miss (S := 114) (T := 128) Tryz.underlying128 Tryz.zeroValue128 (by decide) 52
    have a1 := ta_miss (S := 114) (T := 122) Tryz.underlying122 Tryz.zeroValue122 (by decide) 52
    have a2 := ta_miss (S := 114) (T := 125) Tryz.underlying125 Tryz.zeroValue125 (by decide) 52
    clear hf hT
    go_enter Tryz.func57, Tryz.ntmps57
    go_wp2
    go_ret
    exact ⟨rfl, Below.refl _ _⟩
  | set i a n c ss =>
    simp only [Ex.val, Ex.op]
    have a0 := ta_miss (S := 117) (T := 128) Tryz.underlying128 Tryz.zeroValue128 (by decide) 52
    have a1 := ta_miss (S := 117) (T := 122) Tryz.underlying122 Tryz.zeroValue122 (by decide) 52
    have a2 := ta_miss (S := 117) (T := 125) Tryz.underlying125 Tryz.zeroValue125 (by decide) 52
    clear hf hT
    go_enter Tryz.func57, Tryz.ntmps57
    go_wp2
    go_ret
    exact ⟨rfl, Below.refl _ _⟩
  | name i s =>
    simp only [Ex.val, Ex.op]
    have a0 := ta_miss (S := 120) (T := 128) Tryz.underlying128 Tryz.zeroValue128 (by decide) 52
    have a1 := ta_miss (S := 120) (T := 122) Tryz.underlying122 Tryz.zeroValue122 (by decide) 52
    have a2 := ta_miss (S := 120) (T := 125) Tryz.underlying125 Tryz.zeroValue125 (by decide) 52
    clear hf hT
    go_enter Tryz.func57, Tryz.ntmps57
    go_wp2
    go_ret
    exact ⟨rfl, Below.refl _ _⟩
  | attr i n => exact absurd hf id
  | lett i n => exact absurd hf id
  | ite i c t e =>
    simp only [Ex.val, Ex.op]
    clear hf hT
    obtain ⟨vct, vcu, vcE⟩ := Ex.form c
    obtain ⟨vtt, vtu, vtE⟩ := Ex.form t
    obtain ⟨vet, veu, veE⟩ := Ex.form e
    rw [vcE, vtE, veE]
    clear vcE vtE veE
    have a0 := ta_hit (T := 128) Tryz.underlying128 52
    go_enter Tryz.func57, Tryz.ntmps57
    go_wp2
    go_ret
    exact ⟨rfl, (Below.refl _ _).alloc (Nat.le_refl _) _⟩
  | un i op k =>
    have Hop := hide hf.1
    simp only [Ex.val, Ex.op]
    clear hf hT
    obtain ⟨vkt, vku, vkE⟩ := Ex.form k
    rw [vkE]
    clear vkE
    have a0 := ta_miss (S := 122) (T := 128) Tryz.underlying128 Tryz.zeroValue128 (by decide) 52
    have a1 := ta_hit (T := 122) Tryz.underlying122 52
    go_enter Tryz.func57, Tryz.ntmps57
    go_wp2_with (go_at_call 81; refine (unaryLevel_any op _ (unhide Hop)).mono ?_; rintro e w' ⟨rfl, hw⟩; rw [hw]; clear hw)
    go_ret
    exact ⟨rfl, (Below.refl _ _).alloc (Nat.le_refl _) _⟩
  | bin i op l r =>
    have Hop := hide hf.1
    simp only [Ex.val, Ex.op]
    clear hf
    obtain ⟨vlt, vlu, vlE⟩ := Ex.form l
    obtain ⟨vrt, vru, vrE⟩ := Ex.form r
    rw [vlE, vrE]
    clear vlE vrE
    have E1 := (Below.refl w.heap.size w).alloc (Nat.le_refl _) (.cells #[.int .i64 i, .int .i64 op, .iface vlt vlu, .iface vrt vru] 125)
    have T1 := hT.below E1 (Nat.le_refl _)
    have a0 := ta_miss (S := 125) (T := 128) Tryz.underlying128 Tryz.zeroValue128 (by decide) 52
    have a1 := ta_miss (S := 125) (T := 122) Tryz.underlying122 Tryz.zeroValue122 (by decide) 52
    have a2 := ta_hit (T := 125) Tryz.underlying125 52
    clear hT
    go_enter Tryz.func57, Tryz.ntmps57
    go_wp2_with (go_at_call 82; refine (binaryOperator_bin op _ T1 (unhide Hop)).mono ?_; rintro e w' ⟨rfl, hb⟩)
    go_ret
    have E2 := E1.trans (hb.mono E1.size)
    exact ⟨rfl, E2.alloc E2.size _⟩

end Go.Proofs.YtbdplgelkgngmaaGreatDoor

namespace Go.Proofs.YtbdplgelkgngmaaGreatDoor
open Go.RowKit
set_option linter.unusedVariables false

set_option maxHeartbeats 3200000 in
set_option maxRecDepth 100000 in
theorem set_any (B b : Nat) (w0 : World) (a : Option Addr) (n c : Nat) (ss : List ByteArray) (hS : Strs w0 a n c ss) (hB : w0.heap.size ≤ B) (hn : n ≤ 64) (hs : ∀ x ∈ ss, x.size ≤ 32)
    (acc : ByteArray) (w : World) (hw : Below B w0 w) (h : Pr B b acc w) (hlen : acc.size ≤ 100000000000) :
    Calls Tryz.prog 60 #[.pointer (some ⟨b, 0, none⟩), .slice a n c] w fun e w' => e = .returned (.tuple #[]) ∧ Pr B b (acc ++ setT ss) w' ∧ Kp B b w w' := by
  have HL := hide hS.len
  have HS := hide hs
  have e123 : (⟨#[123]⟩ : ByteArray).size = 1 := rfl
  clear hs
  go_enter Tryz.func60, Tryz.ntmps60
  go_wp2_with fail
  refine (write1 B b _ acc _ h (by rw [e123]; omega)).mono ?_
  rintro e w1 ⟨rfl, P1, K1⟩
  go_wp2_with fail
  go_loopw [11] (fun i wr => ∃ k : Nat, k ≤ n ∧ i = .int .i64 k ∧ Pr B b (acc ++ ⟨#[123]⟩ ++ itemsT true (ss.take k)) wr ∧ Kp B b w wr) (fun i _ => n - (intOf i).toNat)
  case atStart => exact ⟨0, Nat.zero_le _, rfl, by rw [List.take_zero, itemsT, app_nil]; exact P1, K1⟩
  case round =>
    clear P1 K1
    obtain ⟨k, hk, rfl, P1, K1⟩ := hrel
    by_cases hlt : k < n
    · have ilt : (k : Int) < (n : Int) := by omega
      have hkl : k < ss.length := by rw [← unhide HL]; exact hlt
      obtain ⟨b', off, rfl, hb', c0⟩ := (hS.below (hw.trans K1.low) hB).cells k hlt
      have en : nth ss k = ss[k] := by simp [nth, List.getD, hkl]
      rw [en] at c0
      have HZ := hide (itemsT_size true (ss.take k) (fun x hx => unhide HS x (List.mem_of_mem_take hx)))
      have HK := hide (show ss[k].size ≤ 32 from unhide HS _ (List.getElem_mem hkl))
      have HT := hide (show itemsT true (ss.take (k + 1)) = itemsT true (ss.take k) ++ itemsT (decide (k = 0)) [ss[k]] by
        rw [List.take_succ_eq_append_getElem hkl, itemsT_snoc]
        congr 2
        by_cases e : k = 0
        · subst e; rfl
        · have : ss.take k ≠ [] := fun e2 => by have := congrArg List.length e2; simp at this; rcases this with e3 | e3; omega; subst e3; simp at hkl
          rw [decide_eq_false e, Bool.true_and, List.isEmpty_eq_false_iff.2 this])
      have hz : (itemsT true (ss.take k)).size ≤ 36 * 64 := by have := unhide HZ; rw [List.length_take] at this; omega
      have Hlt := hide hlt
      generalize ss[k] = s at c0 HK HT
      generalize itemsT true (ss.take k) = A at P1 HT hz
      have hA : (acc ++ ⟨#[123]⟩ ++ A).size ≤ 100000000000 + 1 + 36 * 64 := by rw [ByteArray.size_append, ByteArray.size_append, e123]; omega
      have e34 : (⟨#[34]⟩ : ByteArray).size = 1 := rfl
      have e44 : (⟨#[44, 32]⟩ : ByteArray).size = 2 := rfl
      clear HZ hkl hlt en hz hS
      have HC := hide (show ∀ x, acc ++ ⟨#[123]⟩ ++ (A ++ x) = acc ++ ⟨#[123]⟩ ++ A ++ x from fun x => ByteArray.append_assoc.symm)
      generalize acc ++ ⟨#[123]⟩ ++ A = C at P1 hA HC
      by_cases k0 : k = 0
      · have i0 : ¬ ((0 : Int) < (k : Int)) := by omega
        have HI := hide (show acc ++ ⟨#[123]⟩ ++ itemsT true (ss.take (k + 1)) = C ++ (⟨#[34]⟩ ++ s ++ ⟨#[34]⟩) by rw [unhide HT, unhide HC, decide_eq_true k0]; simp [itemsT, nil_app, app_nil])
        clear HT HC k0
        go_wp2_with fail
        refine (write3 B b _ _ _ C _ P1 (by have := unhide HK; rw [e34]; omega)).mono ?_
        rintro e w2 ⟨rfl, P2, K2⟩
        go_wp2_with fail
        go_roundw
        case rel => exact ⟨k + 1, unhide Hlt, by go_num, by rw [unhide HI]; exact P2, K1.trans K2⟩
        case measure => have := unhide Hlt; simp [intOf]; omega
      · have i0 : (0 : Int) < (k : Int) := by omega
        have HI := hide (show acc ++ ⟨#[123]⟩ ++ itemsT true (ss.take (k + 1)) = C ++ ⟨#[44, 32]⟩ ++ (⟨#[34]⟩ ++ s ++ ⟨#[34]⟩) by rw [unhide HT, unhide HC, decide_eq_false k0]; simp [itemsT, app_nil, ByteArray.append_assoc])
        clear HT HC k0
        go_wp2_with fail
        refine (write1 B b _ C _ P1 (by rw [e44]; omega)).mono ?_
        rintro e w2 ⟨rfl, P2, K2⟩
        go_wp2_with fail
        refine (write3 B b _ _ _ _ _ P2 (by have := unhide HK; rw [ByteArray.size_append, e34, e44]; omega)).mono ?_
        rintro e w3 ⟨rfl, P3, K3⟩
        go_wp2_with fail
        go_roundw
        case rel => exact ⟨k + 1, unhide Hlt, by go_num, by rw [unhide HI]; exact P3, (K1.trans K2).trans K3⟩
        case measure => have := unhide Hlt; simp [intOf]; omega
    · have e : k = n := by omega
      subst e
      have hz := itemsT_size true ss (unhide HS)
      have hl2 := unhide HL
      have HS2 := hide (show acc ++ setT ss = acc ++ ⟨#[123]⟩ ++ itemsT true ss ++ ⟨#[125]⟩ by rw [setT]; simp only [ByteArray.append_assoc])
      have e125 : (⟨#[125]⟩ : ByteArray).size = 1 := rfl
      have HA := hide (show (acc ++ ⟨#[123]⟩ ++ itemsT true ss).size ≤ 100000000000 + 1 + 36 * 64 by rw [ByteArray.size_append, ByteArray.size_append, e123]; omega)
      rw [show ss.take k = ss by rw [hl2, List.take_length]] at P1
      clear hz hl2 HS
      go_wp2_with fail
      refine (write1 B b _ _ _ P1 (by have := unhide HA; rw [e125]; omega)).mono ?_
      rintro e w2 ⟨rfl, P2, K2⟩
      go_wp2_with fail
      go_end0
      exact ⟨rfl, by rw [unhide HS2]; exact P2, K1.trans K2⟩

end Go.Proofs.YtbdplgelkgngmaaGreatDoor

namespace Go.Proofs.YtbdplgelkgngmaaGreatDoor
open Go.RowKit
set_option linter.unusedVariables false

abbrev Pow (w : World) : Prop := Lib.TabIs Tryz.prog w "internal/strconv.uint64pow10" .u64 Lib.pow10Tab

theorem gPow : Tryz.prog.globalNamed "internal/strconv.uint64pow10" = some 1 := by kernel_rfl

theorem Pow.below {w w' : World} {B : Nat} (h : Pow w) (hb : Below B w w') (hB : w.heap.size ≤ B) : Pow w' := Joins.tab_stays gPow h (hb.mono hB) (Nat.le_refl _)

theorem formatInt_big (x : Int) (w : World) (h0 : 0 ≤ x) (hk : x ≤ 9223372036854775807) (ht : Pow w) :
    Calls Tryz.prog 58 #[.int .i64 x, .int .i64 10] w fun e w' => e = .returned (.string (numB x.toNat)) ∧ Below w.heap.size w w' := by
  refine (Tryz.strconv_FormatInt_10 x (by omega) (by omega) w ht).mono ?_
  rintro e w' ⟨rfl, k, os, rfl⟩
  refine ⟨?_, ?_⟩
  · rw [Lib.itoa, if_neg (by omega)]; rfl
  · exact ⟨rfl, rfl, rfl, by simp, fun k hk => by rw [Sort.heap_grow_old _ _ (by simpa using hk)]; rfl⟩

theorem write1' (B b : Nat) (s acc : ByteArray) (w : World) (g : Nat) (hg : w.heap.size = g) (h : Pr B b acc w) (hlen : acc.size + s.size ≤ 140737488355328) :
    Calls Tryz.prog 33 #[.pointer (some ⟨b, 0, none⟩), .slice (some ⟨g, 0, none⟩) 1 1] (w.alloc (.cells #[.string s] 9)) fun e w' => e = .returned (.tuple #[]) ∧ Pr B b (acc ++ s) w' ∧ Kp B b w w' := by
  subst hg
  exact write1 B b s acc w h hlen

theorem write3' (B b : Nat) (s t u acc : ByteArray) (w : World) (g : Nat) (hg : w.heap.size = g) (h : Pr B b acc w) (hlen : acc.size + (s.size + t.size + u.size) ≤ 140737488355328) :
    Calls Tryz.prog 33 #[.pointer (some ⟨b, 0, none⟩), .slice (some ⟨g, 0, none⟩) 3 3] (w.alloc (.cells #[.string s, .string t, .string u] 9)) fun e w' => e = .returned (.tuple #[]) ∧ Pr B b (acc ++ (s ++ t ++ u)) w' ∧ Kp B b w w' := by
  subst hg
  exact write3 B b s t u acc w h hlen

/-- a call that wrote acc -/
def Wrote (B b : Nat) (acc : ByteArray) (w : World) (r : Ending) (w' : World) : Prop := r = .returned (.tuple #[]) ∧ Pr B b acc w' ∧ Kp B b w w'

def FullV (B b : Nat) (w0 : World) (v : Value) (pr : Int → ByteArray) (cnt : Nat) : Prop :=
  ∀ (least : Int) (acc : ByteArray) (w : World), Below B w0 w → Pr B b acc w → acc.size + 4000 * cnt + 2 ≤ 100000000000 → Calls Tryz.prog 34 #[.pointer (some ⟨b, 0, none⟩), v, .int .i64 least] w (Wrote B b (acc ++ pr least) w)

def InV (B b : Nat) (w0 : World) (e : Ex) : Prop :=
  ∀ (least : Int) (acc : ByteArray) (w : World), least ≤ lvN e.op → Below B w0 w → Pr B b acc w → acc.size + 4000 * e.cnt ≤ 100000000000 → Calls Tryz.prog 34 #[.pointer (some ⟨b, 0, none⟩), e.val, .int .i64 least] w (Wrote B b (acc ++ e.pr) w)

set_option maxHeartbeats 1600000 in
set_option maxRecDepth 100000 in
theorem full_of_in (B b : Nat) (w0 : World) (e : Ex) (hT0 : TabOK w0) (hB : w0.heap.size ≤ B) (hf : e.fit w0) (hI : InV B b w0 e) : FullV B b w0 e.val e.put e.cnt := by
  intro least acc w hw h hz
  by_cases hl : lvN e.op < least
  · rw [put_par hl]
    have HL := hide (levelOf_any e w0 w (hT0.below hw hB) hf)
    have HI := hide (show ∀ (acc : ByteArray) (w : World), Below B w0 w → Pr B b acc w → acc.size + 4000 * e.cnt ≤ 100000000000 → Calls Tryz.prog 34 #[.pointer (some ⟨b, 0, none⟩), e.val, .int .i64 0] w (Wrote B b (acc ++ e.pr) w) from fun acc w => hI 0 acc w (lvN_pos _))
    have HZ := hide hz
    have HS := hide (e.pr_size hf)
    obtain ⟨t, u, hv⟩ := e.form
    rw [hv] at HL HI ⊢
    clear hv hI hf hz hT0
    generalize lvN e.op = lv at HL hl
    generalize e.pr = pr at HI HS
    generalize e.cnt = cnt at HI HS HZ
    have hBw : B ≤ w.heap.size := by have := h.le; omega
    have Hw := hide hw
    clear hw
    go_enter Tryz.func34, Tryz.ntmps34
    go_wp2_with fail
    refine (unhide HL).mono ?_
    rintro r w1 ⟨rfl, hb1⟩
    have P1 := h.below hb1
    have K1 : Kp B b w w1 := Kp.of_all hb1 hBw
    have e40 : (⟨#[40]⟩ : ByteArray).size = 1 := rfl
    have e41 : (⟨#[41]⟩ : ByteArray).size = 1 := rfl
    clear HL
    go_wp2_with fail
    refine (write1 B b _ acc _ P1 (by have := unhide HZ; rw [e40]; omega)).mono ?_
    rintro r w2 ⟨rfl, P2, K2⟩
    go_wp2_with fail
    refine (unhide HI _ _ (((unhide Hw).trans K1.low).trans K2.low) P2 (by have := unhide HZ; rw [ByteArray.size_append, e40]; omega)).mono ?_
    rintro r w3 ⟨rfl, P3, K3⟩
    go_wp2_with fail
    refine (write1 B b _ _ _ P3 (by have := unhide HZ; have := unhide HS; rw [ByteArray.size_append, ByteArray.size_append, e40, e41]; omega)).mono ?_
    rintro r w4 ⟨rfl, P4, K4⟩
    go_wp2_with fail
    go_end0
    exact ⟨rfl, by simpa only [ByteArray.append_assoc] using P4, ((K1.trans K2).trans K3).trans K4⟩
  · rw [put_in (by omega)]
    exact hI least acc w (by omega) hw h (by omega)

def unT (op : Int) (pr : Int → ByteArray) : ByteArray :=
  if op = 8 then ⟨#[45]⟩ ++ pr 7 else if op = 9 then ⟨#[110, 111, 116, 32]⟩ ++ pr 3 else ⟨#[115, 105, 122, 101, 40]⟩ ++ pr 0 ++ ⟨#[41]⟩

theorem pr_un (i op : Int) (k : Ex) : (Ex.un i op k).pr = unT op k.put := by
  rw [Ex.pr, unT, put_zero]
  rfl

def binT (op : Int) (p q : Int → ByteArray) : ByteArray := p (leftN op) ++ (⟨#[32]⟩ ++ signB op ++ ⟨#[32]⟩) ++ q (lvN op + 1)

theorem pr_bin (i op : Int) (l r : Ex) : (Ex.bin i op l r).pr = binT op l.put r.put := rfl

set_option maxHeartbeats 1600000 in
set_option maxRecDepth 100000 in
theorem unary_any (B b : Nat) (w0 : World) (i op : Int) (t : TypeId) (u : Value) (pr : Int → ByteArray) (cnt : Nat) (hop : 8 ≤ op ∧ op ≤ 10) (hF : FullV B b w0 (.iface t u) pr cnt) (hs : (pr 0).size ≤ 4000 * cnt + 2)
    (acc : ByteArray) (w : World) (hw : Below B w0 w) (h : Pr B b acc w) (hz : acc.size + 4000 * (cnt + 1) ≤ 100000000000) :
    Calls Tryz.prog 61 #[.pointer (some ⟨b, 0, none⟩), .agg #[.int .i64 i, .int .i64 op, .iface t u]] w (Wrote B b (acc ++ unT op pr) w) := by
  have HF := hide hF
  have HZ := hide hz
  have HS := hide hs
  have Hw := hide hw
  have hBw : B ≤ w.heap.size := by have := h.le; omega
  have hb := h.le.2
  have hop' : op = 8 ∨ op = 9 ∨ op = 10 := by omega
  clear hF hz hs hw hop
  have P0 := h.alloc (.cells #[.int .i64 i, .int .i64 op, .iface t u] 122)
  have K0 : Kp B b w _ := Kp.alloc0 w (.cells #[.int .i64 i, .int .i64 op, .iface t u] 122) hBw
  have R0 := Row.new w #[.int .i64 i, .int .i64 op, .iface t u] 122
  rcases hop' with rfl | rfl | rfl
  · have eL : (⟨#[45]⟩ : ByteArray).size = 1 := rfl
    go_enter Tryz.func61, Tryz.ntmps61
    go_wp2_with fail
    refine (write1' B b _ acc _ _ (by simp) P0 (by have := unhide HZ; rw [eL]; omega)).mono ?_
    rintro r w1 ⟨rfl, P1, K1⟩
    have c1 := (K1.row R0 (by omega) (by decide)).cell 2
    simp at c1
    go_wp2_with fail
    refine (unhide HF _ _ _ (((unhide Hw).trans K0.low).trans K1.low) P1 (by have := unhide HZ; rw [ByteArray.size_append, eL]; omega)).mono ?_
    rintro r w2 ⟨rfl, P2, K2⟩
    go_wp2_with fail
    go_end0
    exact ⟨rfl, by rw [show unT 8 pr = ⟨#[45]⟩ ++ pr 7 from rfl]; simpa only [ByteArray.append_assoc] using P2, (K0.trans K1).trans K2⟩
  · have eL : (⟨#[110, 111, 116, 32]⟩ : ByteArray).size = 4 := rfl
    go_enter Tryz.func61, Tryz.ntmps61
    go_wp2_with fail
    refine (write1' B b _ acc _ _ (by simp) P0 (by have := unhide HZ; rw [eL]; omega)).mono ?_
    rintro r w1 ⟨rfl, P1, K1⟩
    have c1 := (K1.row R0 (by omega) (by decide)).cell 2
    simp at c1
    go_wp2_with fail
    refine (unhide HF _ _ _ (((unhide Hw).trans K0.low).trans K1.low) P1 (by have := unhide HZ; rw [ByteArray.size_append, eL]; omega)).mono ?_
    rintro r w2 ⟨rfl, P2, K2⟩
    go_wp2_with fail
    go_end0
    exact ⟨rfl, by rw [show unT 9 pr = ⟨#[110, 111, 116, 32]⟩ ++ pr 3 from rfl]; simpa only [ByteArray.append_assoc] using P2, (K0.trans K1).trans K2⟩
  · have eL : (⟨#[115, 105, 122, 101, 40]⟩ : ByteArray).size = 5 := rfl
    go_enter Tryz.func61, Tryz.ntmps61
    go_wp2_with fail
    refine (write1' B b _ acc _ _ (by simp) P0 (by have := unhide HZ; rw [eL]; omega)).mono ?_
    rintro r w1 ⟨rfl, P1, K1⟩
    have c1 := (K1.row R0 (by omega) (by decide)).cell 2
    simp at c1
    go_wp2_with fail
    refine (unhide HF _ _ _ (((unhide Hw).trans K0.low).trans K1.low) P1 (by have := unhide HZ; rw [ByteArray.size_append, eL]; omega)).mono ?_
    rintro r w2 ⟨rfl, P2, K2⟩
    go_wp2_with fail
    have e41 : (⟨#[41]⟩ : ByteArray).size = 1 := rfl
    refine (write1 B b _ _ _ P2 (by have := unhide HZ; have := unhide HS; rw [ByteArray.size_append, ByteArray.size_append, eL, e41]; omega)).mono ?_
    rintro r w3 ⟨rfl, P3, K3⟩
    go_wp2_with fail
    go_end0
    exact ⟨rfl, by rw [show unT 10 pr = ⟨#[115, 105, 122, 101, 40]⟩ ++ pr 0 ++ ⟨#[41]⟩ from rfl]; simpa only [ByteArray.append_assoc] using P3, ((K0.trans K1).trans K2).trans K3⟩

end Go.Proofs.YtbdplgelkgngmaaGreatDoor

namespace Go.Proofs.YtbdplgelkgngmaaGreatDoor
open Go.RowKit
set_option linter.unusedVariables false

theorem row4 {w : World} {b : Nat} {v0 v1 v2 v3 : Value} {t : TypeId} (R : Row w b #[v0, v1, v2, v3] t) : w.cell? ⟨b, 0, none⟩ = some v0 ∧ w.cell? ⟨b, 1, none⟩ = some v1 ∧ w.cell? ⟨b, 2, none⟩ = some v2 ∧ w.cell? ⟨b, 3, none⟩ = some v3 :=
  ⟨R.cell 0, R.cell 1, R.cell 2, R.cell 3⟩

set_option maxHeartbeats 1600000 in
set_option maxRecDepth 100000 in
theorem binary_cmp (B b : Nat) (w0 : World) (i op : Int) (t : TypeId) (u : Value) (p : Int → ByteArray) (m : Nat) (t' : TypeId) (u' : Value) (q : Int → ByteArray) (n : Nat) (sg : ByteArray) 
    (HF : Hid (FullV B b w0 (.iface t u) p m)) (HG : Hid (FullV B b w0 (.iface t' u') q n)) (HS : Hid ((p (5)).size ≤ 4000 * m + 2)) (HQ : Hid (sg.size ≤ 6))
    (acc : ByteArray) (w : World) (Hw : Hid (Below B w0 w)) (h : Pr B b acc w) (HZ : Hid (acc.size + 4000 * (m + n + 1) ≤ 100000000000))
    (HL : Hid (Calls Tryz.prog 82 #[.int .i64 op] (w.alloc (.cells #[.int .i64 i, .int .i64 op, .iface t u, .iface t' u'] 125)) fun e w' => e = .returned (.tuple #[.agg #[.int .i64 op, .int .i64 4, .string sg], .bool true]) ∧ Below (w.heap.size + 1) (w.alloc (.cells #[.int .i64 i, .int .i64 op, .iface t u, .iface t' u'] 125)) w')) :
    Calls Tryz.prog 62 #[.pointer (some ⟨b, 0, none⟩), .agg #[.int .i64 i, .int .i64 op, .iface t u, .iface t' u']] w (Wrote B b (acc ++ (p (5) ++ (⟨#[32]⟩ ++ sg ++ ⟨#[32]⟩) ++ q (5))) w) := by
  have hBw : B ≤ w.heap.size := by have := h.le; omega
  have hb := h.le.2
  have P0 := h.alloc (.cells #[.int .i64 i, .int .i64 op, .iface t u, .iface t' u'] 125)
  have K0 : Kp B b w _ := Kp.alloc0 w (.cells #[.int .i64 i, .int .i64 op, .iface t u, .iface t' u'] 125) hBw
  have R0 := Row.new w #[.int .i64 i, .int .i64 op, .iface t u, .iface t' u'] 125
  have e32 : (⟨#[32]⟩ : ByteArray).size = 1 := rfl
  go_enter Tryz.func62, Tryz.ntmps62
  go_wp2_with fail
  refine (unhide HL).mono ?_
  rintro r w1 ⟨rfl, hb1⟩
  clear HL
  have z0 : (w.alloc (.cells #[.int .i64 i, .int .i64 op, .iface t u, .iface t' u'] 125)).heap.size = w.heap.size + 1 := by simp
  have P1 := P0.below (by rw [z0]; exact hb1)
  have K1 : Kp B b w w1 := K0.trans (Kp.of_all (by rw [z0]; exact hb1) (by rw [z0]; omega))
  have z1 := hb1.size
  rw [z0] at z1
  have R1 := R0.after hb1 (by rw [z0]; exact Nat.le_refl _)
  clear R0 P0 K0 hb1 z0
  have P2 := P1.alloc (.cells #[.int .i64 op, .int .i64 4, .string sg] 140)
  have K2 : Kp B b w _ := K1.trans (Kp.alloc0 w1 (.cells #[.int .i64 op, .int .i64 4, .string sg] 140) (by omega))
  have R2 := R1.alloc (.cells #[.int .i64 op, .int .i64 4, .string sg] 140)
  have S2 := Row.new w1 #[.int .i64 op, .int .i64 4, .string sg] 140
  obtain ⟨c0, c1, c2, c3⟩ := row4 R2
  have z2 : w.heap.size < w1.heap.size := by omega
  dsimp only
  go_wp2_with fail
  refine (unhide HF _ _ _ ((unhide Hw).trans K2.low) P2 (by have := unhide HZ; omega)).mono ?_
  rintro r w3 ⟨rfl, P3, K3⟩
  have R3 := K3.row R2 (by omega) (by decide)
  have S3 := K3.row S2 (by omega) (by decide)
  have K4 := K2.trans K3
  obtain ⟨d0, d1, d2, d3⟩ := row4 R3
  obtain ⟨s0, s1, s2, _⟩ := row3 S3
  clear R1 R2 S2 K1 K2 K3 P1 P2 c0 c1 c2 c3
  dsimp only
  go_wp2_with fail
  refine (write3 B b _ _ _ _ _ P3 (by have := unhide HZ; have := unhide HS; have := unhide HQ; rw [ByteArray.size_append, e32]; omega)).mono ?_
  rintro r w4 ⟨rfl, P4, K5⟩
  have R4 := K5.row R3 (by omega) (by decide)
  have S4 := K5.row S3 (by omega) (by decide)
  have K6 := K4.trans K5
  obtain ⟨f0, f1, f2, f3⟩ := row4 R4
  obtain ⟨g0, g1, g2, _⟩ := row3 S4
  clear R3 S3 K4 K5 P3 d0 d1 d2 d3 s0 s1 s2
  dsimp only
  go_wp2_with fail
  refine (unhide HG _ _ _ ((unhide Hw).trans K6.low) P4 (by have := unhide HZ; have := unhide HS; have := unhide HQ; rw [ByteArray.size_append, ByteArray.size_append, ByteArray.size_append, ByteArray.size_append, e32]; omega)).mono ?_
  rintro r w5 ⟨rfl, P5, K7⟩
  dsimp only
  go_wp2_with fail
  go_end0
  exact ⟨rfl, by simpa only [ByteArray.append_assoc] using P5, K6.trans K7⟩

set_option maxHeartbeats 1600000 in
set_option maxRecDepth 100000 in
theorem binary_chain (B b : Nat) (w0 : World) (i op : Int) (t : TypeId) (u : Value) (p : Int → ByteArray) (m : Nat) (t' : TypeId) (u' : Value) (q : Int → ByteArray) (n : Nat) (lv : Int) (sg : ByteArray) (h0 : 0 ≤ lv) (h8 : lv ≤ 8) (h4 : (lv == 4) = false) 
    (HF : Hid (FullV B b w0 (.iface t u) p m)) (HG : Hid (FullV B b w0 (.iface t' u') q n)) (HS : Hid ((p (lv)).size ≤ 4000 * m + 2)) (HQ : Hid (sg.size ≤ 6))
    (acc : ByteArray) (w : World) (Hw : Hid (Below B w0 w)) (h : Pr B b acc w) (HZ : Hid (acc.size + 4000 * (m + n + 1) ≤ 100000000000))
    (HL : Hid (Calls Tryz.prog 82 #[.int .i64 op] (w.alloc (.cells #[.int .i64 i, .int .i64 op, .iface t u, .iface t' u'] 125)) fun e w' => e = .returned (.tuple #[.agg #[.int .i64 op, .int .i64 lv, .string sg], .bool true]) ∧ Below (w.heap.size + 1) (w.alloc (.cells #[.int .i64 i, .int .i64 op, .iface t u, .iface t' u'] 125)) w')) :
    Calls Tryz.prog 62 #[.pointer (some ⟨b, 0, none⟩), .agg #[.int .i64 i, .int .i64 op, .iface t u, .iface t' u']] w (Wrote B b (acc ++ (p (lv) ++ (⟨#[32]⟩ ++ sg ++ ⟨#[32]⟩) ++ q (lv + 1))) w) := by
  have hBw : B ≤ w.heap.size := by have := h.le; omega
  have hb := h.le.2
  have P0 := h.alloc (.cells #[.int .i64 i, .int .i64 op, .iface t u, .iface t' u'] 125)
  have K0 : Kp B b w _ := Kp.alloc0 w (.cells #[.int .i64 i, .int .i64 op, .iface t u, .iface t' u'] 125) hBw
  have R0 := Row.new w #[.int .i64 i, .int .i64 op, .iface t u, .iface t' u'] 125
  have e32 : (⟨#[32]⟩ : ByteArray).size = 1 := rfl
  go_enter Tryz.func62, Tryz.ntmps62
  go_wp2_with fail
  refine (unhide HL).mono ?_
  rintro r w1 ⟨rfl, hb1⟩
  clear HL
  have z0 : (w.alloc (.cells #[.int .i64 i, .int .i64 op, .iface t u, .iface t' u'] 125)).heap.size = w.heap.size + 1 := by simp
  have P1 := P0.below (by rw [z0]; exact hb1)
  have K1 : Kp B b w w1 := K0.trans (Kp.of_all (by rw [z0]; exact hb1) (by rw [z0]; omega))
  have z1 := hb1.size
  rw [z0] at z1
  have R1 := R0.after hb1 (by rw [z0]; exact Nat.le_refl _)
  clear R0 P0 K0 hb1 z0
  have P2 := P1.alloc (.cells #[.int .i64 op, .int .i64 lv, .string sg] 140)
  have K2 : Kp B b w _ := K1.trans (Kp.alloc0 w1 (.cells #[.int .i64 op, .int .i64 lv, .string sg] 140) (by omega))
  have R2 := R1.alloc (.cells #[.int .i64 op, .int .i64 lv, .string sg] 140)
  have S2 := Row.new w1 #[.int .i64 op, .int .i64 lv, .string sg] 140
  obtain ⟨c0, c1, c2, c3⟩ := row4 R2
  have z2 : w.heap.size < w1.heap.size := by omega
  dsimp only
  go_wp2_with fail
  refine (unhide HF _ _ _ ((unhide Hw).trans K2.low) P2 (by have := unhide HZ; omega)).mono ?_
  rintro r w3 ⟨rfl, P3, K3⟩
  have R3 := K3.row R2 (by omega) (by decide)
  have S3 := K3.row S2 (by omega) (by decide)
  have K4 := K2.trans K3
  obtain ⟨d0, d1, d2, d3⟩ := row4 R3
  obtain ⟨s0, s1, s2, _⟩ := row3 S3
  clear R1 R2 S2 K1 K2 K3 P1 P2 c0 c1 c2 c3
  dsimp only
  go_wp2_with fail
  refine (write3 B b _ _ _ _ _ P3 (by have := unhide HZ; have := unhide HS; have := unhide HQ; rw [ByteArray.size_append, e32]; omega)).mono ?_
  rintro r w4 ⟨rfl, P4, K5⟩
  have R4 := K5.row R3 (by omega) (by decide)
  have S4 := K5.row S3 (by omega) (by decide)
  have K6 := K4.trans K5
  obtain ⟨f0, f1, f2, f3⟩ := row4 R4
  obtain ⟨g0, g1, g2, _⟩ := row3 S4
  clear R3 S3 K4 K5 P3 d0 d1 d2 d3 s0 s1 s2
  dsimp only
  go_wp2_with fail
  refine (unhide HG _ _ _ ((unhide Hw).trans K6.low) P4 (by have := unhide HZ; have := unhide HS; have := unhide HQ; rw [ByteArray.size_append, ByteArray.size_append, ByteArray.size_append, ByteArray.size_append, e32]; omega)).mono ?_
  rintro r w5 ⟨rfl, P5, K7⟩
  dsimp only
  go_wp2_with fail
  go_end0
  exact ⟨rfl, by simpa only [ByteArray.append_assoc] using P5, K6.trans K7⟩

end Go.Proofs.YtbdplgelkgngmaaGreatDoor

namespace Go.Proofs.YtbdplgelkgngmaaGreatDoor
open Go.RowKit
set_option linter.unusedVariables false

theorem binary_any (B b : Nat) (w0 : World) (i op : Int) (t : TypeId) (u : Value) (p : Int → ByteArray) (m : Nat) (t' : TypeId) (u' : Value) (q : Int → ByteArray) (n : Nat) (hop : 11 ≤ op ∧ op ≤ 26) (hT0 : TabOK w0) (hB : w0.heap.size ≤ B)
    (hF : FullV B b w0 (.iface t u) p m) (hG : FullV B b w0 (.iface t' u') q n) (hs : (p (leftN op)).size ≤ 4000 * m + 2)
    (acc : ByteArray) (w : World) (hw : Below B w0 w) (h : Pr B b acc w) (hz : acc.size + 4000 * (m + n + 1) ≤ 100000000000) :
    Calls Tryz.prog 62 #[.pointer (some ⟨b, 0, none⟩), .agg #[.int .i64 i, .int .i64 op, .iface t u, .iface t' u']] w (Wrote B b (acc ++ binT op p q) w) := by
  have hBw : B ≤ w.heap.size := by have := h.le; omega
  have K0 : Kp B b w _ := Kp.alloc0 w (.cells #[.int .i64 i, .int .i64 op, .iface t u, .iface t' u'] 125) hBw
  have HL := hide (binaryOperator_bin op _ (hT0.below (hw.trans K0.low) hB) hop)
  simp only [World.size_alloc] at HL
  by_cases h4 : lvN op = 4
  · have e1 : leftN op = 5 := by rw [leftN, if_pos h4]
    rw [e1] at hs
    rw [h4] at HL
    have := binary_cmp B b w0 i op t u p m t' u' q n (signB op) (hide hF) (hide hG) (hide hs) (hide (signB_size op)) acc w (hide hw) h (hide hz) HL
    rw [binT, e1, h4]
    exact this
  · have e1 : leftN op = lvN op := by rw [leftN, if_neg h4]
    rw [e1] at hs
    have := binary_chain B b w0 i op t u p m t' u' q n (lvN op) (signB op) (lvN_pos op) (lvN_top op) (beq_eq_false_iff_ne.2 h4) (hide hF) (hide hG) (hide hs) (hide (signB_size op)) acc w (hide hw) h (hide hz) HL
    rw [binT, e1]
    exact this

set_option maxHeartbeats 1600000 in
set_option maxRecDepth 100000 in
theorem in_int (B b : Nat) (w0 : World) (hT0 : TabOK w0) (hP0 : Pow w0) (hB : w0.heap.size ≤ B) (i n : Int) (hf : (Ex.int i n).fit w0) : InV B b w0 (.int i n) := by
  intro least acc w hl hw h hz
  have HL := hide (levelOf_any (.int i n) w0 w (hT0.below hw hB) hf)
  have hd : decide (lvN (Ex.int i n).op < least) = false := decide_eq_false (by omega)
  generalize lvN (Ex.int i n).op = lv at HL hd hl
  have hBw : B ≤ w.heap.size := by have := h.le; omega
  have hbw := h.le.2
  simp only [Ex.cnt] at hz
  have HZ := hide hz
  have hp := hP0.below hw hB
  have h0 : 0 ≤ n := hf.1
  have h1 : n ≤ 9223372036854775807 := hf.2
  clear hf
  simp only [Ex.val] at HL ⊢
  clear hl
  have a0 := ta_hit (T := 109) Tryz.underlying109 52
  go_enter Tryz.func34, Tryz.ntmps34
  go_wp2_with fail
  refine (unhide HL).mono ?_
  rintro r w1 ⟨rfl, hb1⟩
  have P1 := h.below hb1
  have K1 : Kp B b w w1 := Kp.of_all hb1 hBw
  have z1 := hb1.size
  clear HL
  dsimp only
  have hp1 := (hp.below hb1 (Nat.le_refl _)).below ((Below.refl w1.heap.size w1).alloc (Nat.le_refl _) (.cells #[.int .i64 i, .int .i64 n] 109)) (Nat.le_refl _)
  have P0 := P1.alloc (.cells #[.int .i64 i, .int .i64 n] 109)
  have K0 : Kp B b w _ := K1.trans (Kp.alloc0 w1 (.cells #[.int .i64 i, .int .i64 n] 109) (by omega))
  go_wp2_with fail
  refine (formatInt_big _ _ h0 h1 hp1).mono ?_
  rintro r w2 ⟨rfl, hb2⟩
  have P2 := P0.below hb2
  have K2 : Kp B b w w2 := K0.trans (Kp.of_all hb2 (by simp; omega))
  have e19 := numB_size (n := n.toNat) (by omega)
  dsimp only
  go_wp2_with fail
  refine (write1 B b _ acc _ P2 (by have := unhide HZ; omega)).mono ?_
  rintro r w3 ⟨rfl, P3, K3⟩
  dsimp only
  go_wp2_with fail
  go_end0
  exact ⟨rfl, P3, K2.trans K3⟩

set_option maxHeartbeats 1600000 in
set_option maxRecDepth 100000 in
theorem in_text (B b : Nat) (w0 : World) (hT0 : TabOK w0) (hP0 : Pow w0) (hB : w0.heap.size ≤ B) (i : Int) (s : ByteArray) (hf : (Ex.text i s).fit w0) : InV B b w0 (.text i s) := by
  intro least acc w hl hw h hz
  have HL := hide (levelOf_any (.text i s) w0 w (hT0.below hw hB) hf)
  have hd : decide (lvN (Ex.text i s).op < least) = false := decide_eq_false (by omega)
  generalize lvN (Ex.text i s).op = lv at HL hd hl
  have hBw : B ≤ w.heap.size := by have := h.le; omega
  have hbw := h.le.2
  simp only [Ex.cnt] at hz
  have HZ := hide hz
  have h1 : s.size ≤ 32 := hf
  have e34 : (⟨#[34]⟩ : ByteArray).size = 1 := rfl
  clear hf
  simp only [Ex.val] at HL ⊢
  clear hl
  have a0 := ta_miss (S := 112) (T := 109) Tryz.underlying109 Tryz.zeroValue109 (by decide) 52
  have a1 := ta_hit (T := 112) Tryz.underlying112 52
  go_enter Tryz.func34, Tryz.ntmps34
  go_wp2_with fail
  refine (unhide HL).mono ?_
  rintro r w1 ⟨rfl, hb1⟩
  have P1 := h.below hb1
  have K1 : Kp B b w w1 := Kp.of_all hb1 hBw
  have z1 := hb1.size
  clear HL
  dsimp only
  have P2 := P1.alloc (.cells #[.int .i64 i, .string s] 112)
  have K2 : Kp B b w _ := K1.trans (Kp.alloc0 w1 (.cells #[.int .i64 i, .string s] 112) (by omega))
  go_wp2_with fail
  refine (write3' B b _ _ _ acc _ _ (by simp) P2 (by have := unhide HZ; rw [e34]; omega)).mono ?_
  rintro r w3 ⟨rfl, P3, K3⟩
  dsimp only
  go_wp2_with fail
  go_end0
  exact ⟨rfl, P3, K2.trans K3⟩

set_option maxHeartbeats 1600000 in
set_option maxRecDepth 100000 in
theorem in_name (B b : Nat) (w0 : World) (hT0 : TabOK w0) (hP0 : Pow w0) (hB : w0.heap.size ≤ B) (i : Int) (s : ByteArray) (hf : (Ex.name i s).fit w0) : InV B b w0 (.name i s) := by
  intro least acc w hl hw h hz
  have HL := hide (levelOf_any (.name i s) w0 w (hT0.below hw hB) hf)
  have hd : decide (lvN (Ex.name i s).op < least) = false := decide_eq_false (by omega)
  generalize lvN (Ex.name i s).op = lv at HL hd hl
  have hBw : B ≤ w.heap.size := by have := h.le; omega
  have hbw := h.le.2
  simp only [Ex.cnt] at hz
  have HZ := hide hz
  have h1 : s.size ≤ 32 := hf
  clear hf
  simp only [Ex.val] at HL ⊢
  clear hl
  have a0 := ta_miss (S := 120) (T := 109) Tryz.underlying109 Tryz.zeroValue109 (by decide) 52
  have a1 := ta_miss (S := 120) (T := 112) Tryz.underlying112 Tryz.zeroValue112 (by decide) 52
  have a2 := ta_miss (S := 120) (T := 114) Tryz.underlying114 Tryz.zeroValue114 (by decide) 52
  have a3 := ta_miss (S := 120) (T := 117) Tryz.underlying117 Tryz.zeroValue117 (by decide) 52
  have a4 := ta_hit (T := 120) Tryz.underlying120 52
  go_enter Tryz.func34, Tryz.ntmps34
  go_wp2_with fail
  refine (unhide HL).mono ?_
  rintro r w1 ⟨rfl, hb1⟩
  have P1 := h.below hb1
  have K1 : Kp B b w w1 := Kp.of_all hb1 hBw
  have z1 := hb1.size
  clear HL
  dsimp only
  have P2 := P1.alloc (.cells #[.int .i64 i, .string s] 120)
  have K2 : Kp B b w _ := K1.trans (Kp.alloc0 w1 (.cells #[.int .i64 i, .string s] 120) (by omega))
  go_wp2_with fail
  refine (write1' B b _ acc _ _ (by simp) P2 (by have := unhide HZ; omega)).mono ?_
  rintro r w3 ⟨rfl, P3, K3⟩
  dsimp only
  go_wp2_with fail
  go_end0
  exact ⟨rfl, P3, K2.trans K3⟩

theorem formatBool_any (b : Bool) (w : World) :
    Calls Tryz.prog 59 #[.bool b] w fun e w' => e = .returned (.string (if b then ⟨#[116, 114, 117, 101]⟩ else ⟨#[102, 97, 108, 115, 101]⟩)) ∧ w' = w := by
  cases b
  · go_enter Tryz.func59, Tryz.ntmps59
    go_wp2
    go_ret
    exact ⟨rfl, rfl⟩
  · go_enter Tryz.func59, Tryz.ntmps59
    go_wp2
    go_ret
    exact ⟨rfl, rfl⟩

set_option maxHeartbeats 1600000 in
set_option maxRecDepth 100000 in
theorem in_bool (B b : Nat) (w0 : World) (hT0 : TabOK w0) (hP0 : Pow w0) (hB : w0.heap.size ≤ B) (i : Int) (v : Bool) (hf : (Ex.bool i v).fit w0) : InV B b w0 (.bool i v) := by
  intro least acc w hl hw h hz
  have HL := hide (levelOf_any (.bool i v) w0 w (hT0.below hw hB) hf)
  have hd : decide (lvN (Ex.bool i v).op < least) = false := decide_eq_false (by omega)
  generalize lvN (Ex.bool i v).op = lv at HL hd hl
  have hBw : B ≤ w.heap.size := by have := h.le; omega
  have hbw := h.le.2
  simp only [Ex.cnt] at hz
  have HZ := hide hz
  clear hf
  have HB := hide (formatBool_any v)
  have e5 : (if v then (⟨#[116, 114, 117, 101]⟩ : ByteArray) else ⟨#[102, 97, 108, 115, 101]⟩).size ≤ 5 := by cases v <;> decide
  have HE := hide (show (Ex.bool i v).pr = if v then (⟨#[116, 114, 117, 101]⟩ : ByteArray) else ⟨#[102, 97, 108, 115, 101]⟩ from rfl)
  rw [unhide HE]
  clear HE
  generalize (if v then (⟨#[116, 114, 117, 101]⟩ : ByteArray) else ⟨#[102, 97, 108, 115, 101]⟩) = s at HB e5 ⊢
  simp only [Ex.val] at HL ⊢
  clear hl
  have a0 := ta_miss (S := 114) (T := 109) Tryz.underlying109 Tryz.zeroValue109 (by decide) 52
  have a1 := ta_miss (S := 114) (T := 112) Tryz.underlying112 Tryz.zeroValue112 (by decide) 52
  have a2 := ta_hit (T := 114) Tryz.underlying114 52
  go_enter Tryz.func34, Tryz.ntmps34
  go_wp2_with fail
  refine (unhide HL).mono ?_
  rintro r w1 ⟨rfl, hb1⟩
  have P1 := h.below hb1
  have K1 : Kp B b w w1 := Kp.of_all hb1 hBw
  have z1 := hb1.size
  clear HL
  dsimp only
  have P2 := P1.alloc (.cells #[.int .i64 i, .bool v] 114)
  have K2 : Kp B b w _ := K1.trans (Kp.alloc0 w1 (.cells #[.int .i64 i, .bool v] 114) (by omega))
  go_wp2_with fail
  refine (unhide HB _).mono ?_
  rintro r w2 ⟨rfl, hw2⟩
  subst hw2
  dsimp only
  go_wp2_with fail
  refine (write1' B b _ acc _ _ (by simp) P2 (by have := unhide HZ; omega)).mono ?_
  rintro r w3 ⟨rfl, P3, K3⟩
  dsimp only
  go_wp2_with fail
  go_end0
  exact ⟨rfl, P3, K2.trans K3⟩

set_option maxHeartbeats 1600000 in
set_option maxRecDepth 100000 in
theorem in_set (B b : Nat) (w0 : World) (hT0 : TabOK w0) (hP0 : Pow w0) (hB : w0.heap.size ≤ B) (i : Int) (a : Option Addr) (n c : Nat) (ss : List ByteArray) (hf : (Ex.set i a n c ss).fit w0) : InV B b w0 (.set i a n c ss) := by
  intro least acc w hl hw h hz
  have HL := hide (levelOf_any (.set i a n c ss) w0 w (hT0.below hw hB) hf)
  have hd : decide (lvN (Ex.set i a n c ss).op < least) = false := decide_eq_false (by omega)
  generalize lvN (Ex.set i a n c ss).op = lv at HL hd hl
  have hBw : B ≤ w.heap.size := by have := h.le; omega
  have hbw := h.le.2
  simp only [Ex.cnt] at hz
  have HZ := hide hz
  have HF := hide hf
  have Hw := hide hw
  clear hf hw
  simp only [Ex.val] at HL ⊢
  clear hl
  have a0 := ta_miss (S := 117) (T := 109) Tryz.underlying109 Tryz.zeroValue109 (by decide) 52
  have a1 := ta_miss (S := 117) (T := 112) Tryz.underlying112 Tryz.zeroValue112 (by decide) 52
  have a2 := ta_miss (S := 117) (T := 114) Tryz.underlying114 Tryz.zeroValue114 (by decide) 52
  have a3 := ta_hit (T := 117) Tryz.underlying117 52
  go_enter Tryz.func34, Tryz.ntmps34
  go_wp2_with fail
  refine (unhide HL).mono ?_
  rintro r w1 ⟨rfl, hb1⟩
  have P1 := h.below hb1
  have K1 : Kp B b w w1 := Kp.of_all hb1 hBw
  have z1 := hb1.size
  clear HL
  dsimp only
  have P2 := P1.alloc (.cells #[.int .i64 i, .slice a n c] 117)
  have K2 : Kp B b w _ := K1.trans (Kp.alloc0 w1 (.cells #[.int .i64 i, .slice a n c] 117) (by omega))
  go_wp2_with fail
  refine (set_any B b w0 a n c ss (unhide HF).1 hB (unhide HF).2.1 (unhide HF).2.2 acc _ ((unhide Hw).trans K2.low) P2 (by have := unhide HZ; omega)).mono ?_
  rintro r w3 ⟨rfl, P3, K3⟩
  dsimp only
  go_wp2_with fail
  go_end0
  exact ⟨rfl, P3, K2.trans K3⟩

set_option maxHeartbeats 1600000 in
set_option maxRecDepth 100000 in
theorem in_un (B b : Nat) (w0 : World) (hT0 : TabOK w0) (hP0 : Pow w0) (hB : w0.heap.size ≤ B) (i op : Int) (k : Ex) (hf : (Ex.un i op k).fit w0) (hFk : FullV B b w0 k.val k.put k.cnt) : InV B b w0 (.un i op k) := by
  intro least acc w hl hw h hz
  have HL := hide (levelOf_any (.un i op k) w0 w (hT0.below hw hB) hf)
  have hd : decide (lvN (Ex.un i op k).op < least) = false := decide_eq_false (by omega)
  generalize lvN (Ex.un i op k).op = lv at HL hd hl
  have hBw : B ≤ w.heap.size := by have := h.le; omega
  have hbw := h.le.2
  simp only [Ex.cnt] at hz
  have HZ := hide hz
  have Hop := hide hf.1
  have HS := hide (show (k.put 0).size ≤ 4000 * k.cnt + 2 from k.put_size hf.2 0)
  have Hw := hide hw
  rw [pr_un]
  simp only [Ex.val] at HL ⊢
  obtain ⟨t, u, hv⟩ := k.form
  rw [hv] at HL hFk ⊢
  have HF := hide hFk
  clear hv hf hw hFk hz
  generalize k.put = p at HF HS
  generalize k.cnt = cnt at HF HS HZ
  clear hl
  have a0 := ta_miss (S := 122) (T := 109) Tryz.underlying109 Tryz.zeroValue109 (by decide) 52
  have a1 := ta_miss (S := 122) (T := 112) Tryz.underlying112 Tryz.zeroValue112 (by decide) 52
  have a2 := ta_miss (S := 122) (T := 114) Tryz.underlying114 Tryz.zeroValue114 (by decide) 52
  have a3 := ta_miss (S := 122) (T := 117) Tryz.underlying117 Tryz.zeroValue117 (by decide) 52
  have a4 := ta_miss (S := 122) (T := 120) Tryz.underlying120 Tryz.zeroValue120 (by decide) 52
  have a5 := ta_hit (T := 122) Tryz.underlying122 52
  go_enter Tryz.func34, Tryz.ntmps34
  go_wp2_with fail
  refine (unhide HL).mono ?_
  rintro r w1 ⟨rfl, hb1⟩
  have P1 := h.below hb1
  have K1 : Kp B b w w1 := Kp.of_all hb1 hBw
  have z1 := hb1.size
  clear HL
  dsimp only
  have P2 := P1.alloc (.cells #[.int .i64 i, .int .i64 op, .iface t u] 122)
  have K2 : Kp B b w _ := K1.trans (Kp.alloc0 w1 (.cells #[.int .i64 i, .int .i64 op, .iface t u] 122) (by omega))
  go_wp2_with fail
  refine (unary_any B b w0 i op t u p cnt (unhide Hop) (unhide HF) (unhide HS) acc _ ((unhide Hw).trans K2.low) P2 (unhide HZ)).mono ?_
  rintro r w3 ⟨rfl, P3, K3⟩
  dsimp only
  go_wp2_with fail
  go_end0
  exact ⟨rfl, P3, K2.trans K3⟩

set_option maxHeartbeats 1600000 in
set_option maxRecDepth 100000 in
theorem in_bin (B b : Nat) (w0 : World) (hT0 : TabOK w0) (hP0 : Pow w0) (hB : w0.heap.size ≤ B) (i op : Int) (k l : Ex) (hf : (Ex.bin i op k l).fit w0) (hFk : FullV B b w0 k.val k.put k.cnt) (hFl : FullV B b w0 l.val l.put l.cnt) : InV B b w0 (.bin i op k l) := by
  intro least acc w hl hw h hz
  have HL := hide (levelOf_any (.bin i op k l) w0 w (hT0.below hw hB) hf)
  have hd : decide (lvN (Ex.bin i op k l).op < least) = false := decide_eq_false (by omega)
  generalize lvN (Ex.bin i op k l).op = lv at HL hd hl
  have hBw : B ≤ w.heap.size := by have := h.le; omega
  have hbw := h.le.2
  simp only [Ex.cnt] at hz
  have HZ := hide hz
  have Hop := hide hf.1
  have HS := hide (show (k.put (leftN op)).size ≤ 4000 * k.cnt + 2 from k.put_size hf.2.1 _)
  have HT := hide hT0
  have Hw := hide hw
  rw [pr_bin]
  simp only [Ex.val] at HL ⊢
  obtain ⟨t, u, hv⟩ := k.form
  obtain ⟨t', u', hv'⟩ := l.form
  rw [hv, hv'] at HL ⊢
  rw [hv] at hFk
  rw [hv'] at hFl
  have HF := hide hFk
  have HG := hide hFl
  clear hv hv' hf hw hFk hFl hz hT0
  generalize k.put = p at HF HS
  generalize k.cnt = m at HF HS HZ
  generalize l.put = q at HG
  generalize l.cnt = n at HG HZ
  clear hl
  have a0 := ta_miss (S := 125) (T := 109) Tryz.underlying109 Tryz.zeroValue109 (by decide) 52
  have a1 := ta_miss (S := 125) (T := 112) Tryz.underlying112 Tryz.zeroValue112 (by decide) 52
  have a2 := ta_miss (S := 125) (T := 114) Tryz.underlying114 Tryz.zeroValue114 (by decide) 52
  have a3 := ta_miss (S := 125) (T := 117) Tryz.underlying117 Tryz.zeroValue117 (by decide) 52
  have a4 := ta_miss (S := 125) (T := 120) Tryz.underlying120 Tryz.zeroValue120 (by decide) 52
  have a5 := ta_miss (S := 125) (T := 122) Tryz.underlying122 Tryz.zeroValue122 (by decide) 52
  have a6 := ta_hit (T := 125) Tryz.underlying125 52
  go_enter Tryz.func34, Tryz.ntmps34
  go_wp2_with fail
  refine (unhide HL).mono ?_
  rintro r w1 ⟨rfl, hb1⟩
  have P1 := h.below hb1
  have K1 : Kp B b w w1 := Kp.of_all hb1 hBw
  have z1 := hb1.size
  clear HL
  dsimp only
  have P2 := P1.alloc (.cells #[.int .i64 i, .int .i64 op, .iface t u, .iface t' u'] 125)
  have K2 : Kp B b w _ := K1.trans (Kp.alloc0 w1 (.cells #[.int .i64 i, .int .i64 op, .iface t u, .iface t' u'] 125) (by omega))
  go_wp2_with fail
  refine (binary_any B b w0 i op t u p m t' u' q n (unhide Hop) (unhide HT) hB (unhide HF) (unhide HG) (unhide HS) acc _ ((unhide Hw).trans K2.low) P2 (unhide HZ)).mono ?_
  rintro r w3 ⟨rfl, P3, K3⟩
  dsimp only
  go_wp2_with fail
  go_end0
  exact ⟨rfl, P3, K2.trans K3⟩

set_option maxHeartbeats 1600000 in
set_option maxRecDepth 100000 in
theorem in_ite (B b : Nat) (w0 : World) (hT0 : TabOK w0) (hP0 : Pow w0) (hB : w0.heap.size ≤ B) (i : Int) (c t e : Ex) (hf : (Ex.ite i c t e).fit w0) (hFc : FullV B b w0 c.val c.put c.cnt) (hFt : FullV B b w0 t.val t.put t.cnt) (hFe : FullV B b w0 e.val e.put e.cnt) : InV B b w0 (.ite i c t e) := by
  intro least acc w hl hw h hz
  have HL := hide (levelOf_any (.ite i c t e) w0 w (hT0.below hw hB) hf)
  have hd : decide (lvN (Ex.ite i c t e).op < least) = false := decide_eq_false (by omega)
  generalize lvN (Ex.ite i c t e).op = lv at HL hd hl
  have hBw : B ≤ w.heap.size := by have := h.le; omega
  have hbw := h.le.2
  simp only [Ex.cnt] at hz
  have HZ := hide hz
  have HSc := hide (show (c.put 0).size ≤ 4000 * c.cnt + 2 from c.put_size hf.1 _)
  have HSt := hide (show (t.put 0).size ≤ 4000 * t.cnt + 2 from t.put_size hf.2.1 _)
  have Hw := hide hw
  have HE := hide (show (Ex.ite i c t e).pr = ⟨#[105, 102, 32]⟩ ++ c.put 0 ++ ⟨#[32, 116, 104, 101, 110, 32]⟩ ++ t.put 0 ++ ⟨#[32, 101, 108, 115, 101, 32]⟩ ++ e.put 0 by rw [put_zero, put_zero, put_zero]; rfl)
  rw [unhide HE]
  simp only [Ex.val] at HL ⊢
  obtain ⟨tc, uc, hvc⟩ := c.form
  obtain ⟨tt, ut, hvt⟩ := t.form
  obtain ⟨te, ue, hve⟩ := e.form
  rw [hvc, hvt, hve] at HL ⊢
  rw [hvc] at hFc
  rw [hvt] at hFt
  rw [hve] at hFe
  have HFc := hide hFc
  have HFt := hide hFt
  have HFe := hide hFe
  clear hvc hvt hve hf hw hFc hFt hFe hz hT0 HE
  generalize c.put = pc at HFc HSc
  generalize c.cnt = mc at HFc HSc HZ
  generalize t.put = pt at HFt HSt
  generalize t.cnt = mt at HFt HSt HZ
  generalize e.put = pe at HFe
  generalize e.cnt = me at HFe HZ
  have e1 : (⟨#[105, 102, 32]⟩ : ByteArray).size = 3 := rfl
  have e2 : (⟨#[32, 116, 104, 101, 110, 32]⟩ : ByteArray).size = 6 := rfl
  have e3 : (⟨#[32, 101, 108, 115, 101, 32]⟩ : ByteArray).size = 6 := rfl
  clear hl
  have a0 := ta_miss (S := 128) (T := 109) Tryz.underlying109 Tryz.zeroValue109 (by decide) 52
  have a1 := ta_miss (S := 128) (T := 112) Tryz.underlying112 Tryz.zeroValue112 (by decide) 52
  have a2 := ta_miss (S := 128) (T := 114) Tryz.underlying114 Tryz.zeroValue114 (by decide) 52
  have a3 := ta_miss (S := 128) (T := 117) Tryz.underlying117 Tryz.zeroValue117 (by decide) 52
  have a4 := ta_miss (S := 128) (T := 120) Tryz.underlying120 Tryz.zeroValue120 (by decide) 52
  have a5 := ta_miss (S := 128) (T := 122) Tryz.underlying122 Tryz.zeroValue122 (by decide) 52
  have a6 := ta_miss (S := 128) (T := 125) Tryz.underlying125 Tryz.zeroValue125 (by decide) 52
  have a7 := ta_hit (T := 128) Tryz.underlying128 52
  go_enter Tryz.func34, Tryz.ntmps34
  go_wp2_with fail
  refine (unhide HL).mono ?_
  rintro r w1 ⟨rfl, hb1⟩
  have P1 := h.below hb1
  have K1 : Kp B b w w1 := Kp.of_all hb1 hBw
  have z1 := hb1.size
  clear HL
  dsimp only
  have P2 := P1.alloc (.cells #[.int .i64 i, .iface tc uc, .iface tt ut, .iface te ue] 128)
  have K2 : Kp B b w _ := K1.trans (Kp.alloc0 w1 (.cells #[.int .i64 i, .iface tc uc, .iface tt ut, .iface te ue] 128) (by omega))
  have R2 := Row.new w1 #[.int .i64 i, .iface tc uc, .iface tt ut, .iface te ue] 128
  go_wp2_with fail
  refine (write1' B b _ acc _ _ (by simp) P2 (by have := unhide HZ; rw [e1]; omega)).mono ?_
  rintro r w3 ⟨rfl, P3, K3⟩
  have R3 := K3.row R2 (by omega) (by decide)
  have K4 := K2.trans K3
  obtain ⟨c0, c1, c2, c3⟩ := row4 R3
  clear R2 K2 P2 K3
  dsimp only
  go_wp2_with fail
  refine (unhide HFc _ _ _ ((unhide Hw).trans K4.low) P3 (by have := unhide HZ; rw [ByteArray.size_append, e1]; omega)).mono ?_
  rintro r w4 ⟨rfl, P4, K5⟩
  have R4 := K5.row R3 (by omega) (by decide)
  have K6 := K4.trans K5
  obtain ⟨d0, d1, d2, d3⟩ := row4 R4
  clear R3 K4 P3 K5 c0 c1 c2 c3
  dsimp only
  go_wp2_with fail
  refine (write1 B b _ _ _ P4 (by have := unhide HZ; have := unhide HSc; rw [ByteArray.size_append, ByteArray.size_append, e1, e2]; omega)).mono ?_
  rintro r w5 ⟨rfl, P5, K7⟩
  have R5 := K7.row R4 (by omega) (by decide)
  have K8 := K6.trans K7
  obtain ⟨f0, f1, f2, f3⟩ := row4 R5
  clear R4 K6 P4 K7 d0 d1 d2 d3
  dsimp only
  go_wp2_with fail
  refine (unhide HFt _ _ _ ((unhide Hw).trans K8.low) P5 (by have := unhide HZ; have := unhide HSc; rw [ByteArray.size_append, ByteArray.size_append, ByteArray.size_append, e1, e2]; omega)).mono ?_
  rintro r w6 ⟨rfl, P6, K9⟩
  have R6 := K9.row R5 (by omega) (by decide)
  have Ka := K8.trans K9
  obtain ⟨g0, g1, g2, g3⟩ := row4 R6
  clear R5 K8 P5 K9 f0 f1 f2 f3
  dsimp only
  go_wp2_with fail
  refine (write1 B b _ _ _ P6 (by have := unhide HZ; have := unhide HSc; have := unhide HSt; rw [ByteArray.size_append, ByteArray.size_append, ByteArray.size_append, ByteArray.size_append, e1, e2, e3]; omega)).mono ?_
  rintro r w7 ⟨rfl, P7, Kb⟩
  have R7 := Kb.row R6 (by omega) (by decide)
  have Kc := Ka.trans Kb
  obtain ⟨j0, j1, j2, j3⟩ := row4 R7
  clear R6 Ka P6 Kb g0 g1 g2 g3
  dsimp only
  go_wp2_with fail
  refine (unhide HFe _ _ _ ((unhide Hw).trans Kc.low) P7 (by have := unhide HZ; have := unhide HSc; have := unhide HSt; rw [ByteArray.size_append, ByteArray.size_append, ByteArray.size_append, ByteArray.size_append, ByteArray.size_append, e1, e2, e3]; omega)).mono ?_
  rintro r w8 ⟨rfl, P8, Kd⟩
  dsimp only
  go_wp2_with fail
  go_end0
  exact ⟨rfl, by simpa only [ByteArray.append_assoc] using P8, Kc.trans Kd⟩

/-- what the program prints of a tree -/
theorem expression_any (B b : Nat) (w0 : World) (hT0 : TabOK w0) (hP0 : Pow w0) (hB : w0.heap.size ≤ B) : ∀ (e : Ex), e.fit w0 → FullV B b w0 e.val e.put e.cnt
  | .int i n, h => full_of_in B b w0 _ hT0 hB h (in_int B b w0 hT0 hP0 hB i n h)
  | .text i s, h => full_of_in B b w0 _ hT0 hB h (in_text B b w0 hT0 hP0 hB i s h)
  | .bool i v, h => full_of_in B b w0 _ hT0 hB h (in_bool B b w0 hT0 hP0 hB i v h)
  | .set i a n c ss, h => full_of_in B b w0 _ hT0 hB h (in_set B b w0 hT0 hP0 hB i a n c ss h)
  | .name i s, h => full_of_in B b w0 _ hT0 hB h (in_name B b w0 hT0 hP0 hB i s h)
  | .attr .., h => absurd h id
  | .lett .., h => absurd h id
  | .un i op k, h => full_of_in B b w0 _ hT0 hB h (in_un B b w0 hT0 hP0 hB i op k h (expression_any B b w0 hT0 hP0 hB k h.2))
  | .bin i op k l, h => full_of_in B b w0 _ hT0 hB h (in_bin B b w0 hT0 hP0 hB i op k l h (expression_any B b w0 hT0 hP0 hB k h.2.1) (expression_any B b w0 hT0 hP0 hB l h.2.2))
  | .ite i c t e, h => full_of_in B b w0 _ hT0 hB h (in_ite B b w0 hT0 hP0 hB i c t e h (expression_any B b w0 hT0 hP0 hB c h.1) (expression_any B b w0 hT0 hP0 hB t h.2.1) (expression_any B b w0 hT0 hP0 hB e h.2.2))

end Go.Proofs.YtbdplgelkgngmaaGreatDoor

namespace Go.Proofs.YtbdplgelkgngmaaGreatDoor
open Go.RowKit
set_option linter.unusedVariables false

def exT (Es : List Ex) (k : Int) : ByteArray := match Es[k.toNat]? with
  | some e => e.pr
  | none => ⟨#[]⟩

def grT (Es : List Ex) (g : Int) : ByteArray := if g = -1 then ⟨#[100, 101, 110, 121]⟩ else ⟨#[103, 114, 97, 110, 116, 32]⟩ ++ exT Es g

/-- a statement's text -/
def stT (Es : List Ex) (s : St) : ByteArray :=
  (if s.kind = 1 then ⟨#[108, 101, 116, 32]⟩ ++ s.name ++ ⟨#[32, 61, 32]⟩ ++ exT Es s.cond
   else if s.kind = 2 then ⟨#[119, 104, 101, 110, 32]⟩ ++ exT Es s.cond ++ ⟨#[32, 61, 62, 32]⟩ ++ grT Es s.grant
   else ⟨#[101, 108, 115, 101, 32]⟩ ++ grT Es s.grant) ++ ⟨#[59, 10]⟩

def DecV (B b : Nat) (w0 : World) (gv : Value) (gt : ByteArray) : Prop :=
  ∀ (acc : ByteArray) (w : World), Below B w0 w → Pr B b acc w → acc.size ≤ 50000000000 → Calls Tryz.prog 35 #[.pointer (some ⟨b, 0, none⟩), gv] w (Wrote B b (acc ++ gt) w)

set_option maxRecDepth 100000 in
theorem decision_none (B b : Nat) (w0 : World) : DecV B b w0 .nilIface ⟨#[100, 101, 110, 121]⟩ := by
  intro acc w hw h hz
  have e1 : (⟨#[100, 101, 110, 121]⟩ : ByteArray).size = 4 := rfl
  have HZ := hide hz
  clear hz
  go_enter Tryz.func35, Tryz.ntmps35
  go_wp2_with fail
  refine (write1 B b _ acc _ h (by have := unhide HZ; rw [e1]; omega)).mono ?_
  rintro r w1 ⟨rfl, P1, K1⟩
  dsimp only
  go_wp2_with fail
  go_end0
  exact ⟨rfl, P1, K1⟩

set_option maxRecDepth 100000 in
theorem decision_some (B b : Nat) (w0 : World) (t : TypeId) (u : Value) (p : Int → ByteArray) (cnt : Nat) (hF : FullV B b w0 (.iface t u) p cnt) (hc : cnt ≤ 4000) : DecV B b w0 (.iface t u) (⟨#[103, 114, 97, 110, 116, 32]⟩ ++ p 0) := by
  intro acc w hw h hz
  have e1 : (⟨#[103, 114, 97, 110, 116, 32]⟩ : ByteArray).size = 6 := rfl
  have HZ := hide hz
  have HC := hide hc
  have Hw := hide hw
  have HF := hide hF
  clear hz hF hw hc
  go_enter Tryz.func35, Tryz.ntmps35
  go_wp2_with fail
  refine (write1 B b _ acc _ h (by have := unhide HZ; rw [e1]; omega)).mono ?_
  rintro r w1 ⟨rfl, P1, K1⟩
  dsimp only
  go_wp2_with fail
  refine (unhide HF _ _ _ ((unhide Hw).trans K1.low) P1 (by have := unhide HZ; have := unhide HC; rw [ByteArray.size_append, e1]; omega)).mono ?_
  rintro r w2 ⟨rfl, P2, K2⟩
  dsimp only
  go_wp2_with fail
  go_end0
  exact ⟨rfl, by rw [← ByteArray.append_assoc]; exact P2, K1.trans K2⟩

theorem row5' {w : World} {b : Nat} {v0 v1 v2 v3 v4 : Value} {t : TypeId} (R : Row w b #[v0, v1, v2, v3, v4] t) : w.cell? ⟨b, 0, none⟩ = some v0 ∧ w.cell? ⟨b, 1, none⟩ = some v1 ∧ w.cell? ⟨b, 2, none⟩ = some v2 ∧ w.cell? ⟨b, 3, none⟩ = some v3 ∧ w.cell? ⟨b, 4, none⟩ = some v4 :=
  ⟨R.cell 0, R.cell 1, R.cell 2, R.cell 3, R.cell 4⟩

set_option maxHeartbeats 1600000 in
set_option maxRecDepth 100000 in
theorem statement_let (B b : Nat) (w0 : World) (j : Nat) (nm : ByteArray) (tc : TypeId) (uc : Value) (p : Int → ByteArray) (cnt : Nat) (hF : FullV B b w0 (.iface tc uc) p cnt) (hc : cnt ≤ 4000) (hs : (p 0).size ≤ 4000 * cnt + 2) (hn : nm.size ≤ 32) (acc : ByteArray) (w : World) (hw : Below B w0 w) (h : Pr B b acc w) (hz : acc.size ≤ 30000000000) :
    Calls Tryz.prog 17 #[.pointer (some ⟨b, 0, none⟩), .agg #[.int .i64 j, .int .i64 1, .string nm, .iface tc uc, .nilIface]] w (Wrote B b (acc ++ (⟨#[108, 101, 116, 32]⟩ ++ nm ++ ⟨#[32, 61, 32]⟩ ++ p 0 ++ ⟨#[59, 10]⟩)) w) := by
  have eA : (⟨#[108, 101, 116, 32]⟩ : ByteArray).size = 4 := rfl
  have eB : (⟨#[32, 61, 32]⟩ : ByteArray).size = 3 := rfl
  have eC : (⟨#[119, 104, 101, 110, 32]⟩ : ByteArray).size = 5 := rfl
  have eD : (⟨#[32, 61, 62, 32]⟩ : ByteArray).size = 4 := rfl
  have eE : (⟨#[101, 108, 115, 101, 32]⟩ : ByteArray).size = 5 := rfl
  have eF : (⟨#[59, 10]⟩ : ByteArray).size = 2 := rfl
  have HZ := hide hz
  have Hw := hide hw
  have hBw : B ≤ w.heap.size := by have := h.le; omega
  have hbw := h.le.2
  have HF := hide hF
  have HS := hide (show (p 0).size ≤ 16000002 by omega)
  have HC := hide hc
  have HN := hide hn
  clear hz hw hF hc hs hn
  have P0 := h.alloc (.cells #[.int .i64 j, .int .i64 1, .string nm, .iface tc uc, .nilIface] 54)
  have K0 : Kp B b w _ := Kp.alloc0 w (.cells #[.int .i64 j, .int .i64 1, .string nm, .iface tc uc, .nilIface] 54) hBw
  have R0 := Row.new w #[.int .i64 j, .int .i64 1, .string nm, .iface tc uc, .nilIface] 54
  go_enter Tryz.func17, Tryz.ntmps17
  go_wp2_with fail
  refine (write3' B b _ _ _ acc _ _ (by simp) P0 (by have := unhide HZ; have := unhide HS; have := unhide HC; have := unhide HN; omega)).mono ?_
  rintro r v1 ⟨rfl, P1, J1⟩
  have K1 := K0.trans J1
  have R1 := J1.row R0 (by omega) (by decide)
  obtain ⟨c10, c11, c12, c13, c14⟩ := row5' R1
  clear R0 J1 K0 P0
  dsimp only
  go_wp2_with fail
  refine (unhide HF _ _ _ ((unhide Hw).trans K1.low) P1 (by have := unhide HZ; have := unhide HS; have := unhide HC; have := unhide HN; (try simp only [ByteArray.size_append]); omega)).mono ?_
  rintro r v2 ⟨rfl, P2, J2⟩
  have K2 := K1.trans J2
  have R2 := J2.row R1 (by omega) (by decide)
  obtain ⟨c20, c21, c22, c23, c24⟩ := row5' R2
  clear R1 J2 K1 P1 c10 c11 c12 c13 c14
  dsimp only
  go_wp2_with fail
  refine (write1 B b _ _ _ P2 (by have := unhide HZ; have := unhide HS; have := unhide HC; have := unhide HN; (try simp only [ByteArray.size_append]); omega)).mono ?_
  rintro r v3 ⟨rfl, P3, J3⟩
  have K3 := K2.trans J3
  have R3 := J3.row R2 (by omega) (by decide)
  obtain ⟨c30, c31, c32, c33, c34⟩ := row5' R3
  clear R2 J3 K2 P2 c20 c21 c22 c23 c24
  dsimp only
  go_wp2_with fail
  go_end0
  exact ⟨rfl, by simpa only [ByteArray.append_assoc] using P3, K3⟩

set_option maxHeartbeats 1600000 in
set_option maxRecDepth 100000 in
theorem statement_when0 (B b : Nat) (w0 : World) (j : Nat) (nm : ByteArray) (tc : TypeId) (uc : Value) (p : Int → ByteArray) (cnt : Nat) (hF : FullV B b w0 (.iface tc uc) p cnt) (hc : cnt ≤ 4000) (hs : (p 0).size ≤ 4000 * cnt + 2) (gt : ByteArray) (hD : DecV B b w0 (.nilIface) gt) (hg : gt.size ≤ 16000100) (acc : ByteArray) (w : World) (hw : Below B w0 w) (h : Pr B b acc w) (hz : acc.size ≤ 30000000000) :
    Calls Tryz.prog 17 #[.pointer (some ⟨b, 0, none⟩), .agg #[.int .i64 j, .int .i64 2, .string nm, .iface tc uc, .nilIface]] w (Wrote B b (acc ++ (⟨#[119, 104, 101, 110, 32]⟩ ++ p 0 ++ ⟨#[32, 61, 62, 32]⟩ ++ gt ++ ⟨#[59, 10]⟩)) w) := by
  have eA : (⟨#[108, 101, 116, 32]⟩ : ByteArray).size = 4 := rfl
  have eB : (⟨#[32, 61, 32]⟩ : ByteArray).size = 3 := rfl
  have eC : (⟨#[119, 104, 101, 110, 32]⟩ : ByteArray).size = 5 := rfl
  have eD : (⟨#[32, 61, 62, 32]⟩ : ByteArray).size = 4 := rfl
  have eE : (⟨#[101, 108, 115, 101, 32]⟩ : ByteArray).size = 5 := rfl
  have eF : (⟨#[59, 10]⟩ : ByteArray).size = 2 := rfl
  have HZ := hide hz
  have Hw := hide hw
  have hBw : B ≤ w.heap.size := by have := h.le; omega
  have hbw := h.le.2
  have HF := hide hF
  have HS := hide (show (p 0).size ≤ 16000002 by omega)
  have HC := hide hc
  have HD := hide hD
  have HG := hide hg
  clear hz hw hF hc hs hD hg
  have P0 := h.alloc (.cells #[.int .i64 j, .int .i64 2, .string nm, .iface tc uc, .nilIface] 54)
  have K0 : Kp B b w _ := Kp.alloc0 w (.cells #[.int .i64 j, .int .i64 2, .string nm, .iface tc uc, .nilIface] 54) hBw
  have R0 := Row.new w #[.int .i64 j, .int .i64 2, .string nm, .iface tc uc, .nilIface] 54
  go_enter Tryz.func17, Tryz.ntmps17
  go_wp2_with fail
  refine (write1' B b _ acc _ _ (by simp) P0 (by have := unhide HZ; have := unhide HS; have := unhide HC; have := unhide HG; (try simp only [ByteArray.size_append]); omega)).mono ?_
  rintro r v1 ⟨rfl, P1, J1⟩
  have K1 := K0.trans J1
  have R1 := J1.row R0 (by omega) (by decide)
  obtain ⟨c10, c11, c12, c13, c14⟩ := row5' R1
  clear R0 J1 K0 P0
  dsimp only
  go_wp2_with fail
  refine (unhide HF _ _ _ ((unhide Hw).trans K1.low) P1 (by have := unhide HZ; have := unhide HS; have := unhide HC; have := unhide HG; (try simp only [ByteArray.size_append]); omega)).mono ?_
  rintro r v2 ⟨rfl, P2, J2⟩
  have K2 := K1.trans J2
  have R2 := J2.row R1 (by omega) (by decide)
  obtain ⟨c20, c21, c22, c23, c24⟩ := row5' R2
  clear R1 J2 K1 P1 c10 c11 c12 c13 c14
  dsimp only
  go_wp2_with fail
  refine (write1 B b _ _ _ P2 (by have := unhide HZ; have := unhide HS; have := unhide HC; have := unhide HG; (try simp only [ByteArray.size_append]); omega)).mono ?_
  rintro r v3 ⟨rfl, P3, J3⟩
  have K3 := K2.trans J3
  have R3 := J3.row R2 (by omega) (by decide)
  obtain ⟨c30, c31, c32, c33, c34⟩ := row5' R3
  clear R2 J3 K2 P2 c20 c21 c22 c23 c24
  dsimp only
  go_wp2_with fail
  refine (unhide HD _ _ ((unhide Hw).trans K3.low) P3 (by have := unhide HZ; have := unhide HS; have := unhide HC; have := unhide HG; (try simp only [ByteArray.size_append]); omega)).mono ?_
  rintro r v4 ⟨rfl, P4, J4⟩
  have K4 := K3.trans J4
  have R4 := J4.row R3 (by omega) (by decide)
  obtain ⟨c40, c41, c42, c43, c44⟩ := row5' R4
  clear R3 J4 K3 P3 c30 c31 c32 c33 c34
  dsimp only
  go_wp2_with fail
  refine (write1 B b _ _ _ P4 (by have := unhide HZ; have := unhide HS; have := unhide HC; have := unhide HG; (try simp only [ByteArray.size_append]); omega)).mono ?_
  rintro r v5 ⟨rfl, P5, J5⟩
  have K5 := K4.trans J5
  have R5 := J5.row R4 (by omega) (by decide)
  obtain ⟨c50, c51, c52, c53, c54⟩ := row5' R5
  clear R4 J5 K4 P4 c40 c41 c42 c43 c44
  dsimp only
  go_wp2_with fail
  go_end0
  exact ⟨rfl, by simpa only [ByteArray.append_assoc] using P5, K5⟩

set_option maxHeartbeats 1600000 in
set_option maxRecDepth 100000 in
theorem statement_when1 (B b : Nat) (w0 : World) (j : Nat) (nm : ByteArray) (tc : TypeId) (uc : Value) (p : Int → ByteArray) (cnt : Nat) (hF : FullV B b w0 (.iface tc uc) p cnt) (hc : cnt ≤ 4000) (hs : (p 0).size ≤ 4000 * cnt + 2) (tg : TypeId) (ug : Value) (gt : ByteArray) (hD : DecV B b w0 (.iface tg ug) gt) (hg : gt.size ≤ 16000100) (acc : ByteArray) (w : World) (hw : Below B w0 w) (h : Pr B b acc w) (hz : acc.size ≤ 30000000000) :
    Calls Tryz.prog 17 #[.pointer (some ⟨b, 0, none⟩), .agg #[.int .i64 j, .int .i64 2, .string nm, .iface tc uc, .iface tg ug]] w (Wrote B b (acc ++ (⟨#[119, 104, 101, 110, 32]⟩ ++ p 0 ++ ⟨#[32, 61, 62, 32]⟩ ++ gt ++ ⟨#[59, 10]⟩)) w) := by
  have eA : (⟨#[108, 101, 116, 32]⟩ : ByteArray).size = 4 := rfl
  have eB : (⟨#[32, 61, 32]⟩ : ByteArray).size = 3 := rfl
  have eC : (⟨#[119, 104, 101, 110, 32]⟩ : ByteArray).size = 5 := rfl
  have eD : (⟨#[32, 61, 62, 32]⟩ : ByteArray).size = 4 := rfl
  have eE : (⟨#[101, 108, 115, 101, 32]⟩ : ByteArray).size = 5 := rfl
  have eF : (⟨#[59, 10]⟩ : ByteArray).size = 2 := rfl
  have HZ := hide hz
  have Hw := hide hw
  have hBw : B ≤ w.heap.size := by have := h.le; omega
  have hbw := h.le.2
  have HF := hide hF
  have HS := hide (show (p 0).size ≤ 16000002 by omega)
  have HC := hide hc
  have HD := hide hD
  have HG := hide hg
  clear hz hw hF hc hs hD hg
  have P0 := h.alloc (.cells #[.int .i64 j, .int .i64 2, .string nm, .iface tc uc, .iface tg ug] 54)
  have K0 : Kp B b w _ := Kp.alloc0 w (.cells #[.int .i64 j, .int .i64 2, .string nm, .iface tc uc, .iface tg ug] 54) hBw
  have R0 := Row.new w #[.int .i64 j, .int .i64 2, .string nm, .iface tc uc, .iface tg ug] 54
  go_enter Tryz.func17, Tryz.ntmps17
  go_wp2_with fail
  refine (write1' B b _ acc _ _ (by simp) P0 (by have := unhide HZ; have := unhide HS; have := unhide HC; have := unhide HG; (try simp only [ByteArray.size_append]); omega)).mono ?_
  rintro r v1 ⟨rfl, P1, J1⟩
  have K1 := K0.trans J1
  have R1 := J1.row R0 (by omega) (by decide)
  obtain ⟨c10, c11, c12, c13, c14⟩ := row5' R1
  clear R0 J1 K0 P0
  dsimp only
  go_wp2_with fail
  refine (unhide HF _ _ _ ((unhide Hw).trans K1.low) P1 (by have := unhide HZ; have := unhide HS; have := unhide HC; have := unhide HG; (try simp only [ByteArray.size_append]); omega)).mono ?_
  rintro r v2 ⟨rfl, P2, J2⟩
  have K2 := K1.trans J2
  have R2 := J2.row R1 (by omega) (by decide)
  obtain ⟨c20, c21, c22, c23, c24⟩ := row5' R2
  clear R1 J2 K1 P1 c10 c11 c12 c13 c14
  dsimp only
  go_wp2_with fail
  refine (write1 B b _ _ _ P2 (by have := unhide HZ; have := unhide HS; have := unhide HC; have := unhide HG; (try simp only [ByteArray.size_append]); omega)).mono ?_
  rintro r v3 ⟨rfl, P3, J3⟩
  have K3 := K2.trans J3
  have R3 := J3.row R2 (by omega) (by decide)
  obtain ⟨c30, c31, c32, c33, c34⟩ := row5' R3
  clear R2 J3 K2 P2 c20 c21 c22 c23 c24
  dsimp only
  go_wp2_with fail
  refine (unhide HD _ _ ((unhide Hw).trans K3.low) P3 (by have := unhide HZ; have := unhide HS; have := unhide HC; have := unhide HG; (try simp only [ByteArray.size_append]); omega)).mono ?_
  rintro r v4 ⟨rfl, P4, J4⟩
  have K4 := K3.trans J4
  have R4 := J4.row R3 (by omega) (by decide)
  obtain ⟨c40, c41, c42, c43, c44⟩ := row5' R4
  clear R3 J4 K3 P3 c30 c31 c32 c33 c34
  dsimp only
  go_wp2_with fail
  refine (write1 B b _ _ _ P4 (by have := unhide HZ; have := unhide HS; have := unhide HC; have := unhide HG; (try simp only [ByteArray.size_append]); omega)).mono ?_
  rintro r v5 ⟨rfl, P5, J5⟩
  have K5 := K4.trans J5
  have R5 := J5.row R4 (by omega) (by decide)
  obtain ⟨c50, c51, c52, c53, c54⟩ := row5' R5
  clear R4 J5 K4 P4 c40 c41 c42 c43 c44
  dsimp only
  go_wp2_with fail
  go_end0
  exact ⟨rfl, by simpa only [ByteArray.append_assoc] using P5, K5⟩

set_option maxHeartbeats 1600000 in
set_option maxRecDepth 100000 in
theorem statement_else0 (B b : Nat) (w0 : World) (j : Nat) (nm : ByteArray) (gt : ByteArray) (hD : DecV B b w0 (.nilIface) gt) (hg : gt.size ≤ 16000100) (acc : ByteArray) (w : World) (hw : Below B w0 w) (h : Pr B b acc w) (hz : acc.size ≤ 30000000000) :
    Calls Tryz.prog 17 #[.pointer (some ⟨b, 0, none⟩), .agg #[.int .i64 j, .int .i64 3, .string nm, .nilIface, .nilIface]] w (Wrote B b (acc ++ (⟨#[101, 108, 115, 101, 32]⟩ ++ gt ++ ⟨#[59, 10]⟩)) w) := by
  have eA : (⟨#[108, 101, 116, 32]⟩ : ByteArray).size = 4 := rfl
  have eB : (⟨#[32, 61, 32]⟩ : ByteArray).size = 3 := rfl
  have eC : (⟨#[119, 104, 101, 110, 32]⟩ : ByteArray).size = 5 := rfl
  have eD : (⟨#[32, 61, 62, 32]⟩ : ByteArray).size = 4 := rfl
  have eE : (⟨#[101, 108, 115, 101, 32]⟩ : ByteArray).size = 5 := rfl
  have eF : (⟨#[59, 10]⟩ : ByteArray).size = 2 := rfl
  have HZ := hide hz
  have Hw := hide hw
  have hBw : B ≤ w.heap.size := by have := h.le; omega
  have hbw := h.le.2
  have HD := hide hD
  have HG := hide hg
  clear hz hw hD hg
  have P0 := h.alloc (.cells #[.int .i64 j, .int .i64 3, .string nm, .nilIface, .nilIface] 54)
  have K0 : Kp B b w _ := Kp.alloc0 w (.cells #[.int .i64 j, .int .i64 3, .string nm, .nilIface, .nilIface] 54) hBw
  have R0 := Row.new w #[.int .i64 j, .int .i64 3, .string nm, .nilIface, .nilIface] 54
  go_enter Tryz.func17, Tryz.ntmps17
  go_wp2_with fail
  refine (write1' B b _ acc _ _ (by simp) P0 (by have := unhide HZ; have := unhide HG; (try simp only [ByteArray.size_append]); omega)).mono ?_
  rintro r v1 ⟨rfl, P1, J1⟩
  have K1 := K0.trans J1
  have R1 := J1.row R0 (by omega) (by decide)
  obtain ⟨c10, c11, c12, c13, c14⟩ := row5' R1
  clear R0 J1 K0 P0
  dsimp only
  go_wp2_with fail
  refine (unhide HD _ _ ((unhide Hw).trans K1.low) P1 (by have := unhide HZ; have := unhide HG; (try simp only [ByteArray.size_append]); omega)).mono ?_
  rintro r v2 ⟨rfl, P2, J2⟩
  have K2 := K1.trans J2
  have R2 := J2.row R1 (by omega) (by decide)
  obtain ⟨c20, c21, c22, c23, c24⟩ := row5' R2
  clear R1 J2 K1 P1 c10 c11 c12 c13 c14
  dsimp only
  go_wp2_with fail
  refine (write1 B b _ _ _ P2 (by have := unhide HZ; have := unhide HG; (try simp only [ByteArray.size_append]); omega)).mono ?_
  rintro r v3 ⟨rfl, P3, J3⟩
  have K3 := K2.trans J3
  have R3 := J3.row R2 (by omega) (by decide)
  obtain ⟨c30, c31, c32, c33, c34⟩ := row5' R3
  clear R2 J3 K2 P2 c20 c21 c22 c23 c24
  dsimp only
  go_wp2_with fail
  go_end0
  exact ⟨rfl, by simpa only [ByteArray.append_assoc] using P3, K3⟩

set_option maxHeartbeats 1600000 in
set_option maxRecDepth 100000 in
theorem statement_else1 (B b : Nat) (w0 : World) (j : Nat) (nm : ByteArray) (tg : TypeId) (ug : Value) (gt : ByteArray) (hD : DecV B b w0 (.iface tg ug) gt) (hg : gt.size ≤ 16000100) (acc : ByteArray) (w : World) (hw : Below B w0 w) (h : Pr B b acc w) (hz : acc.size ≤ 30000000000) :
    Calls Tryz.prog 17 #[.pointer (some ⟨b, 0, none⟩), .agg #[.int .i64 j, .int .i64 3, .string nm, .nilIface, .iface tg ug]] w (Wrote B b (acc ++ (⟨#[101, 108, 115, 101, 32]⟩ ++ gt ++ ⟨#[59, 10]⟩)) w) := by
  have eA : (⟨#[108, 101, 116, 32]⟩ : ByteArray).size = 4 := rfl
  have eB : (⟨#[32, 61, 32]⟩ : ByteArray).size = 3 := rfl
  have eC : (⟨#[119, 104, 101, 110, 32]⟩ : ByteArray).size = 5 := rfl
  have eD : (⟨#[32, 61, 62, 32]⟩ : ByteArray).size = 4 := rfl
  have eE : (⟨#[101, 108, 115, 101, 32]⟩ : ByteArray).size = 5 := rfl
  have eF : (⟨#[59, 10]⟩ : ByteArray).size = 2 := rfl
  have HZ := hide hz
  have Hw := hide hw
  have hBw : B ≤ w.heap.size := by have := h.le; omega
  have hbw := h.le.2
  have HD := hide hD
  have HG := hide hg
  clear hz hw hD hg
  have P0 := h.alloc (.cells #[.int .i64 j, .int .i64 3, .string nm, .nilIface, .iface tg ug] 54)
  have K0 : Kp B b w _ := Kp.alloc0 w (.cells #[.int .i64 j, .int .i64 3, .string nm, .nilIface, .iface tg ug] 54) hBw
  have R0 := Row.new w #[.int .i64 j, .int .i64 3, .string nm, .nilIface, .iface tg ug] 54
  go_enter Tryz.func17, Tryz.ntmps17
  go_wp2_with fail
  refine (write1' B b _ acc _ _ (by simp) P0 (by have := unhide HZ; have := unhide HG; (try simp only [ByteArray.size_append]); omega)).mono ?_
  rintro r v1 ⟨rfl, P1, J1⟩
  have K1 := K0.trans J1
  have R1 := J1.row R0 (by omega) (by decide)
  obtain ⟨c10, c11, c12, c13, c14⟩ := row5' R1
  clear R0 J1 K0 P0
  dsimp only
  go_wp2_with fail
  refine (unhide HD _ _ ((unhide Hw).trans K1.low) P1 (by have := unhide HZ; have := unhide HG; (try simp only [ByteArray.size_append]); omega)).mono ?_
  rintro r v2 ⟨rfl, P2, J2⟩
  have K2 := K1.trans J2
  have R2 := J2.row R1 (by omega) (by decide)
  obtain ⟨c20, c21, c22, c23, c24⟩ := row5' R2
  clear R1 J2 K1 P1 c10 c11 c12 c13 c14
  dsimp only
  go_wp2_with fail
  refine (write1 B b _ _ _ P2 (by have := unhide HZ; have := unhide HG; (try simp only [ByteArray.size_append]); omega)).mono ?_
  rintro r v3 ⟨rfl, P3, J3⟩
  have K3 := K2.trans J3
  have R3 := J3.row R2 (by omega) (by decide)
  obtain ⟨c30, c31, c32, c33, c34⟩ := row5' R3
  clear R2 J3 K2 P2 c20 c21 c22 c23 c24
  dsimp only
  go_wp2_with fail
  go_end0
  exact ⟨rfl, by simpa only [ByteArray.append_assoc] using P3, K3⟩

end Go.Proofs.YtbdplgelkgngmaaGreatDoor
