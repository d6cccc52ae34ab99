/-
  The model's split. Own work.
-/
import Derived.Test.YthdoakeocaegkaaDoorSP
import Derived.Test.YthdoakeocaegkaaDoorTL
import Derived.Test.YthdoakeocaegkaaDoorCMem
import Derived.Test.YthdoakeocaegkaaDoorPickP
import Derived.OwnWalk
import Derived.Lib.Walk
namespace Go.Proofs.YthdoakeocaegkaaDoor
open Go.RowKit
set_option linter.unusedVariables false

/-- the bytes from f up to k -/
theorem extract_toL (s : ByteArray) (f k : Nat) (h : f ≤ k) (hk : k ≤ s.size) : toL (s.extract f k) = ((toL s).drop f).take (k - f) := by
  rw [toL, toL, ByteArray.data_extract, Array.toList_extract, List.extract_eq_take_drop]

theorem drop_at (s : ByteArray) (f k : Nat) (h : f ≤ k) (hk : k < s.size) : (toL s).drop f = ((toL s).drop f).take (k - f) ++ s[k] :: (toL s).drop (k + 1) := by
  have hk' : k < (toL s).length := by simpa [toL] using hk
  have e1 : (toL s).drop k = s[k] :: (toL s).drop (k + 1) := by
    rw [List.drop_eq_getElem_cons hk']
    rfl
  have e2 : ((toL s).drop f).drop (k - f) = (toL s).drop k := by rw [List.drop_drop]; congr 1; omega
  have e3 := List.take_append_drop (k - f) ((toL s).drop f)
  rw [e2, e1] at e3
  exact e3.symm

theorem take_next (s : ByteArray) (f k : Nat) (h : f ≤ k) (hk : k < s.size) : ((toL s).drop f).take (k + 1 - f) = ((toL s).drop f).take (k - f) ++ [s[k]] := by
  have hk' : k < (toL s).length := by simpa [toL] using hk
  rw [show k + 1 - f = (k - f) + 1 by omega, List.take_succ_eq_append_getElem (by simp; omega), List.getElem_drop]
  congr 2
  simp only [show f + (k - f) = k by omega]
  rfl

/-- l1split, on the way -/
def SpInv (s : ByteArray) (c : UInt8) (k f : Nat) (P : List (List UInt8)) : Prop :=
  (k ≤ s.size ∧ c ∉ ((toL s).drop f).take (k - f) ∧ P ++ splitC c ((toL s).drop f) = splitC c (toL s)) ∨ (k = s.size + 1 ∧ P = splitC c (toL s))

theorem SpInv.start {s : ByteArray} {c : UInt8} : SpInv s c 0 0 [] := .inl ⟨by omega, by simp, by simp⟩

theorem SpInv.hit {s : ByteArray} {c : UInt8} {k f : Nat} {P : List (List UInt8)} (h : SpInv s c k f P) (hf : f ≤ k) (hlt : k < s.size) (hcc : s[k] = c) : SpInv s c (k + 1) (k + 1) (P ++ [toL (s.extract f k)]) := by
  rcases h with ⟨_, hc, he⟩ | ⟨h, _⟩
  · refine .inl ⟨by omega, by simp, ?_⟩
    rw [← he]
    have e := drop_at s f k hf hlt
    rw [e, hcc, splitC_hit c _ _ hc, extract_toL s f k hf (by omega)]
    simp
  · omega

theorem SpInv.miss {s : ByteArray} {c : UInt8} {k f : Nat} {P : List (List UInt8)} (h : SpInv s c k f P) (hf : f ≤ k) (hlt : k < s.size) (hcc : s[k] ≠ c) : SpInv s c (k + 1) f P := by
  rcases h with ⟨_, hc, he⟩ | ⟨h, _⟩
  · refine .inl ⟨by omega, ?_, he⟩
    rw [take_next s f k hf hlt, List.mem_append]
    rintro (h | h)
    · exact hc h
    · simp only [List.mem_singleton] at h; exact hcc h.symm
  · omega

theorem SpInv.last {s : ByteArray} {c : UInt8} {f : Nat} {P : List (List UInt8)} (h : SpInv s c s.size f P) (hf : f ≤ s.size) : SpInv s c (s.size + 1) (s.size + 1) (P ++ [toL (s.extract f s.size)]) := by
  rcases h with ⟨_, hc, he⟩ | ⟨h, _⟩
  · refine .inr ⟨rfl, ?_⟩
    have e : ((toL s).drop f).take (s.size - f) = (toL s).drop f := List.take_of_length_le (by simp [toL])
    rw [e] at hc
    rw [← he, splitC_clean c _ hc, extract_toL s f _ hf (Nat.le_refl _), e]
  · omega

theorem SpInv.done {s : ByteArray} {c : UInt8} {k f : Nat} {P : List (List UInt8)} (h : SpInv s c k f P) (hk : ¬ k ≤ s.size) : P = splitC c (toL s) := by
  rcases h with ⟨h, _⟩ | ⟨_, h⟩
  · exact absurd h hk
  · exact h

/-- what l1split answers -/
def SplAns (w : World) (c : UInt8) (s : ByteArray) (e : Ending) (w' : World) : Prop :=
  ∃ x cx, e = .returned (.slice x (splitC c (toL s)).length cx) ∧ w'.ownsRow w.heap.size 9 1 (.slice x (splitC c (toL s)).length cx) (splitC c (toL s)).length (((splitC c (toL s)).map ofL).map Value.string) ∧ Below w.heap.size w w'

theorem byteNe {a c : UInt8} (h : a ≠ c) : ¬ ((a.toNat : Int) = (c.toNat : Int)) := fun e => h (UInt8.toNat_inj.1 (by omega))

set_option maxRecDepth 100000 in
set_option maxHeartbeats 1600000 in
theorem l1split_any (s : ByteArray) (c : UInt8) (w : World) (hs : s.size ≤ 1048576) :
    Calls Tryd.prog 9 #[.string s, .int .u8 c.toNat] w fun e w' => SplAns w c s e w' := by
  obtain ⟨i, hi, hz0, hz1, hz2⟩ := info_parts infoS
  go_enter Tryd.func9, Tryd.ntmps9
  go_wp2_with fail
  go_loopw [5, 6, 7] (fun v fr ix wr => ∃ (k f : Nat) (P : List (List UInt8)) (x : Option Addr) (cx : Nat), k ≤ s.size + 1 ∧ ix = .int .i64 k ∧ fr = .int .i64 f ∧ v = .slice x P.length cx ∧ wr.ownsRow w.heap.size 9 1 (.slice x P.length cx) P.length ((P.map ofL).map Value.string) ∧ Below w.heap.size w wr ∧ P.length ≤ k ∧ f ≤ k ∧ Hid (SpInv s c k f P)) (fun _ _ ix _ => s.size + 1 - (intOf ix).toNat)
  case atStart => exact ⟨0, 0, [], none, 0, by omega, rfl, rfl, rfl, World.ownsRow_nil _ _ _ _, Below.refl _ _, by simp, Nat.le_refl _, hide SpInv.start⟩
  case round =>
    obtain ⟨k, f, P, x, cx, hk, rfl, rfl, rfl, hown, hb, hP, hf, H⟩ := hrel
    have hbs := hb.size
    by_cases hk1 : k ≤ s.size
    · have hin : ((k : Int) ≤ (s.size : Int)) := by omega
      have hfk : ((f : Int) ≤ (k : Int)) := by omega
      have hfz : (s.extract f k).size ≤ 1048576 := by rw [ByteArray.size_extract]; omega
      by_cases hlt : k < s.size
      · have hltI : ((k : Int) < (s.size : Int)) := by omega
        have hne : ((k : Int) == (s.size : Int)) = false := by rw [beq_eq_false_iff_ne]; omega
        by_cases hcc : s[k] = c
        · have Hn := hide (SpInv.hit (unhide H) hf hlt hcc)
          have hcv : ((s[k].toNat : Int) == (c.toNat : Int)) = true := by rw [hcc, beq_self_eq_true]
          clear hcc H
          go_wp2_with (at_builtin; refine wpList_append_own _ rfl _ _ 28 rfl w.heap.size 9 i (.string ByteArray.empty) 1 16 Tryd.underlying28 hi hz0 hz1 hz2 rfl (by decide) _ _ _ rfl (hown.alloc _) ⟨wr.heap.size, 0, none⟩ 1 1 [.string (s.extract f k)] rfl rfl ?c1 ?c2 ?c3 ?c4 ?c5 ?_)
          case c1 => exact cell_one_new _ _ _
          case c2 => intro u hu; simp at hu; subst hu; rfl
          case c3 => unfold maxLen; omega
          case c4 => omega
          case c5 => simp; omega
          intro v' w1 hown' hgrow _
          have hb1 : Below w.heap.size w w1 := (hb.alloc hbs _).grown hgrow (by simp; omega) (fun k hk => (hown.lt k hk).1)
          obtain ⟨x', cx', hv⟩ := owns_form hown'
          rw [hv] at hown' ⊢
          clear hgrow hown hv
          go_wp2
          go_roundw
          case rel => exact ⟨k + 1, k + 1, P ++ [toL (s.extract f k)], x', cx', by omega, by go_num, by go_num, by rw [List.length_append]; rfl, by rw [List.map_append, List.map_append, List.length_append, List.map_singleton, List.map_singleton, ofL_toL, List.map_map]; exact hown', hb1, by simp; omega, Nat.le_refl _, Hn⟩
          case measure => simp [intOf] <;> omega
        · have Hn := hide (SpInv.miss (unhide H) hf hlt hcc)
          have hcv : ((s[k].toNat : Int) == (c.toNat : Int)) = false := by rw [beq_eq_false_iff_ne]; exact byteNe hcc
          clear hcc H
          go_wp2_with fail
          go_roundw
          case rel => exact ⟨k + 1, f, P, x, cx, by omega, by go_num, rfl, rfl, hown, hb, by omega, by omega, Hn⟩
          case measure => simp [intOf] <;> omega
      · have he : k = s.size := by omega
        subst he
        have Hn := hide (SpInv.last (unhide H) hf)
        clear H
        go_wp2_with (at_builtin; refine wpList_append_own _ rfl _ _ 28 rfl w.heap.size 9 i (.string ByteArray.empty) 1 16 Tryd.underlying28 hi hz0 hz1 hz2 rfl (by decide) _ _ _ rfl (hown.alloc _) ⟨wr.heap.size, 0, none⟩ 1 1 [.string (s.extract f s.size)] rfl rfl ?c1 ?c2 ?c3 ?c4 ?c5 ?_)
        case c1 => exact cell_one_new _ _ _
        case c2 => intro u hu; simp at hu; subst hu; rfl
        case c3 => unfold maxLen; omega
        case c4 => omega
        case c5 => simp; omega
        intro v' w1 hown' hgrow _
        have hb1 : Below w.heap.size w w1 := (hb.alloc hbs _).grown hgrow (by simp; omega) (fun k hk => (hown.lt k hk).1)
        obtain ⟨x', cx', hv⟩ := owns_form hown'
        rw [hv] at hown' ⊢
        clear hgrow hown hv
        go_wp2
        go_roundw
        case rel => exact ⟨s.size + 1, s.size + 1, P ++ [toL (s.extract f s.size)], x', cx', by omega, by go_num, by go_num, by rw [List.length_append]; rfl, by rw [List.map_append, List.map_append, List.length_append, List.map_singleton, List.map_singleton, ofL_toL, List.map_map]; exact hown', hb1, by simp; omega, Nat.le_refl _, Hn⟩
        case measure => simp [intOf] <;> omega
    · have hin : ¬ ((k : Int) ≤ (s.size : Int)) := by omega
      have e := SpInv.done (unhide H) hk1
      subst e
      go_wp2
      go_ret
      exact ⟨x, cx, rfl, hown, hb⟩

end Go.Proofs.YthdoakeocaegkaaDoor
