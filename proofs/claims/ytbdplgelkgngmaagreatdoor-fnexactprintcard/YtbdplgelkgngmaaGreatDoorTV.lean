/-
  The walk over the model's list of words. Own work.
-/
import Derived.Test.YtbdplgelkgngmaaGreatDoorTW
namespace Go.Proofs.YtbdplgelkgngmaaGreatDoor
open Go.RowKit
set_option linter.unusedVariables false

/-- a list of texts as cells -/
def textsV (L : List (List UInt8)) : Array Value := (L.map fun l => Value.string (ofL l)).toArray

theorem textsV_at {L : List (List UInt8)} {k : Nat} {x : List UInt8} (h : L[k]? = some x) : (textsV L)[k]? = some (.string (ofL x)) := by
  simp [textsV, h]

theorem beq_ofL_true {s : ByteArray} {x : List UInt8} (h : (s.toList == (ofL x).toList) = true) : toL s = x := by
  rw [beq_iff_eq, ByteArray.toList_eq, ByteArray.toList_eq] at h
  exact h

theorem beq_ofL_false {s : ByteArray} {x : List UInt8} (h : (s.toList == (ofL x).toList) = false) : toL s ≠ x := by
  rw [beq_eq_false_iff_ne, ByteArray.toList_eq, ByteArray.toList_eq] at h
  exact h

/-- none of the first is it -/
def noneOf (L : List (List UInt8)) (k : Nat) (l : List UInt8) : Prop := ∀ i, i < k → L[i]? ≠ some l

theorem noneOf.next {L : List (List UInt8)} {k : Nat} {l x : List UInt8} (h : noneOf L k l) (hx : L[k]? = some x) (hn : l ≠ x) : noneOf L (k + 1) l := fun i hi e => by
  by_cases hk : i = k
  · subst hk; rw [hx] at e; exact hn (Option.some.inj e).symm
  · exact h i (by omega) e

theorem noneOf.all {L : List (List UInt8)} {l : List UInt8} (h : noneOf L L.length l) : L.contains l = false := by
  rw [← Bool.not_eq_true, List.contains_iff_mem]
  intro hm
  obtain ⟨i, hi, e⟩ := List.getElem_of_mem hm
  exact h i hi (by rw [List.getElem?_eq_getElem hi, e])

theorem mem_of_at {L : List (List UInt8)} {k : Nat} {x : List UInt8} (h : L[k]? = some x) : L.contains x = true := by
  rw [List.contains_iff_mem]; exact List.mem_of_getElem? h

set_option maxHeartbeats 1600000 in
theorem l2word_any (s : ByteArray) (w : World) :
    Calls Tryz.prog 70 #[.string s] w fun e w' => e = .returned (.bool (isWd (toL s))) ∧ Below w.heap.size w w' := by
  have R : Row (w.alloc (.cells #[.string ⟨#[108, 101, 116]⟩, .string ⟨#[119, 104, 101, 110]⟩, .string ⟨#[101, 108, 115, 101]⟩, .string ⟨#[100, 101, 110, 121]⟩, .string ⟨#[103, 114, 97, 110, 116]⟩, .string ⟨#[105, 102]⟩, .string ⟨#[116, 104, 101, 110]⟩, .string ⟨#[110, 111, 116]⟩, .string ⟨#[97, 110, 100]⟩, .string ⟨#[111, 114]⟩, .string ⟨#[105, 110]⟩, .string ⟨#[119, 105, 116, 104, 105, 110]⟩, .string ⟨#[115, 105, 122, 101]⟩, .string ⟨#[116, 114, 117, 101]⟩, .string ⟨#[102, 97, 108, 115, 101]⟩] 9)) w.heap.size (textsV wordsL) 9 := Row.new w (textsV wordsL) 9
  have B0 := (Below.refl w.heap.size w).alloc (Nat.le_refl _) (.cells #[.string ⟨#[108, 101, 116]⟩, .string ⟨#[119, 104, 101, 110]⟩, .string ⟨#[101, 108, 115, 101]⟩, .string ⟨#[100, 101, 110, 121]⟩, .string ⟨#[103, 114, 97, 110, 116]⟩, .string ⟨#[105, 102]⟩, .string ⟨#[116, 104, 101, 110]⟩, .string ⟨#[110, 111, 116]⟩, .string ⟨#[97, 110, 100]⟩, .string ⟨#[111, 114]⟩, .string ⟨#[105, 110]⟩, .string ⟨#[119, 105, 116, 104, 105, 110]⟩, .string ⟨#[115, 105, 122, 101]⟩, .string ⟨#[116, 114, 117, 101]⟩, .string ⟨#[102, 97, 108, 115, 101]⟩] 9)
  go_enter Tryz.func70, Tryz.ntmps70
  go_wp2
  generalize w.alloc (.cells #[.string ⟨#[108, 101, 116]⟩, .string ⟨#[119, 104, 101, 110]⟩, .string ⟨#[101, 108, 115, 101]⟩, .string ⟨#[100, 101, 110, 121]⟩, .string ⟨#[103, 114, 97, 110, 116]⟩, .string ⟨#[105, 102]⟩, .string ⟨#[116, 104, 101, 110]⟩, .string ⟨#[110, 111, 116]⟩, .string ⟨#[97, 110, 100]⟩, .string ⟨#[111, 114]⟩, .string ⟨#[105, 110]⟩, .string ⟨#[119, 105, 116, 104, 105, 110]⟩, .string ⟨#[115, 105, 122, 101]⟩, .string ⟨#[116, 114, 117, 101]⟩, .string ⟨#[102, 97, 108, 115, 101]⟩] 9) = W at R B0 ⊢
  go_loop [7] (fun i => ∃ k : Nat, k ≤ 15 ∧ i = .int .i64 k ∧ noneOf wordsL k (toL s)) (fun i => 15 - (intOf i).toNat)
  case atStart => exact ⟨0, by omega, rfl, fun i hi => by omega⟩
  case round =>
    obtain ⟨k, hk, rfl, hn⟩ := hrel
    by_cases hlt : k < 15
    · have ilt : (k : Int) < 15 := by omega
      obtain ⟨x, hx⟩ : ∃ x, wordsL[k]? = some x := ⟨wordsL[k]'hlt, List.getElem?_eq_getElem hlt⟩
      have hc := (R.cell k).trans (textsV_at hx)
      rcases Bool.eq_false_or_eq_true (s.toList == (ofL x).toList) with h | h
      · have Hf := hide (show isWd (toL s) = true by rw [beq_ofL_true h]; exact mem_of_at hx)
        clear hn hx
        go_wp2
        go_ret
        exact ⟨ret_bool (unhide Hf).symm, B0⟩
      · have Hf := hide (hn.next hx (beq_ofL_false h))
        clear hn hx
        go_wp2
        go_round
        case rel => exact ⟨k + 1, by omega, by go_num, unhide Hf⟩
        case measure => simp [intOf]; omega
    · have e : k = 15 := by omega
      subst e
      have Hf := hide (show isWd (toL s) = false from noneOf.all hn)
      clear hn
      go_wp2
      go_ret
      exact ⟨ret_bool (unhide Hf).symm, B0⟩

end Go.Proofs.YtbdplgelkgngmaaGreatDoor
