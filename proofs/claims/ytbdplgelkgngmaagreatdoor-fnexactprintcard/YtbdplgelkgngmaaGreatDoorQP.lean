/-
  The model's numbers and lists of names. Own work.
-/
import Derived.Test.YtbdplgelkgngmaaGreatDoorMHA
import Derived.Test.YtbdplgelkgngmaaGreatDoorVPH
import Derived.Test.YtbdplgelkgngmaaGreatDoorByte1
import Derived.Deep.RegionWith
namespace Go.Proofs.YtbdplgelkgngmaaGreatDoor
open Go.RowKit
set_option linter.unusedVariables false

theorem numB_small {k : Nat} (h : k < 10) : numB k = byte1 (48 + (k : Int)) := by
  have e : (48 + (k : Int)).toNat = 48 + k := by omega
  unfold numB byte1
  rw [Lib.decDigits, dif_pos h, e]
  rfl

theorem numB_big {k : Nat} (h : 10 ≤ k) : numB k = numB (k / 10) ++ numB (k % 10) := by
  apply bytes_ext
  rw [ByteArray.data_append]
  unfold numB
  rw [Lib.decDigits, dif_neg (by omega)]
  conv => rhs; rw [Lib.decDigits.eq_def (k % 10), dif_pos (by omega)]
  simp

theorem l1num_cast (m : Nat) (x : Int) {w : World} {Q : Ending → World → Prop} (h : Calls Tryz.prog 25 #[.int .i64 m] w Q) (e : x = m) : Calls Tryz.prog 25 #[.int .i64 x] w Q := by rw [e]; exact h

set_option maxRecDepth 100000 in
set_option maxHeartbeats 800000 in
theorem l1num_any (k : Nat) (w : World) (hk : k ≤ 9223372036854775807) :
    Calls Tryz.prog 25 #[.int .i64 k] w fun e w' => e = .returned (.string (numB k)) ∧ Below w.heap.size w w' := by
  induction k using Nat.strongRecOn generalizing w with
  | _ k ih =>
    by_cases h : k < 10
    · have i1 : (k : Int) < 10 := by omega
      have i2 : (48 + (k : Int)) < 256 := by omega
      have hcv := conv1
      have Hd := hide (numB_small h)
      go_enter Tryz.func25, Tryz.ntmps25
      go_wp2
      go_ret
      exact ⟨by rw [unhide Hd]; rfl, (Below.refl _ _).alloc (Nat.le_refl _) _⟩
    · have i1 : (10 : Int) ≤ (k : Int) := by omega
      have Hd := hide (numB_big (k := k) (by omega))
      have z1 := numB_size (n := k / 10) (by omega)
      have z2 := numB_size (n := k % 10) (by omega)
      have Hi : Hid (∀ (m : Nat), m < k → ∀ (w : World), m ≤ 9223372036854775807 → Calls Tryz.prog 25 #[.int .i64 m] w fun e w' => e = .returned (.string (numB m)) ∧ Below w.heap.size w w') := ih
      clear ih
      go_enter Tryz.func25, Tryz.ntmps25
      go_wp2_with fail
      refine (l1num_cast (k / 10) _ (unhide Hi (k / 10) (by omega) w (by omega)) (by omega)).mono ?_
      rintro e w1 ⟨rfl, hb1⟩
      go_wp2_with fail
      refine (l1num_cast (k % 10) _ (unhide Hi (k % 10) (by omega) w1 (by omega)) (by omega)).mono ?_
      rintro e w2 ⟨rfl, hb2⟩
      go_wp2_with fail
      go_ret
      exact ⟨by rw [unhide Hd]; rfl, hb1.trans (hb2.mono hb1.size)⟩

/-- names with a quote, a comma, a blank and a quote between them -/
def jn (first : Bool) : List ByteArray → ByteArray
  | [] => ⟨#[]⟩
  | x :: r => (if first then ⟨#[]⟩ else ⟨#[34, 44, 32, 34]⟩) ++ x ++ jn false r

theorem jn_snoc (x : ByteArray) : ∀ (f : Bool) (l : List ByteArray), jn f (l ++ [x]) = jn f l ++ jn (f && l.isEmpty) [x]
  | f, [] => by simp [jn, nil_app]
  | f, y :: r => by
    rw [List.cons_append, jn, jn, jn_snoc x false r, ByteArray.append_assoc]
    simp [ByteArray.append_assoc]

theorem jn_size : ∀ (f : Bool) (l : List ByteArray), (∀ x ∈ l, x.size ≤ 32) → (jn f l).size ≤ 36 * l.length
  | f, [], _ => by simp [jn, ByteArray.size]
  | f, x :: r, h => by
    have h1 := jn_size false r (fun y hy => h y (List.mem_cons_of_mem _ hy))
    have h2 := h x (List.mem_cons_self ..)
    rw [jn]
    simp only [ByteArray.size_append, List.length_cons]
    have : (if f = true then (⟨#[]⟩ : ByteArray) else ⟨#[34, 44, 32, 34]⟩).size ≤ 4 := by cases f <;> simp [ByteArray.size]
    omega

theorem sep_is : (⟨#[34]⟩ : ByteArray) ++ ⟨#[44, 32]⟩ ++ ⟨#[34]⟩ = ⟨#[34, 44, 32, 34]⟩ := by decide

theorem quote_false : ∀ (r : List ByteArray), (⟨#[34]⟩ : ByteArray) ++ itemsT false r = jn false r ++ ⟨#[34]⟩
  | [] => by simp [itemsT, jn, nil_app, app_nil]
  | x :: r => by
    have ih := quote_false r
    rw [itemsT, jn, ← sep_is]
    simp only [Bool.false_eq_true, if_false, ByteArray.append_assoc]
    rw [ih]

theorem set_quotes {ss : List ByteArray} (h : ss ≠ []) : (⟨#[123, 34]⟩ : ByteArray) ++ jn true ss ++ ⟨#[34, 125]⟩ = setT ss := by
  have e1 : (⟨#[123, 34]⟩ : ByteArray) = ⟨#[123]⟩ ++ ⟨#[34]⟩ := by decide
  have e2 : (⟨#[34, 125]⟩ : ByteArray) = ⟨#[34]⟩ ++ ⟨#[125]⟩ := by decide
  match ss, h with
  | x :: r, _ =>
    have ih := quote_false r
    rw [setT, itemsT, jn, e1, e2]
    simp only [if_true, nil_app, ByteArray.append_assoc]
    rw [← ByteArray.append_assoc (a := (⟨#[34]⟩ : ByteArray)) (b := itemsT false r), ih]
    simp only [ByteArray.append_assoc]

set_option maxHeartbeats 800000 in
theorem l1join_any (a : Option Addr) (n c : Nat) (ss : List ByteArray) (w : World) (h : Strs w a n c ss) (h1 : n ≤ 64) (h2 : ∀ x ∈ ss, x.size ≤ 32) :
    Calls Tryz.prog 26 #[.slice a n c, .string ⟨#[34, 44, 32, 34]⟩] w fun e w' => e = .returned (.string (jn true ss)) ∧ w' = w := by
  have Hl := hide h.len
  have H2 := hide h2
  have e4 : (⟨#[34, 44, 32, 34]⟩ : ByteArray).size = 4 := rfl
  have HJ := hide (fun (x : ByteArray) => show jn false [x] = ⟨#[34, 44, 32, 34]⟩ ++ x by simp [jn, app_nil])
  generalize (⟨#[34, 44, 32, 34]⟩ : ByteArray) = sep at e4 HJ ⊢
  clear h2
  go_enter Tryz.func26, Tryz.ntmps26
  go_wp2
  go_loop [5, 6, 7, 10] (fun s _ _ i => ∃ k : Nat, k ≤ n ∧ i = .int .i64 k ∧ s = .string (jn true (ss.take k))) (fun _ _ _ i => n - (intOf i).toNat)
  case atStart => exact ⟨0, Nat.zero_le _, rfl, rfl⟩
  case round =>
    obtain ⟨k, hk, rfl, rfl⟩ := hrel
    have z1 := jn_size true (ss.take k) (fun x hx => unhide H2 x (List.mem_of_mem_take hx))
    rw [List.length_take] at z1
    by_cases hlt : k < n
    · obtain ⟨b, off, ha', _, hc⟩ := h.cells k hlt
      subst ha'
      have hkl : k < ss.length := by have := unhide Hl; omega
      have z2 : (nth ss k).size ≤ 32 := by rw [nth_eq _ k hkl]; exact unhide H2 _ (List.getElem_mem hkl)
      have Ht := hide (show jn true (ss.take (k + 1)) = jn true (ss.take k) ++ jn (decide (k = 0)) [nth ss k] by
        rw [List.take_succ_eq_append_getElem hkl, jn_snoc, nth_eq _ k hkl]
        congr 2
        by_cases e : k = 0
        · subst e; rfl
        · have : ss.take k ≠ [] := fun e2 => by have := congrArg List.length e2; simp at this; rcases this with e3 | e3; omega; subst e3; simp at hkl
          rw [decide_eq_false e, Bool.true_and, List.isEmpty_eq_false_iff.2 this])
      generalize nth ss k = x at hc z2 Ht
      generalize jn true (ss.take k) = A at z1 Ht
      by_cases h0 : k = 0
      · have i0 : ¬ ((0 : Int) < (k : Int)) := by omega
        have HT := hide (show jn true (ss.take (k + 1)) = A ++ x by rw [unhide Ht, decide_eq_true h0]; simp [jn, nil_app, app_nil])
        clear Ht h0
        go_wp2
        go_round
        case rel => exact ⟨k + 1, by omega, by go_num, by rw [unhide HT]⟩
        case measure => simp [intOf]; omega
      · have i0 : (0 : Int) < (k : Int) := by omega
        have HT := hide (show jn true (ss.take (k + 1)) = A ++ sep ++ x by rw [unhide Ht, decide_eq_false h0, unhide HJ, ByteArray.append_assoc])
        clear Ht h0
        go_wp2
        go_round
        case rel => exact ⟨k + 1, by omega, by go_num, by rw [unhide HT]⟩
        case measure => simp [intOf]; omega
    · have e1 : ss.take k = ss := List.take_of_length_le (by have := unhide Hl; omega)
      rw [e1]
      go_wp2
      go_ret
      exact ⟨rfl, rfl⟩

end Go.Proofs.YtbdplgelkgngmaaGreatDoor
