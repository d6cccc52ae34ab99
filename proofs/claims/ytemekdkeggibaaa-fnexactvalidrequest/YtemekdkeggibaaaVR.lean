/-
  FnExactValidRequest: the walks. Own work.
-/
import Derived.Test.YtemekdkeggibaaaSlices
import Derived.Test.YtemekdkeggibaaaLaws
import Derived.Test.YtemekdkeggibaaaMem
namespace Go.Proofs.Ytemekdkeggibaaa
open Go.RowKit

def reqB (cl us : ByteArray) (s1 s2 : List ByteArray) : Bool := vnB cl && vnB us && setB s1 && setB s2

set_option maxHeartbeats 800000 in
theorem sValidRequest_any (cl us : ByteArray) (lv nw : Int) (a1 : Option Addr) (n1 c1 : Nat) (s1 : List ByteArray) (a2 : Option Addr) (n2 c2 : Nat) (s2 : List ByteArray) (w : World)
    (hcl : cl.size ≤ maxLen) (hus : us.size ≤ maxLen) (h1 : Strs w a1 n1 c1 s1) (h2 : Strs w a2 n2 c2 s2) :
    Calls Try.prog 15 #[.agg #[.string cl, .string us, .int .i64 lv, .int .i64 nw, .slice a1 n1 c1, .slice a2 n2 c2]] w fun e w' => e = .returned (.bool (reqB cl us s1 s2)) ∧ Below w.heap.size w w' := by
  have b0 : Below w.heap.size w (w.alloc (.cells #[.string cl, .string us, .int .i64 lv, .int .i64 nw, .slice a1 n1 c1, .slice a2 n2 c2] 32)) := (Below.refl _ _).alloc (Nat.le_refl _) _
  have g1 := h1.below b0 (Nat.le_refl _)
  have g2 := h2.below b0 (Nat.le_refl _)
  go_enter Try.func15, Try.ntmps15
  go_wp2_with fail
  refine (sValidName_any _ _ hcl).mono ?_
  rintro e w' ⟨rfl, rfl⟩
  cases v1 : vnB cl
  · go_wp2_with fail
    go_ret
    exact ⟨ret_bool (by simp [reqB, v1]), b0⟩
  · go_wp2_with fail
    refine (sValidName_any _ _ hus).mono ?_
    rintro e w' ⟨rfl, rfl⟩
    cases v2 : vnB us
    · go_wp2_with fail
      go_ret
      exact ⟨ret_bool (by simp [reqB, v2]), b0⟩
    · go_wp2_with fail
      refine (sIsSet_any _ _ _ _ _ g1).mono ?_
      rintro e w' ⟨rfl, rfl⟩
      cases v3 : setB s1
      · go_wp2_with fail
        go_ret
        exact ⟨ret_bool (by simp [reqB, v3]), b0⟩
      · go_wp2_with fail
        refine (sIsSet_any _ _ _ _ _ g2).mono ?_
        rintro e w' ⟨rfl, rfl⟩
        go_wp2_with fail
        go_ret
        exact ⟨ret_bool (by simp [reqB, v1, v2, v3]), b0⟩

set_option maxHeartbeats 800000 in
theorem iValidRequest_any (cl us : ByteArray) (lv nw : Int) (a1 : Option Addr) (n1 c1 : Nat) (s1 : List ByteArray) (a2 : Option Addr) (n2 c2 : Nat) (s2 : List ByteArray) (w : World)
    (hcl : cl.size ≤ maxLen) (hus : us.size ≤ maxLen) (h1 : Strs w a1 n1 c1 s1) (h2 : Strs w a2 n2 c2 s2) :
    Calls Try.prog 17 #[.agg #[.string cl, .string us, .int .i64 lv, .int .i64 nw, .slice a1 n1 c1, .slice a2 n2 c2]] w fun e w' => e = .returned (.bool (reqB cl us s1 s2)) ∧ Below w.heap.size w w' := by
  have b0 : Below w.heap.size w (w.alloc (.cells #[.string cl, .string us, .int .i64 lv, .int .i64 nw, .slice a1 n1 c1, .slice a2 n2 c2] 32)) := (Below.refl _ _).alloc (Nat.le_refl _) _
  have g1 := h1.below b0 (Nat.le_refl _)
  have g2 := h2.below b0 (Nat.le_refl _)
  go_enter Try.func17, Try.ntmps17
  go_wp2_with fail
  refine (iValidName_any _ _ hcl).mono ?_
  rintro e w' ⟨rfl, rfl⟩
  cases v1 : vnB cl
  · go_wp2_with fail
    go_ret
    exact ⟨ret_bool (by simp [reqB, v1]), b0⟩
  · go_wp2_with fail
    refine (iValidName_any _ _ hus).mono ?_
    rintro e w' ⟨rfl, rfl⟩
    cases v2 : vnB us
    · go_wp2_with fail
      go_ret
      exact ⟨ret_bool (by simp [reqB, v2]), b0⟩
    · go_wp2_with fail
      refine (iIsSet_any _ _ _ _ _ g1).mono ?_
      rintro e w1 ⟨rfl, hb1⟩
      cases v3 : setB s1
      · go_wp2_with fail
        go_ret
        exact ⟨ret_bool (by simp [reqB, v3]), b0.trans (hb1.mono (by simp))⟩
      · obtain ⟨hc, hf⟩ := bcell hb1
        have g2' := g2.below hb1 (Nat.le_refl _)
        go_wp2_with fail
        refine (iIsSet_any _ _ _ _ _ g2').mono ?_
        rintro e w2 ⟨rfl, hb2⟩
        go_wp2_with fail
        go_ret
        have z1 := hb1.size
        simp at z1
        exact ⟨ret_bool (by simp [reqB, v1, v2, v3]), (b0.trans (hb1.mono (by simp))).trans (hb2.mono (by omega))⟩

end Go.Proofs.Ytemekdkeggibaaa
