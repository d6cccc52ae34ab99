/-
  The walk over the program's list of words. Own work.
-/
import Derived.Test.YtbdplgelkgngmaaGreatDoorTI
namespace Go.Proofs.YtbdplgelkgngmaaGreatDoor
open Go.RowKit
set_option linter.unusedVariables false

theorem isWd_mem {l : List UInt8} : isWd l = true ↔ l ∈ wordsL := by rw [isWd, List.contains_iff_mem]

theorem isWd_hit {s : ByteArray} {x : List UInt8} (h : (s.toList == x) = true) (hx : x ∈ wordsL) : isWd (toL s) = true := by
  rw [beq_iff_eq, ByteArray.toList_eq] at h
  rw [isWd_mem, toL, h]; exact hx

theorem isWd_miss {s : ByteArray} (h : ∀ x ∈ wordsL, (s.toList == x) = false) : isWd (toL s) = false := by
  cases hw : isWd (toL s)
  · rfl
  · have := h _ (isWd_mem.1 hw)
    rw [ByteArray.toList_eq, toL] at this
    simp at this

set_option maxHeartbeats 6400000 in
theorem isWord_any (s : ByteArray) (w : World) :
    Calls Tryz.prog 77 #[.string s] w fun e w' => e = .returned (.bool (isWd (toL s))) ∧ w' = w := by
  rcases Bool.eq_false_or_eq_true (s.toList == [108, 101, 116]) with h0 | h0
  · rw [isWd_hit h0 (by decide)]
    go_enter Tryz.func77, Tryz.ntmps77
    go_wp2
    go_ret
    exact ⟨rfl, rfl⟩
  rcases Bool.eq_false_or_eq_true (s.toList == [119, 104, 101, 110]) with h1 | h1
  · rw [isWd_hit h1 (by decide)]
    go_enter Tryz.func77, Tryz.ntmps77
    go_wp2
    go_ret
    exact ⟨rfl, rfl⟩
  rcases Bool.eq_false_or_eq_true (s.toList == [101, 108, 115, 101]) with h2 | h2
  · rw [isWd_hit h2 (by decide)]
    go_enter Tryz.func77, Tryz.ntmps77
    go_wp2
    go_ret
    exact ⟨rfl, rfl⟩
  rcases Bool.eq_false_or_eq_true (s.toList == [100, 101, 110, 121]) with h3 | h3
  · rw [isWd_hit h3 (by decide)]
    go_enter Tryz.func77, Tryz.ntmps77
    go_wp2
    go_ret
    exact ⟨rfl, rfl⟩
  rcases Bool.eq_false_or_eq_true (s.toList == [103, 114, 97, 110, 116]) with h4 | h4
  · rw [isWd_hit h4 (by decide)]
    go_enter Tryz.func77, Tryz.ntmps77
    go_wp2
    go_ret
    exact ⟨rfl, rfl⟩
  rcases Bool.eq_false_or_eq_true (s.toList == [105, 102]) with h5 | h5
  · rw [isWd_hit h5 (by decide)]
    go_enter Tryz.func77, Tryz.ntmps77
    go_wp2
    go_ret
    exact ⟨rfl, rfl⟩
  rcases Bool.eq_false_or_eq_true (s.toList == [116, 104, 101, 110]) with h6 | h6
  · rw [isWd_hit h6 (by decide)]
    go_enter Tryz.func77, Tryz.ntmps77
    go_wp2
    go_ret
    exact ⟨rfl, rfl⟩
  rcases Bool.eq_false_or_eq_true (s.toList == [110, 111, 116]) with h7 | h7
  · rw [isWd_hit h7 (by decide)]
    go_enter Tryz.func77, Tryz.ntmps77
    go_wp2
    go_ret
    exact ⟨rfl, rfl⟩
  rcases Bool.eq_false_or_eq_true (s.toList == [97, 110, 100]) with h8 | h8
  · rw [isWd_hit h8 (by decide)]
    go_enter Tryz.func77, Tryz.ntmps77
    go_wp2
    go_ret
    exact ⟨rfl, rfl⟩
  rcases Bool.eq_false_or_eq_true (s.toList == [111, 114]) with h9 | h9
  · rw [isWd_hit h9 (by decide)]
    go_enter Tryz.func77, Tryz.ntmps77
    go_wp2
    go_ret
    exact ⟨rfl, rfl⟩
  rcases Bool.eq_false_or_eq_true (s.toList == [105, 110]) with h10 | h10
  · rw [isWd_hit h10 (by decide)]
    go_enter Tryz.func77, Tryz.ntmps77
    go_wp2
    go_ret
    exact ⟨rfl, rfl⟩
  rcases Bool.eq_false_or_eq_true (s.toList == [119, 105, 116, 104, 105, 110]) with h11 | h11
  · rw [isWd_hit h11 (by decide)]
    go_enter Tryz.func77, Tryz.ntmps77
    go_wp2
    go_ret
    exact ⟨rfl, rfl⟩
  rcases Bool.eq_false_or_eq_true (s.toList == [115, 105, 122, 101]) with h12 | h12
  · rw [isWd_hit h12 (by decide)]
    go_enter Tryz.func77, Tryz.ntmps77
    go_wp2
    go_ret
    exact ⟨rfl, rfl⟩
  rcases Bool.eq_false_or_eq_true (s.toList == [116, 114, 117, 101]) with h13 | h13
  · rw [isWd_hit h13 (by decide)]
    go_enter Tryz.func77, Tryz.ntmps77
    go_wp2
    go_ret
    exact ⟨rfl, rfl⟩
  rcases Bool.eq_false_or_eq_true (s.toList == [102, 97, 108, 115, 101]) with h14 | h14
  · rw [isWd_hit h14 (by decide)]
    go_enter Tryz.func77, Tryz.ntmps77
    go_wp2
    go_ret
    exact ⟨rfl, rfl⟩
  rw [isWd_miss (s := s) (by
    intro x hx
    simp only [wordsL, List.mem_cons, List.not_mem_nil, or_false] at hx
    rcases hx with rfl | rfl | rfl | rfl | rfl | rfl | rfl | rfl | rfl | rfl | rfl | rfl | rfl | rfl | rfl <;> assumption)]
  go_enter Tryz.func77, Tryz.ntmps77
  go_wp2
  go_ret
  exact ⟨rfl, rfl⟩

end Go.Proofs.YtbdplgelkgngmaaGreatDoor
