/-
  The walks over markText. Own work.
-/
import Derived.Test.YthdoakeocaegkaaDoorByte1
namespace Go.Proofs.YthdoakeocaegkaaDoor
open Go.RowKit

/-- decimal digits, put ahead of what is there -/
def digs : Nat → Nat → ByteArray → ByteArray
  | 0, _, l => l
  | f + 1, k, l => if k = 0 then l else digs f (k / 10) (byte1 (48 + (k : Int) % 10) ++ l)

theorem digs_zero (f : Nat) (l : ByteArray) : digs f 0 l = l := by cases f <;> simp [digs]

theorem digs_succ (f k : Nat) (l : ByteArray) (h : k ≠ 0) : digs (f + 1) k l = digs f (k / 10) (byte1 (48 + (k : Int) % 10) ++ l) := by simp [digs, h]

theorem digs_len : ∀ (f k : Nat) (l : ByteArray), (digs f k l).size ≤ l.size + k
  | 0, _, _ => by simp [digs]
  | f + 1, k, l => by
    by_cases h : k = 0
    · simp [digs, h]
    · have := digs_len f (k / 10) (byte1 (48 + (k : Int) % 10) ++ l)
      rw [digs_succ f k l h]
      rw [size_app, byte1_size] at this
      omega

def markS (k : Nat) : ByteArray := if k = 0 then ⟨#[109, 48]⟩ else ⟨#[109]⟩ ++ digs (k + 1) k ⟨#[]⟩

theorem markS_size (k : Nat) : (markS k).size ≤ k + 2 := by
  unfold markS
  by_cases h : k = 0
  · simp [h, ByteArray.size]
  · have := digs_len (k + 1) k ⟨#[]⟩
    rw [if_neg h, size_app]
    simp only [ByteArray.size, List.size_toArray, List.length_nil, List.length_cons] at this ⊢
    omega

set_option maxHeartbeats 800000 in
theorem markText_any (k : Nat) (w : World) (hk : k ≤ 1073741824) :
    Calls Tryd.prog 14 #[.int .i64 k] w fun e w' => e = .returned (.string (markS k)) ∧ Below w.heap.size w w' := by
  by_cases h0 : k = 0
  · subst h0
    go_enter Tryd.func14, Tryd.ntmps14
    go_wp2
    go_ret
    exact ⟨rfl, Below.refl _ _⟩
  · have h1 : (0 : Int) < (k : Int) := by omega
    have Hm := hide (show markS k = ⟨#[109]⟩ ++ digs (k + 1) k ⟨#[]⟩ by rw [markS, if_neg h0])
    have hcv := conv1
    clear h0
    go_enter Tryd.func14, Tryd.ntmps14
    go_wp2
    go_loopw [0, 3] (fun i o wr => ∃ (m f : Nat) (l : ByteArray), i = .int .i64 m ∧ o = .string l ∧ m < f ∧ l.size + m ≤ k ∧ digs f m l = digs (k + 1) k ⟨#[]⟩ ∧ Below w.heap.size w wr) (fun i _ _ => (intOf i).toNat)
    case atStart => exact ⟨k, k + 1, ⟨#[]⟩, rfl, rfl, by omega, by simp [ByteArray.size], rfl, Below.refl _ _⟩
    case round =>
      obtain ⟨m, f, l, rfl, rfl, hmf, hl, hd, hb⟩ := hrel
      have hbs := hb.size
      by_cases hm : m = 0
      · subst hm
        rw [digs_zero] at hd
        have Hd := hide hd
        clear hd
        go_wp2
        go_ret
        exact ⟨by rw [unhide Hm, ← unhide Hd]; rfl, hb⟩
      · have hm' : (0 : Int) < (m : Int) := by omega
        obtain ⟨f', rfl⟩ : ∃ f', f = f' + 1 := ⟨f - 1, by omega⟩
        rw [digs_succ f' m l hm] at hd
        have Hd := hide hd
        clear hd
        have hs1 := byte1_size (48 + (m : Int) % 10)
        go_wp2
        go_roundw
        case rel => exact ⟨m / 10, f', _, by go_num, rfl, by omega, by rw [size_app, byte1_size]; omega, unhide Hd, hb.alloc hbs _⟩
        case measure => simp [intOf]; omega

theorem markText_int (x : Int) (w : World) (h0 : 0 ≤ x) (hk : x ≤ 1073741824) :
    Calls Tryd.prog 14 #[.int .i64 x] w fun e w' => e = .returned (.string (markS x.toNat)) ∧ Below w.heap.size w w' := by
  obtain ⟨n, rfl⟩ := Int.eq_ofNat_of_zero_le h0
  rw [Int.toNat_natCast]
  exact markText_any n w (by omega)

end Go.Proofs.YthdoakeocaegkaaDoor
