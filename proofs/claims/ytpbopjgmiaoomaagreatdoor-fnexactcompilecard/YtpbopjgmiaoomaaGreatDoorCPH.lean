/-
  The model's Compile. Own work.
-/
import Derived.Test.YtpbopjgmiaoomaaGreatDoorMXAR
import Derived.Test.YtpbopjgmiaoomaaGreatDoorMXAX
namespace Go.Proofs.YtpbopjgmiaoomaaGreatDoor
open Go.RowKit
set_option linter.unusedVariables false

theorem allI5_snoc (Es : List Ex) (t : St) : ∀ (L : List St) (k a : Nat), allI5 Es k a (L ++ [t]) = allI5 Es k a L ++ stI5 Es (k + letsN L) (a + (allI5 Es k a L).length) t
  | [], k, a => by simp [allI5, letsN]
  | s :: L, k, a => by
    rw [List.cons_append, allI5, allI5, allI5_snoc Es t L]
    have e : letsN (s :: L) = letN s + letsN L := by simp [letsN]
    rw [e, List.length_append, List.append_assoc, ← Nat.add_assoc, ← Nat.add_assoc]

theorem allI5_len (Es : List Ex) (L : List St) (h : ∀ t ∈ L, t.kind = 3 ∨ t.cond ≠ -1) : (allI5 Es 0 0 L).length ≤ szL Es L := by
  have h1 := (cpAll_len Es L ⟨[], 0, []⟩ h).1
  have h2 := cpAll_eq Es L ⟨[], 0, []⟩
  rw [h2] at h1
  have h3 : ((linkI ⟨[], 0, []⟩ (allI5 Es 0 0 L)).withS (0 + letsN L)).ins.length = (allI5 Es 0 0 L).length := by
    show (linkI ⟨[], 0, []⟩ (allI5 Es 0 0 L)).ins.length = _
    rw [linkI_len]
    exact Nat.zero_add _
  simp only [List.length_nil, Nat.zero_add] at h1 h3
  omega

theorem letsN_snoc (L : List St) (t : St) : letsN (L ++ [t]) = letsN L + letN t := by
  simp only [letsN, List.map_append, List.sum_append, List.map_cons, List.map_nil, List.sum_cons, List.sum_nil, Nat.add_zero]

theorem letsN_le : ∀ L : List St, letsN L ≤ L.length
  | [] => by simp [letsN]
  | t :: L => by
    have := letsN_le L
    have e : letsN (t :: L) = letN t + letsN L := by simp [letsN]
    rw [e, List.length_cons, letN]
    split <;> omega

theorem st_when0 (Es : List Ex) (k a : Nat) (nm : ByteArray) (cd : Int) : stI5 Es k a ⟨2, nm, cd, -1⟩ = treeI (exAt Es cd) a ++ [⟨23, (a : Int) + (sizeI (exAt Es cd) : Nat) + 1 + 1, zeroV⟩] ++ [⟨24, 0, zeroV⟩] := by
  simp only [stI5, decI5, treeI_len]
  rfl

theorem st_when (Es : List Ex) (k a : Nat) (nm : ByteArray) (cd gr : Int) (h : gr ≠ -1) : stI5 Es k a ⟨2, nm, cd, gr⟩ = treeI (exAt Es cd) a ++ [⟨23, (a : Int) + (sizeI (exAt Es cd) : Nat) + 1 + ((sizeI (exAt Es gr) : Nat) + 1), zeroV⟩] ++ (treeI (exAt Es gr) (a + sizeI (exAt Es cd) + 1) ++ [⟨25, 0, zeroV⟩]) := by
  simp only [stI5, decI5, treeI_len, if_neg h, List.length_append, List.length_cons, List.length_nil]
  rfl

theorem st_else0 (Es : List Ex) (k a : Nat) (nm : ByteArray) : stI5 Es k a ⟨3, nm, -1, -1⟩ = [⟨24, 0, zeroV⟩] := by
  simp only [stI5, decI5]
  rfl

theorem st_else (Es : List Ex) (k a : Nat) (nm : ByteArray) (gr : Int) (h : gr ≠ -1) : stI5 Es k a ⟨3, nm, -1, gr⟩ = treeI (exAt Es gr) a ++ [⟨25, 0, zeroV⟩] := by
  simp only [stI5, decI5, if_neg h]
  rfl

/-- a list's instructions, to be appended -/
theorem InsO.src {w0 w : World} {B n c : Nat} {x : Option Addr} {L : List I5} (h : InsO w0 B (.slice x n c) L w) (h0 : 0 < n) : ∃ g K, x = some ⟨g, 0, none⟩ ∧ K.length = n ∧ K.map J5.i = L ∧ NmO w0 K ∧ ∀ j u, (K.flatMap J5.cs)[j]? = some u → w.cell? ((⟨g, 0, none⟩ : Addr).add j) = some u := by
  obtain ⟨x', c', e, hx⟩ := h.form
  have e2 : n = L.length := by injection e
  have e1 : x = x' := by injection e
  obtain ⟨g, K, h1, h2, h3, h4⟩ := hx (by omega)
  exact ⟨g, K, e1.trans h1, by rw [e2, ← h2, List.length_map], h2, h3, h4⟩

/-- what is no instruction of the model's lies as it lay -/
def KJ (w w' : World) : Prop := ∀ b cs t, Row w b cs t → t ≠ 59 → Row w' b cs t

theorem KJ.trans {a b c : World} (h : KJ a b) (g : KJ b c) : KJ a c := fun k cs t R h1 => g k cs t (h k cs t R h1) h1

theorem KJ.of_below {w w' : World} (h : Below w.heap.size w w') : KJ w w' := fun k cs t R _ => R.after h (Nat.le_refl _)

theorem InsO.keepB {w0 w w' : World} {B : Nat} {v : Value} {L : List I5} (h : InsO w0 B v L w) (hd : ∀ q, v.ownBlock = some q → w'.heap[q]? = w.heap[q]?) : InsO w0 B v L w' := by
  obtain ⟨J, h1, h2, h3⟩ := h
  exact ⟨J, h1, h2, owns_blocks h3 hd⟩

theorem InsO.lt {w0 w : World} {B : Nat} {v : Value} {L : List I5} (h : InsO w0 B v L w) : ∀ q, v.ownBlock = some q → B ≤ q ∧ q < w.heap.size := by
  obtain ⟨J, h1, h2, h3⟩ := h
  exact h3.lt

/-- instructions behind instructions; what else is kept -/
theorem wpList_insK {w : World} {ops : Array Oper} {rest : List Oper} {o : Oper} {a : Act} {Q : Exit → Act → World → Prop} (hgd : o.guard = none) (s x : Operand)
    (ho : o.op = .call { callee := .builtin .append, args := #[s, x], argTypes := #[47, 47] }) (w0 : World) (B : Nat) (v : Value) (L : List I5) (hs : a.eval s = v) (hv : InsO w0 B v L w)
    (ad : Addr) (m c : Nat) (K : List J5) (hx : a.eval x = .slice (some ad) m c) (hm : K.length = m) (hK : NmO w0 K) (hnews : ∀ j u, (K.flatMap J5.cs)[j]? = some u → w.cell? (ad.add j) = some u) (hb : L.length + m ≤ 4194304) (hB : B ≤ w.heap.size)
    (h : ∀ x' n' c' w', InsO w0 B (.slice x' n' c') (L ++ K.map J5.i) w' → Below B w w' → KJ w w' → (∀ q, q < w.heap.size → v.ownBlock ≠ some q → w'.heap[q]? = w.heap[q]?) → Hid (n' = L.length + m) → wpList Tryz.prog ops Q rest (a.put o.dst (.slice x' n' c')) w') : wpList Tryz.prog ops Q (o :: rest) a w := by
  obtain ⟨ji, hji, jz0, jz1, jz2⟩ := info_parts infoJ5
  obtain ⟨J, h1, h2, h3⟩ := hv
  have e : J.length = L.length := by rw [← h1, List.length_map]
  refine wpList_append_own w hgd s x 47 ho B 59 ji _ 6 72 Tryz.underlying47 hji jz0 jz1 jz2 rfl (by decide) v J.length (J.flatMap J5.cs) hs h3 ad m c (K.flatMap J5.cs) hx (by rw [flat6_len, hm]) hnews (fun u hu => ?_) (by unfold maxLen; omega) (by omega) hB ?_
  · obtain ⟨k, _, hk⟩ := List.mem_flatMap.1 hu
    exact k.one u hk
  · intro v' w' hO hg _
    obtain ⟨x', c', rfl, _⟩ := owns_form2 hO
    rw [e]
    refine h x' _ c' w' ⟨J ++ K, by rw [List.map_append, h1], fun j hj => (List.mem_append.1 hj).elim (h2 j) (hK j), ?_⟩ ((Below.refl B w).grown hg hB (fun q hq => (h3.lt q hq).1)) (fun k cs t R ht => ⟨(hg.block k R.lt (fun e => own_ne_row R h3 ht e.symm)).trans R.out⟩) (fun q hq hn => hg.block q hq (fun e => hn e.symm)) (hide rfl)
    rw [List.length_append, List.flatMap_append, hm, e]
    rw [e] at hO
    exact hO

end Go.Proofs.YtpbopjgmiaoomaaGreatDoor
