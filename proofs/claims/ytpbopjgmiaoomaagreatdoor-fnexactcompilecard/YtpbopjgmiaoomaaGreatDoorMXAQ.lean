/-
  SFN0, CPA, CPB, CPD, ZT2, MKN, DWJ0, ZV. Own work.
-/
import Derived.Test.YtpbopjgmiaoomaaGreatDoorMXAK
import Derived.Test.YtpbopjgmiaoomaaGreatDoorMXAC
import Derived.Test.YtpbopjgmiaoomaaGreatDoorMXAP
import Derived.Test.YtpbopjgmiaoomaaGreatDoorMXAF
import Derived.Test.YtpbopjgmiaoomaaGreatDoorMXAD
import Derived.Test.YtpbopjgmiaoomaaGreatDoorMXAU
import Derived.Test.YtpbopjgmiaoomaaGreatDoorMXAW
import Derived.Test.YtpbopjgmiaoomaaGreatDoorMXAL
import Derived.Test.YtpbopjgmiaoomaaGreatDoorMXAY
import Derived.Deep.Slices
import Derived.OpenShut
namespace Go.Proofs.YtpbopjgmiaoomaaGreatDoor
open Go.RowKit
set_option linter.unusedVariables false

theorem rows5_of {w : World} {B : Nat} {ka : Option Addr} {m kc : Nat} {vs : List K5} (h : w.ownsRow B 54 5 (.slice ka m kc) m (vs.flatMap K5.cs)) (hl : vs.length = m) : Rows5 w ka vs := fun j hj => by
  obtain ⟨x, c, e, hx⟩ := owns_form2 h
  cases e
  obtain ⟨g, rfl, _, hc⟩ := hx (by omega)
  refine ⟨g, 0, rfl, (h.lt g rfl).2, fun r hr => ?_⟩
  have e1 := flat5_at vs j hj r hr
  have hl5 : (vs[j].cs).length = 5 := rfl
  have e2 : (vs[j].cs)[r]? = some ((vs[j].cs)[r]'(by omega)) := List.getElem?_eq_getElem _
  rw [e2] at e1 ⊢
  rw [Nat.zero_add]
  exact hc _ _ e1

theorem infoL4 : (Tryz.prog.info? 54).map (fun i => (i.zero, i.size, i.bytes)) = some (some (.agg #[.int .i64 0, .int .i64 0, .string ByteArray.empty, .slice none 0 0, .slice none 0 0]), 5, 80) := by kernel_rfl

end Go.Proofs.YtpbopjgmiaoomaaGreatDoor

namespace Go.Proofs.YtpbopjgmiaoomaaGreatDoor
open Go.RowKit
set_option linter.unusedVariables false

/-- an instruction of the model's as it lies -/
structure J5 where
  i : I5
  a : Option Addr
  n : Nat
  c : Nat

def J5.cs (j : J5) : List Value := [.int .i64 j.i.op, .int .i64 j.i.arg, .int .i64 j.i.val.kind, .int .i64 j.i.val.num, .string j.i.val.text, .slice j.a j.n j.c]

theorem flat6_at (vs : List J5) (j : Nat) (h : j < vs.length) : ∀ r, r < 6 → (vs.flatMap J5.cs)[j * 6 + r]? = (vs[j].cs)[r]? := by
  induction vs generalizing j with
  | nil => simp at h
  | cons k vs ih =>
    intro r hr
    have hl : k.cs.length = 6 := rfl
    cases j with
    | zero =>
      rw [List.flatMap_cons, List.getElem?_append_left (by rw [hl]; omega)]
      simp
    | succ j =>
      rw [List.flatMap_cons, List.getElem?_append_right (by rw [hl]; omega), hl, show (j + 1) * 6 + r - 6 = j * 6 + r by omega, ih j (by simpa using h) r hr]
      simp

theorem flat6_len : ∀ (vs : List J5), (vs.flatMap J5.cs).length = vs.length * 6
  | [] => rfl
  | k :: vs => by
    have hl : k.cs.length = 6 := rfl
    rw [List.flatMap_cons, List.length_append, flat6_len vs, hl, List.length_cons]
    omega

/-- texts, and where they lie nowhere there is no room -/
def StZ (w : World) (a : Option Addr) (n c : Nat) (ss : List ByteArray) : Prop := Strs w a n c ss ∧ (a = none → c = 0)

/-- the names lie where they lay at first -/
def NmO (w0 : World) (J : List J5) : Prop := ∀ j ∈ J, StZ w0 j.a j.n j.c j.i.val.names

/-- a list of instructions of the call's own -/
def InsO (w0 : World) (B : Nat) (v : Value) (L : List I5) (w : World) : Prop := ∃ J : List J5, J.map J5.i = L ∧ NmO w0 J ∧ w.ownsRow B 59 6 v J.length (J.flatMap J5.cs)

theorem InsO.below {w0 w w' : World} {B : Nat} {v : Value} {L : List I5} (h : InsO w0 B v L w) (hb : Below w.heap.size w w') : InsO w0 B v L w' := by
  obtain ⟨J, h1, h2, h3⟩ := h
  exact ⟨J, h1, h2, ownsRow_below h3 hb (Nat.le_refl _)⟩

theorem InsO.nil (w0 : World) (B : Nat) (w : World) : InsO w0 B (.slice none 0 0) [] w := ⟨[], rfl, fun j hj => absurd hj (by simp), World.ownsRow_nil _ _ _ _⟩

theorem StZ.none0 (w : World) : StZ w none 0 0 [] := ⟨⟨rfl, Nat.le_refl _, Nat.zero_le _, fun j hj => absurd hj (by simp), fun j hj => absurd hj (by simp)⟩, fun _ => rfl⟩

/-- an instruction without a value -/
def plainJ (op arg : Int) : J5 := ⟨⟨op, arg, zeroV⟩, none, 0, 0⟩

theorem infoJ5 : (Tryz.prog.info? 59).map (fun i => (i.zero, i.size, i.bytes)) = some (some (.agg #[.int .i64 0, .int .i64 0, .int .i64 0, .int .i64 0, .string ByteArray.empty, .slice none 0 0]), 6, 72) := by kernel_rfl

def K5.val (k : K5) : Value := .agg #[.int .i64 k.op, .int .i64 k.num, .string k.text, .slice k.an k.nn k.cn, .slice k.ka k.kn k.kc]

/-- how long, by the kids -/
def sizeL (op : Int) (ns : List Nat) : Nat := 1 + ns.sum + (if op = 25 ∨ op = 26 then 2 else if op = 27 then 1 else 0)

theorem sum_take_le : ∀ (ns : List Nat) (j : Nat), (ns.take j).sum ≤ ns.sum
  | [], j => by simp
  | n :: ns, 0 => by simp
  | n :: ns, j + 1 => by have := sum_take_le ns j; simp only [List.take_succ_cons, List.sum_cons]; omega

set_option maxRecDepth 100000 in
set_option maxHeartbeats 3200000 in
theorem size_rec (op num : Int) (text : ByteArray) (an : Option Addr) (nn cn : Nat) (ka : Option Addr) (m kc : Nat) (hm : m ≤ 1048576) (vs : List K5) (hvs : vs.length = m) (ns : List Nat) (hns : ns.length = m) (hsum : ns.sum ≤ 1048576) (w : World) (hr : Rows5 w ka vs)
    (V : ∀ j, (h1 : j < vs.length) → (h2 : j < ns.length) → ∀ W, Below w.heap.size w W → Calls Tryz.prog 45 #[.agg #[.int .i64 vs[j].op, .int .i64 vs[j].num, .string vs[j].text, .slice vs[j].an vs[j].nn vs[j].cn, .slice vs[j].ka vs[j].kn vs[j].kc]] W fun r w' => r = .returned (.int .i64 (ns[j] : Nat)) ∧ Below W.heap.size W w') :
    Calls Tryz.prog 45 #[.agg #[.int .i64 op, .int .i64 num, .string text, .slice an nn cn, .slice ka m kc]] w fun r w' => r = .returned (.int .i64 (sizeL op ns : Nat)) ∧ Below w.heap.size w w' := by
  have R0 := Row.new w #[.int .i64 op, .int .i64 num, .string text, .slice an nn cn, .slice ka m kc] 54
  have B0 := (Below.refl w.heap.size w).alloc (Nat.le_refl _) (.cells #[.int .i64 op, .int .i64 num, .string text, .slice an nn cn, .slice ka m kc] 54)
  have HV := hide V
  have HM := hide hvs
  have HB := hide hns
  have HSM := hide hsum
  have H0 := hr.below B0 (Nat.le_refl _)
  clear V hvs hns hr hsum
  go_enter Tryz.func45, Tryz.ntmps45
  go_wp2_with fail
  generalize w.alloc (.cells #[.int .i64 op, .int .i64 num, .string text, .slice an nn cn, .slice ka m kc] 54) = w1 at R0 B0 H0 ⊢
  go_loopw [3, 9] (fun v i wr => ∃ j : Nat, j ≤ m ∧ i = .int .i64 j ∧ v = .int .i64 (1 + (ns.take j).sum : Nat) ∧ Below w1.heap.size w1 wr) (fun _ i _ => m - (intOf i).toNat)
  case atStart => exact ⟨0, Nat.zero_le _, rfl, rfl, Below.refl _ _⟩
  case round =>
    obtain ⟨j, hj, rfl, rfl, D1⟩ := hrel
    by_cases hlt : j < m
    · have ilt : (j : Int) < (m : Int) := by omega
      have j1 : j < vs.length := by rw [unhide HM]; exact hlt
      have j2 : j < ns.length := by rw [unhide HB]; exact hlt
      obtain ⟨b, off, rfl, hb, hc⟩ := (H0.below D1 (Nat.le_refl _)) j j1
      have c0 := hc 0 (by decide)
      have c1 := hc 1 (by decide)
      have c2 := hc 2 (by decide)
      have c3 := hc 3 (by decide)
      have c4 := hc 4 (by decide)
      simp only [K5.cs, Nat.add_zero, List.getElem?_cons_zero, List.getElem?_cons_succ] at c0 c1 c2 c3 c4
      have HC := hide (unhide HV j j1 j2)
      have hs1 : (ns.take (j + 1)).sum = (ns.take j).sum + ns[j] := by rw [List.take_succ_eq_append_getElem j2, List.sum_append]; simp
      have hs2 : (ns.take (j + 1)).sum ≤ ns.sum := sum_take_le ns _
      have HS := hide (And.intro hs1 (Nat.le_trans hs2 (unhide HSM)))
      have Hlt := hide hlt
      generalize vs[j] = k at c0 c1 c2 c3 c4 HC
      generalize ns[j] = nj at HC HS
      generalize (ns.take j).sum = sj at HS ⊢
      have hb1 : ((1 + sj : Nat) : Int) ≤ 1048577 := by have := unhide HS; omega
      have hb0 : (0 : Int) ≤ ((1 + sj : Nat) : Int) := by omega
      have hb2 : ((1 + sj : Nat) : Int) + (nj : Int) ≤ 1048577 := by have := unhide HS; omega
      obtain ⟨kop, knum, ktext, kan, knn, kcn, kka, kkn, kkc⟩ := k
      dsimp only at c0 c1 c2 c3 c4 HC
      clear hc hlt j1 j2 hs1 hs2
      have B2 := B0.trans (D1.mono B0.size)
      have C2 := (Below.refl wr.heap.size wr).alloc (Nat.le_refl _) (.cells #[.int .i64 kop, .int .i64 knum, .string ktext, .slice kan knn kcn, .slice kka kkn kkc] 54)
      have B3 := B2.trans (C2.mono B2.size)
      obtain ⟨d0, d1, d2, d3, d4, _⟩ := row5 (Row.new wr #[.int .i64 kop, .int .i64 knum, .string ktext, .slice kan knn kcn, .slice kka kkn kkc] 54)
      go_wp2_with fail
      refine (unhide HC _ B3).mono ?_
      rintro r w3 ⟨rfl, hb3⟩
      have D3 := (D1.trans (C2.mono D1.size)).trans (hb3.mono (Nat.le_trans D1.size C2.size))
      have HS2 := hide (show ((1 + sj : Nat) : Int) + (nj : Int) = ((1 + (ns.take (j + 1)).sum : Nat) : Int) by rw [(unhide HS).1]; omega)
      dsimp only
      go_wp2_with fail
      go_roundw
      case rel => exact ⟨j + 1, unhide Hlt, by go_num, by rw [← unhide HS2]; first | rfl | (congr 1; omega), D3⟩
      case measure => have := unhide Hlt; simp [intOf]; omega
    · have e : j = m := by omega
      subst e
      have HX := hide (show (ns.take j).sum = ns.sum by rw [List.take_of_length_le (by rw [unhide HB]; exact Nat.le_refl _)])
      have hb1 : ((1 + (ns.take j).sum : Nat) : Int) ≤ 1048577 := by have := unhide HX; have := unhide HSM; omega
      have hb0 : (0 : Int) ≤ ((1 + (ns.take j).sum : Nat) : Int) := by omega
      have R1 := R0.after D1 (Nat.le_refl _)
      obtain ⟨t0, t1, t2, t3, t4, _⟩ := row5 R1
      have B2 := B0.trans (D1.mono B0.size)
      generalize (ns.take j).sum = sj at HX hb1 hb0 ⊢
      by_cases h25 : op = 25
      · subst h25
        have HZ := hide (show sizeL 25 ns = 1 + sj + 2 by rw [sizeL, if_pos (.inl rfl), unhide HX])
        go_wp2_with fail
        go_ret
        exact ⟨by rw [unhide HZ]; rfl, B2⟩
      · by_cases h26 : op = 26
        · subst h26
          have HZ := hide (show sizeL 26 ns = 1 + sj + 2 by rw [sizeL, if_pos (.inr rfl), unhide HX])
          go_wp2_with fail
          go_ret
          exact ⟨by rw [unhide HZ]; rfl, B2⟩
        · have e25 : (op == 25) = false := beq_eq_false_iff_ne.2 h25
          have e26 : (op == 26) = false := beq_eq_false_iff_ne.2 h26
          by_cases h27 : op = 27
          · subst h27
            have HZ := hide (show sizeL 27 ns = 1 + sj + 1 by rw [sizeL, if_neg (by decide), if_pos rfl, unhide HX])
            go_wp2_with fail
            go_ret
            exact ⟨by rw [unhide HZ]; rfl, B2⟩
          · have e27 : (op == 27) = false := beq_eq_false_iff_ne.2 h27
            have HZ := hide (show sizeL op ns = 1 + sj by rw [sizeL, if_neg (fun h => h.elim h25 h26), if_neg h27, unhide HX]; rfl)
            clear h25 h26 h27
            go_wp2_with fail
            go_ret
            exact ⟨by rw [unhide HZ]; rfl, B2⟩

end Go.Proofs.YtpbopjgmiaoomaaGreatDoor

namespace Go.Proofs.YtpbopjgmiaoomaaGreatDoor
open Go.RowKit
set_option linter.unusedVariables false

set_option maxRecDepth 100000 in
theorem l5op_any (op : Int) (h : 8 ≤ op ∧ op ≤ 26) (w : World) : Calls Tryz.prog 47 #[.int .i64 op] w fun r w' => r = .returned (.int .i64 (op - 3)) ∧ w' = w := by
  have h1 := h.1
  have h2 := h.2
  have HE := hide (And.intro h1 h2)
  by_cases hl : op ≤ 10
  · go_enter Tryz.func47, Tryz.ntmps47
    go_wp2_with fail
    go_ret
    refine ⟨?_, rfl⟩
    show Ending.returned (.int .i64 _) = _
    congr 2
    omega
  · go_enter Tryz.func47, Tryz.ntmps47
    go_wp2_with fail
    go_ret
    refine ⟨?_, rfl⟩
    show Ending.returned (.int .i64 _) = _
    congr 2
    omega

theorem own_lowJ {w : World} {base base' : Nat} {e : TypeId} {size : Nat} {v : Value} {n : Nat} {xs : List Value} (h : w.ownsRow base e size v n xs) (hb : base' ≤ base) : w.ownsRow base' e size v n xs := by
  refine ⟨h.1, ?_⟩
  rcases h.2 with h2 | ⟨g, cap, cur, hv, h3, h4⟩
  · exact .inl h2
  · exact .inr ⟨g, cap, cur, hv, Nat.le_trans hb h3, h4⟩

theorem InsO.low {w0 w : World} {B B' : Nat} {v : Value} {L : List I5} (h : InsO w0 B v L w) (hb : B' ≤ B) : InsO w0 B' v L w := by
  obtain ⟨J, h1, h2, h3⟩ := h
  exact ⟨J, h1, h2, own_lowJ h3 hb⟩

/-- where it lies -/
theorem InsO.form {w0 w : World} {B : Nat} {v : Value} {L : List I5} (h : InsO w0 B v L w) : ∃ x c, v = .slice x L.length c ∧ (0 < L.length → ∃ g K, x = some ⟨g, 0, none⟩ ∧ K.map J5.i = L ∧ NmO w0 K ∧ ∀ j u, (K.flatMap J5.cs)[j]? = some u → w.cell? ((⟨g, 0, none⟩ : Addr).add j) = some u) := by
  obtain ⟨J, h1, h2, h3⟩ := h
  have e : J.length = L.length := by rw [← h1, List.length_map]
  obtain ⟨x, c, rfl, hx⟩ := owns_form2 h3
  rw [e]
  refine ⟨x, c, rfl, fun h0 => ?_⟩
  obtain ⟨g, rfl, _, hc⟩ := hx (by omega)
  refine ⟨g, J, rfl, h1, h2, fun j u hu => ?_⟩
  rw [show (⟨g, 0, none⟩ : Addr).add j = ⟨g, j, none⟩ by by_cases e : j = 0 <;> simp [Addr.add, e]]
  exact hc j u hu

theorem J5.one (j : J5) : ∀ u ∈ j.cs, u.oneCell' = true := fun u hu => by
  simp only [J5.cs, List.mem_cons, List.not_mem_nil, or_false] at hu
  rcases hu with rfl | rfl | rfl | rfl | rfl | rfl <;> rfl

/-- instructions behind instructions -/
theorem wpList_ins {w : World} {ops : Array Oper} {rest : List Oper} {o : Oper} {a : Act} {Q : Exit → Act → World → Prop} (hgd : o.guard = none) (s x : Operand)
    (ho : o.op = .call { callee := .builtin .append, args := #[s, x], argTypes := #[47, 47] }) (w0 : World) (B : Nat) (v : Value) (L : List I5) (hs : a.eval s = v) (hv : InsO w0 B v L w)
    (ad : Addr) (m c : Nat) (K : List J5) (hx : a.eval x = .slice (some ad) m c) (hm : K.length = m) (hK : NmO w0 K) (hnews : ∀ j u, (K.flatMap J5.cs)[j]? = some u → w.cell? (ad.add j) = some u) (hb : L.length + m ≤ 4194304) (hB : B ≤ w.heap.size)
    (h : ∀ x' n' c' w', InsO w0 B (.slice x' n' c') (L ++ K.map J5.i) w' → Below B w w' → wpList Tryz.prog ops Q rest (a.put o.dst (.slice x' n' c')) w') : wpList Tryz.prog ops Q (o :: rest) a w := by
  obtain ⟨ji, hji, jz0, jz1, jz2⟩ := info_parts infoJ5
  obtain ⟨J, h1, h2, h3⟩ := hv
  have e : J.length = L.length := by rw [← h1, List.length_map]
  refine wpList_append_own w hgd s x 47 ho B 59 ji _ 6 72 Tryz.underlying47 hji jz0 jz1 jz2 rfl (by decide) v J.length (J.flatMap J5.cs) hs h3 ad m c (K.flatMap J5.cs) hx (by rw [flat6_len, hm]) hnews (fun u hu => ?_) (by unfold maxLen; omega) (by omega) hB ?_
  · obtain ⟨k, _, hk⟩ := List.mem_flatMap.1 hu
    exact k.one u hk
  · intro v' w' hO hg _
    obtain ⟨x', c', rfl, _⟩ := owns_form2 hO
    rw [e]
    refine h x' _ c' w' ⟨J ++ K, by rw [List.map_append, h1], fun j hj => (List.mem_append.1 hj).elim (h2 j) (hK j), ?_⟩ ((Below.refl B w).grown hg hB (fun q hq => (h3.lt q hq).1))
    rw [List.length_append, List.flatMap_append, hm, e]
    rw [e] at hO
    exact hO

/-- one instruction, made just now -/
theorem six_cell (w : World) (k : J5) (b : Nat) (hb : b = w.heap.size) : ∀ j u, ([k].flatMap J5.cs)[j]? = some u → (w.alloc (.cells #[.int .i64 k.i.op, .int .i64 k.i.arg, .int .i64 k.i.val.kind, .int .i64 k.i.val.num, .string k.i.val.text, .slice k.a k.n k.c] 59)).cell? ((⟨b, 0, none⟩ : Addr).add j) = some u := fun j u h => by
  subst hb
  have hadd : (⟨w.heap.size, 0, none⟩ : Addr).add j = ⟨w.heap.size, j, none⟩ := by by_cases e : j = 0 <;> simp [Addr.add, e]
  rw [hadd, (Row.new w _ 59).cell j, ← h]
  simp [J5.cs]

theorem NmO.one {w0 : World} {k : J5} (h : StZ w0 k.a k.n k.c k.i.val.names) : NmO w0 [k] := fun j hj => by
  rw [List.mem_singleton.1 hj]; exact h

theorem NmO.plain (w0 : World) (op arg : Int) : NmO w0 [plainJ op arg] := NmO.one (StZ.none0 w0)

/-- what a kid's tree says -/
def KiC (w0 w : World) (k : K5) (e : Ex) : Prop := ∀ W, Below w.heap.size w W → ∀ at_ : Nat, at_ + sizeI e ≤ 1048576 → Calls Tryz.prog 17 #[.agg #[.int .i64 k.op, .int .i64 k.num, .string k.text, .slice k.an k.nn k.cn, .slice k.ka k.kn k.kc], .int .i64 at_] W fun r w' => (∃ v, r = .returned v ∧ InsO w0 W.heap.size v (treeI e at_) w') ∧ Below W.heap.size W w'

def KiS (w : World) (k : K5) (e : Ex) : Prop := ∀ W, Below w.heap.size w W → Calls Tryz.prog 45 #[.agg #[.int .i64 k.op, .int .i64 k.num, .string k.text, .slice k.an k.nn k.cn, .slice k.ka k.kn k.kc]] W fun r w' => r = .returned (.int .i64 (sizeI e)) ∧ Below W.heap.size W w'

set_option maxRecDepth 100000 in
set_option maxHeartbeats 1600000 in
theorem tree_un (w0 : World) (op num : Int) (text : ByteArray) (an : Option Addr) (nn cn : Nat) (ka : Option Addr) (kc : Nat) (k0 : K5) (i : Int) (e0 : Ex) (hop : 8 ≤ op ∧ op ≤ 10) (at_ : Nat) (hb : at_ + sizeI (.un i op e0) ≤ 1048576) (w : World) (hr : Rows5 w ka [k0]) (T0 : KiC w0 w k0 e0) :
    Calls Tryz.prog 17 #[.agg #[.int .i64 op, .int .i64 num, .string text, .slice an nn cn, .slice ka 1 kc], .int .i64 at_] w fun r w' => (∃ v, r = .returned v ∧ InsO w0 w.heap.size v (treeI (.un i op e0) at_) w') ∧ Below w.heap.size w w' := by
  rw [sizeI] at hb
  have B0 := (Below.refl w.heap.size w).alloc (Nat.le_refl _) (.cells #[.int .i64 op, .int .i64 num, .string text, .slice an nn cn, .slice ka 1 kc] 54)
  have R0 := Row.new w #[.int .i64 op, .int .i64 num, .string text, .slice an nn cn, .slice ka 1 kc] 54
  obtain ⟨b, off, rfl, hbl, hc⟩ := (hr.below B0 (Nat.le_refl _)) 0 (by simp)
  have c0 := hc 0 (by decide)
  have c1 := hc 1 (by decide)
  have c2 := hc 2 (by decide)
  have c3 := hc 3 (by decide)
  have c4 := hc 4 (by decide)
  simp only [K5.cs, List.getElem_cons_zero, Nat.zero_mul, Nat.add_zero, List.getElem?_cons_zero, List.getElem?_cons_succ] at c0 c1 c2 c3 c4
  have HT := hide (fun W hW => T0 W hW at_ (by omega))
  have e6 : (op == 6) = false := beq_eq_false_iff_ne.2 (by omega)
  have e7 : (op == 7) = false := beq_eq_false_iff_ne.2 (by omega)
  have e25 : (op == 25) = false := beq_eq_false_iff_ne.2 (by omega)
  have e26 : (op == 26) = false := beq_eq_false_iff_ne.2 (by omega)
  have e27 : (op == 27) = false := beq_eq_false_iff_ne.2 (by omega)
  have hl0 := treeI_len e0 at_
  have HE := hide (show treeI (.un i op e0) at_ = treeI e0 at_ ++ [(plainJ (op - 3) 0).i] from rfl)
  rw [unhide HE]
  have HO := hide (l5op_any op (by omega))
  generalize treeI e0 at_ = L0 at HT hl0 HE ⊢
  have hlb : L0.length ≤ 1048576 := by omega
  have HL0 := hide hl0
  clear hc hr T0 hop hb hl0
  go_enter Tryz.func17, Tryz.ntmps17
  go_wp2_with fail
  refine (unhide HT _ B0).mono ?_
  rintro r w1 ⟨⟨v0, rfl, I0⟩, hb1⟩
  have R1 := R0.after hb1 (Nat.le_refl _)
  obtain ⟨t0, t1, t2, t3, t4, _⟩ := row5 R1
  obtain ⟨x0, cx0, rfl, _⟩ := I0.form
  have B1 := B0.trans (hb1.mono B0.size)
  have I1 := I0.low (B' := w.heap.size) B0.size
  have hz1 := B1.size
  clear c0 c1 c2 c3 c4 HT I0
  dsimp only
  go_wp2_with fail
  refine (unhide HO w1).mono ?_
  rintro r w2 ⟨rfl, hw2⟩
  rw [hw2]
  clear hw2 HO
  dsimp only
  have C2 := (Below.refl w1.heap.size w1).alloc (Nat.le_refl _) (.cells #[.int .i64 (op - 3), .int .i64 0, .int .i64 0, .int .i64 0, .string ⟨#[]⟩, .slice none 0 0] 59)
  have I2 := I1.below C2
  go_wp2_with (at_builtin; refine wpList_ins rfl _ _ rfl w0 w.heap.size _ L0 rfl I2 ⟨w1.heap.size, 0, none⟩ 1 1 [plainJ (op - 3) 0] rfl rfl (NmO.plain _ _ _) (six_cell w1 (plainJ (op - 3) 0) _ rfl) (by omega) (by simp; omega) ?_)
  intro x3 n3 cx3 w3 I3 D3
  go_wp2_with fail
  go_ret
  exact ⟨⟨_, rfl, I3⟩, (B1.trans (C2.mono hz1)).trans D3⟩

end Go.Proofs.YtpbopjgmiaoomaaGreatDoor

namespace Go.Proofs.YtpbopjgmiaoomaaGreatDoor
open Go.RowKit
set_option linter.unusedVariables false

set_option maxRecDepth 100000 in
theorem l5push_any (k n : Int) (s : ByteArray) (a : Option Addr) (m c : Nat) (w : World) : Calls Tryz.prog 43 #[.agg #[.int .i64 k, .int .i64 n, .string s, .slice a m c]] w fun r w' => r = .returned (.agg #[.int .i64 1, .int .i64 0, .int .i64 k, .int .i64 n, .string s, .slice a m c]) ∧ Below w.heap.size w w' := by
  have RR := Row.new (w.alloc (.cells #[.int .i64 k, .int .i64 n, .string s, .slice a m c] 57)) #[.int .i64 1, .int .i64 0, .int .i64 k, .int .i64 n, .string s, .slice a m c] 59
  have c0 := RR.cell 0
  have c1 := RR.cell 1
  have c2 := RR.cell 2
  have c3 := RR.cell 3
  have c4 := RR.cell 4
  have c5 := RR.cell 5
  simp only [World.size_alloc] at c0 c1 c2 c3 c4 c5
  go_enter Tryz.func43, Tryz.ntmps43
  go_wp2_with fail
  refine bodyPost_ret (v := .agg #[.int .i64 1, .int .i64 0, .int .i64 k, .int .i64 n, .string s, .slice a m c]) (by simp [results, Tryz.results43, go_sem, c0, c1, c2, c3, c4, c5]) rfl ⟨rfl, ?_⟩
  exact ((Below.refl w.heap.size w).alloc (Nat.le_refl _) _).alloc (by simp) _

theorem row6J {w : World} {b : Nat} {v0 v1 v2 v3 v4 v5 : Value} {t : TypeId} (R : Row w b #[v0, v1, v2, v3, v4, v5] t) : w.cell? ⟨b, 0, none⟩ = some v0 ∧ w.cell? ⟨b, 1, none⟩ = some v1 ∧ w.cell? ⟨b, 2, none⟩ = some v2 ∧ w.cell? ⟨b, 3, none⟩ = some v3 ∧ w.cell? ⟨b, 4, none⟩ = some v4 ∧ w.cell? ⟨b, 5, none⟩ = some v5 := ⟨R.cell 0, R.cell 1, R.cell 2, R.cell 3, R.cell 4, R.cell 5⟩

set_option maxRecDepth 100000 in
set_option maxHeartbeats 1600000 in
theorem l5bool_any (n : Int) (w : World) : Calls Tryz.prog 46 #[.int .i64 n] w fun r w' => r = .returned (.agg #[.int .i64 1, .int .i64 0, .int .i64 1, .int .i64 n, .string ⟨#[]⟩, .slice none 0 0]) ∧ Below w.heap.size w w' := by
  go_enter Tryz.func46, Tryz.ntmps46
  go_wp2_with fail
  refine (l5push_any 1 n ⟨#[]⟩ none 0 0 _).mono ?_
  rintro r w1 ⟨rfl, hb1⟩
  have B0 := (Below.refl w.heap.size w).alloc (Nat.le_refl _) (.cells #[.int .i64 0, .int .i64 0, .int .i64 0, .int .i64 0, .string ⟨#[]⟩, .slice none 0 0] 59)
  have R0 := (Row.new w #[.int .i64 0, .int .i64 0, .int .i64 0, .int .i64 0, .string ⟨#[]⟩, .slice none 0 0] 59).after hb1 (Nat.le_refl _)
  obtain ⟨x0, x1, x2, x3, x4, x5⟩ := row6J R0
  have f0 := fun j => R0.frozen j
  obtain ⟨p0, p1, p2, p3, p4, p5⟩ := row6J (((((((R0).set 0 (.int .i64 1)).set 1 (.int .i64 0)).set 2 (.int .i64 1)).set 3 (.int .i64 n)).set 4 (.string ⟨#[]⟩)).set 5 (.slice none 0 0))
  have HB := hide ((((((((B0.trans (hb1.mono B0.size))).setCell (p := ⟨w.heap.size, 0, none⟩) (Nat.le_refl _) (.int .i64 1)).setCell (p := ⟨w.heap.size, 1, none⟩) (Nat.le_refl _) (.int .i64 0)).setCell (p := ⟨w.heap.size, 2, none⟩) (Nat.le_refl _) (.int .i64 1)).setCell (p := ⟨w.heap.size, 3, none⟩) (Nat.le_refl _) (.int .i64 n)).setCell (p := ⟨w.heap.size, 4, none⟩) (Nat.le_refl _) (.string ⟨#[]⟩)).setCell (p := ⟨w.heap.size, 5, none⟩) (Nat.le_refl _) (.slice none 0 0))
  clear B0 R0 hb1
  dsimp only
  go_wp2_with fail
  refine bodyPost_ret (v := .agg #[.int .i64 1, .int .i64 0, .int .i64 1, .int .i64 n, .string ⟨#[]⟩, .slice none 0 0]) (by simp [results, Tryz.results46, go_sem, p0, p1, p2, p3, p4, p5]) rfl ⟨rfl, ?_⟩
  exact unhide HB

set_option maxRecDepth 100000 in
theorem l5typeOf_any (op : Int) (w : World) : Calls Tryz.prog 44 #[.int .i64 op] w fun r w' => r = .returned (.int .i64 (if op = 1 then 2 else if op = 2 then 3 else if op = 3 then 1 else 4)) ∧ w' = w := by
  by_cases h1 : op = 1
  · subst h1
    go_enter Tryz.func44, Tryz.ntmps44
    go_wp2_with fail
    go_ret
    exact ⟨rfl, rfl⟩
  by_cases h2 : op = 2
  · subst h2
    go_enter Tryz.func44, Tryz.ntmps44
    go_wp2_with fail
    go_ret
    exact ⟨rfl, rfl⟩
  by_cases h3 : op = 3
  · subst h3
    go_enter Tryz.func44, Tryz.ntmps44
    go_wp2_with fail
    go_ret
    exact ⟨rfl, rfl⟩
  rw [if_neg h1, if_neg h2, if_neg h3]
  have e1 : (op == 1) = false := beq_eq_false_iff_ne.2 h1
  have e2 : (op == 2) = false := beq_eq_false_iff_ne.2 h2
  have e3 : (op == 3) = false := beq_eq_false_iff_ne.2 h3
  clear h1 h2 h3
  go_enter Tryz.func44, Tryz.ntmps44
  go_wp2_with fail
  go_ret
  exact ⟨rfl, rfl⟩

/-- one instruction in a list of its own -/
theorem InsO.lit (w0 w : World) (B : Nat) (k : J5) (hk : StZ w0 k.a k.n k.c k.i.val.names) (hB : B ≤ w.heap.size) : InsO w0 B (.slice (some ⟨w.heap.size, 0, none⟩) 1 1) [k.i] (w.alloc (.cells #[.int .i64 k.i.op, .int .i64 k.i.arg, .int .i64 k.i.val.kind, .int .i64 k.i.val.num, .string k.i.val.text, .slice k.a k.n k.c] 59)) := by
  refine ⟨[k], rfl, NmO.one hk, ⟨?_, .inr ⟨w.heap.size, 1, _, rfl, hB, heap_alloc_new w _, Nat.le_refl _, by decide, rfl, ?_⟩⟩⟩
  · simp [J5.cs]
  · simp [J5.cs]

set_option maxRecDepth 100000 in
set_option maxHeartbeats 1600000 in
theorem tree_attr (w0 : World) (num : Int) (text : ByteArray) (an : Option Addr) (nn cn : Nat) (ka : Option Addr) (kn kc : Nat) (i : Int) (at_ : Nat) (w : World) :
    Calls Tryz.prog 17 #[.agg #[.int .i64 6, .int .i64 num, .string text, .slice an nn cn, .slice ka kn kc], .int .i64 at_] w fun r w' => (∃ v, r = .returned v ∧ InsO w0 w.heap.size v (treeI (.attr i num) at_) w') ∧ Below w.heap.size w w' := by
  go_enter Tryz.func17, Tryz.ntmps17
  go_wp2_with fail
  go_ret
  have B0 := (Below.refl w.heap.size w).alloc (Nat.le_refl _) (.cells #[.int .i64 6, .int .i64 num, .string text, .slice an nn cn, .slice ka kn kc] 54)
  refine ⟨⟨_, rfl, ?_⟩, B0.alloc B0.size _⟩
  have := InsO.lit w0 (w.alloc (.cells #[.int .i64 6, .int .i64 num, .string text, .slice an nn cn, .slice ka kn kc] 54)) w.heap.size (plainJ 2 num) (StZ.none0 w0) B0.size
  simp only [World.size_alloc] at this
  exact this

set_option maxRecDepth 100000 in
set_option maxHeartbeats 1600000 in
theorem tree_lett (w0 : World) (num : Int) (text : ByteArray) (an : Option Addr) (nn cn : Nat) (ka : Option Addr) (kn kc : Nat) (i : Int) (at_ : Nat) (w : World) :
    Calls Tryz.prog 17 #[.agg #[.int .i64 7, .int .i64 num, .string text, .slice an nn cn, .slice ka kn kc], .int .i64 at_] w fun r w' => (∃ v, r = .returned v ∧ InsO w0 w.heap.size v (treeI (.lett i num) at_) w') ∧ Below w.heap.size w w' := by
  go_enter Tryz.func17, Tryz.ntmps17
  go_wp2_with fail
  go_ret
  have B0 := (Below.refl w.heap.size w).alloc (Nat.le_refl _) (.cells #[.int .i64 7, .int .i64 num, .string text, .slice an nn cn, .slice ka kn kc] 54)
  refine ⟨⟨_, rfl, ?_⟩, B0.alloc B0.size _⟩
  have := InsO.lit w0 (w.alloc (.cells #[.int .i64 7, .int .i64 num, .string text, .slice an nn cn, .slice ka kn kc] 54)) w.heap.size (plainJ 3 num) (StZ.none0 w0) B0.size
  simp only [World.size_alloc] at this
  exact this

set_option maxRecDepth 100000 in
set_option maxHeartbeats 1600000 in
theorem tree_const (w0 : World) (op num : Int) (text : ByteArray) (an : Option Addr) (nn cn : Nat) (ka : Option Addr) (kc : Nat) (e6 : (op == 6) = false) (e7 : (op == 7) = false) (at_ : Nat) (w : World) (ss : List ByteArray) (hS : StZ w0 an nn cn ss) :
    Calls Tryz.prog 17 #[.agg #[.int .i64 op, .int .i64 num, .string text, .slice an nn cn, .slice ka 0 kc], .int .i64 at_] w fun r w' => (∃ v, r = .returned v ∧ InsO w0 w.heap.size v [⟨1, 0, ⟨if op = 1 then 2 else if op = 2 then 3 else if op = 3 then 1 else 4, num, text, ss⟩⟩] w') ∧ Below w.heap.size w w' := by
  have B0 := (Below.refl w.heap.size w).alloc (Nat.le_refl _) (.cells #[.int .i64 op, .int .i64 num, .string text, .slice an nn cn, .slice ka 0 kc] 54)
  have R0 := Row.new w #[.int .i64 op, .int .i64 num, .string text, .slice an nn cn, .slice ka 0 kc] 54
  have HO := hide (fun W => l5typeOf_any op W)
  generalize (if op = 1 then 2 else if op = 2 then 3 else if op = 3 then 1 else 4 : Int) = ty at HO ⊢
  have HP := hide (fun W => l5push_any ty num text an nn cn W)
  have HSS := hide hS
  clear hS
  go_enter Tryz.func17, Tryz.ntmps17
  go_wp2_with fail
  generalize w.alloc (.cells #[.int .i64 op, .int .i64 num, .string text, .slice an nn cn, .slice ka 0 kc] 54) = wa at B0 R0 ⊢
  have BD := (Below.refl wa.heap.size wa).drew
  have RD := R0.after BD (Nat.le_refl _)
  obtain ⟨d0, d1, d2, d3, d4, _⟩ := row5 RD
  have s6 : wa.drew.cell? ⟨w.heap.size, 0, none⟩ = some (.int .i64 op) ∧ wa.drew.cell? ⟨w.heap.size, 1, none⟩ = some (.int .i64 num) ∧ wa.drew.cell? ⟨w.heap.size, 2, none⟩ = some (.string text) ∧ wa.drew.cell? ⟨w.heap.size, 3, none⟩ = some (.slice an nn cn) := ⟨d0, d1, d2, d3⟩
  go_region_held3 (fun w' => w'.cell? ⟨w.heap.size, 0, none⟩ = some (.int .i64 op) ∧ w'.cell? ⟨w.heap.size, 1, none⟩ = some (.int .i64 num) ∧ w'.cell? ⟨w.heap.size, 2, none⟩ = some (.string text) ∧ w'.cell? ⟨w.heap.size, 3, none⟩ = some (.slice an nn cn)) (first | assumption | go_keep) (first
    | (go_at_call 44; refine (unhide HO _).mono ?_; rintro r w5 ⟨rfl, hw5⟩; rw [hw5]; clear hw5)
    | (go_at_call 43; refine (unhide HP _).mono ?_; rintro r w6 ⟨rfl, hb6⟩; have R6 := RD.after hb6 (Nat.le_refl _); obtain ⟨f0, f1, f2, f3, f4, _⟩ := row5 R6; have s7 : w6.cell? ⟨w.heap.size, 0, none⟩ = some (.int .i64 op) ∧ w6.cell? ⟨w.heap.size, 1, none⟩ = some (.int .i64 num) ∧ w6.cell? ⟨w.heap.size, 2, none⟩ = some (.string text) ∧ w6.cell? ⟨w.heap.size, 3, none⟩ = some (.slice an nn cn) := ⟨f0, f1, f2, f3⟩))
  go_wp2_with fail
  go_ret
  have z1 := B0.size
  have z2 := BD.size
  have z6 := hb6.size
  exact ⟨⟨_, rfl, InsO.lit w0 w6 w.heap.size ⟨⟨1, 0, ⟨ty, num, text, ss⟩⟩, an, nn, cn⟩ (unhide HSS) (by omega)⟩, ((B0.trans (BD.mono z1)).trans (hb6.mono (by omega))).alloc (by omega) _⟩

/-- true or false, pushed -/
def boolJ (n : Int) : J5 := ⟨⟨1, 0, ⟨1, n, ⟨#[]⟩, []⟩⟩, none, 0, 0⟩

theorem NmO.bool (w0 : World) (n : Int) : NmO w0 [boolJ n] := NmO.one (StZ.none0 w0)

theorem twelve_cell (w : World) (k l : J5) (b : Nat) (hb : b = w.heap.size) : ∀ j u, ([k, l].flatMap J5.cs)[j]? = some u → (w.alloc (.cells #[.int .i64 k.i.op, .int .i64 k.i.arg, .int .i64 k.i.val.kind, .int .i64 k.i.val.num, .string k.i.val.text, .slice k.a k.n k.c, .int .i64 l.i.op, .int .i64 l.i.arg, .int .i64 l.i.val.kind, .int .i64 l.i.val.num, .string l.i.val.text, .slice l.a l.n l.c] 59)).cell? ((⟨b, 0, none⟩ : Addr).add j) = some u := fun j u h => by
  subst hb
  have hadd : (⟨w.heap.size, 0, none⟩ : Addr).add j = ⟨w.heap.size, j, none⟩ := by by_cases e : j = 0 <;> simp [Addr.add, e]
  rw [hadd, (Row.new w _ 59).cell j, ← h]
  simp [J5.cs]

end Go.Proofs.YtpbopjgmiaoomaaGreatDoor

namespace Go.Proofs.YtpbopjgmiaoomaaGreatDoor
open Go.RowKit
set_option linter.unusedVariables false

theorem Ints.setFar2 {w : World} {a : Option Addr} {n c : Nat} {L : List Int} (h : Ints w a n c L) {q : Addr} (hq : ∀ x, a = some x → x.block ≠ q.block) (u : Value) : Ints (w.setCell q u) a n c L :=
  ⟨h.len, h.small, fun j hj => by
    obtain ⟨b, off, hb, hl, c0⟩ := h.cells j hj
    refine ⟨b, off, hb, by simpa using hl, ?_⟩
    rw [World.cell?_of_block (w := w) (heap_setCell_other w q b u (hq _ hb))]
    exact c0⟩

/-- the rows of a typed policy that was copied -/
def TdM (B : Nat) (w : World) (x1 x2 x3 : Addr) (m p : Nat) (N : List Nd) : Prop := (∃ g, x1 = ⟨g, 0, none⟩ ∧ Hi w g N) ∧ Wd w x2 (m * 4) 49 ∧ Wd w x3 p 3 ∧ B ≤ x1.block ∧ B ≤ x2.block ∧ B ≤ x3.block

set_option maxHeartbeats 3200000 in
theorem toTyped_any (a b f : Option Addr) (n c m d p g : Nat) (N : List Nd) (L : List St) (T : List Int) (w : World) (h1 : NdsR w a n c N) (h2 : StsR w b m d L) (h3 : IntsR w f p g T) (hs : smallT n m p N L) :
    Calls Tryz.prog 6 #[.agg #[.slice a n c, .slice b m d, .slice f p g]] w fun e w' => ∃ x1 x2 x3, e = .returned (.agg #[.slice (some x1) n n, .slice (some x2) m m, .slice (some x3) p p]) ∧ Nds w' (some x1) n n N ∧ Sts w' (some x2) m m L ∧ Ints w' (some x3) p p T ∧ Below w.heap.size w w' ∧ TdM w.heap.size w' x1 x2 x3 m p N := by
  go_enter Tryz.func6, Tryz.ntmps6
  go_wp2_with fail
  have B0 := ((((Below.refl w.heap.size w).alloc (Nat.le_refl _) (.cells #[.slice a n c, .slice b m d, .slice f p g] 26)).alloc (by simp) (.cells #[.slice none 0 0, .slice none 0 0, .slice none 0 0] 36)).alloc (by simp; omega) (.cells #[.slice none 0 0, .slice none 0 0, .slice none 0 0] 36))
  have R0 := ((Row.new w #[.slice a n c, .slice b m d, .slice f p g] 26).alloc (.cells #[.slice none 0 0, .slice none 0 0, .slice none 0 0] 36)).alloc (.cells #[.slice none 0 0, .slice none 0 0, .slice none 0 0] 36)
  have R1 := (Row.new (w.alloc (.cells #[.slice a n c, .slice b m d, .slice f p g] 26)) #[.slice none 0 0, .slice none 0 0, .slice none 0 0] 36).alloc (.cells #[.slice none 0 0, .slice none 0 0, .slice none 0 0] 36)
  have R2 := Row.new ((w.alloc (.cells #[.slice a n c, .slice b m d, .slice f p g] 26)).alloc (.cells #[.slice none 0 0, .slice none 0 0, .slice none 0 0] 36)) #[.slice none 0 0, .slice none 0 0, .slice none 0 0] 36
  simp only [World.size_alloc] at R1 R2
  refine (toNodeS_any _ _ _ _ _ (h1.below B0 (Nat.le_refl _)) hs.1.1.1 hs.1.1.2).mono ?_
  rintro e w1 ⟨rfl, hb1, ho1⟩
  have B1 := B0.trans (hb1.mono (by simp; omega))
  have r0 := R0.after hb1 (Nat.le_refl _)
  have r1 := R1.after hb1 (Nat.le_refl _)
  have r2 := R2.after hb1 (Nat.le_refl _)
  have z1 := hb1.size
  simp only [World.size_alloc] at z1 ho1 ⊢
  clear B0 R0 R1 R2 hb1
  generalize hg0 : w.heap.size = g0 at r0 r1 r2 z1 ho1 B1 ⊢
  generalize hg1 : g0 + 1 = g1 at r1 r2 z1 ho1 ⊢
  generalize hg2 : g1 + 1 = g2 at r2 z1 ho1 ⊢
  generalize hg3 : g2 + 1 = g3 at z1 ho1 ⊢
  have O1 : g0 < g1 ∧ g1 < g2 ∧ g2 < g3 ∧ g3 ≤ w1.heap.size := by omega
  have HG := hide hg0
  clear hg1 hg2 hg3 hg0
  obtain ⟨k0, k1, k2⟩ := rowT3 r0
  obtain ⟨q0, q1, q2⟩ := rowT3 r2
  have qf := fun j => r2.frozen j
  try dsimp only
  go_wp2_with fail
  have B2 := B1.setCell (p := ⟨g2, 0, none⟩) (by show g0 ≤ g2; omega) (.slice (some ⟨g3, 0, none⟩) n n)
  have C2 : Below w.heap.size w (w1.setCell ⟨g2, 0, none⟩ (.slice (some ⟨g3, 0, none⟩) n n)) := by rw [unhide HG]; exact B2
  refine (toStmtS_any _ _ _ _ _ (h2.below C2 (Nat.le_refl _)) hs.1.2.1 hs.1.2.2).mono ?_
  rintro e w2 ⟨rfl, hb2, ho2, hw2⟩
  have r0' := (r0.setFar (p := ⟨g2, 0, none⟩) (by show g0 ≠ g2; omega) (.slice (some ⟨g3, 0, none⟩) n n)).after hb2 (Nat.le_refl _)
  have r1' := (r1.setFar (p := ⟨g2, 0, none⟩) (by show g1 ≠ g2; omega) (.slice (some ⟨g3, 0, none⟩) n n)).after hb2 (Nat.le_refl _)
  have r2' := (r2.set 0 (.slice (some ⟨g3, 0, none⟩) n n)).after hb2 (Nat.le_refl _)
  have s1 := (ho1.setLow (p := ⟨g2, 0, none⟩) (by show g2 < g3; omega) (.slice (some ⟨g3, 0, none⟩) n n)).below hb2 (Nat.le_refl _)
  have B3 := B2.trans (hb2.mono (by simp; omega))
  have z2 := hb2.size
  simp only [World.size_setCell] at z2 ho2 hw2 ⊢
  clear r0 r1 r2 ho1 k0 k1 k2 q0 q1 q2 qf B1 B2 C2 hb2
  generalize hg4 : w1.heap.size = g4 at O1 z2 ho2 hw2 ⊢
  clear hg4
  obtain ⟨k0, k1, k2⟩ := rowT3 r0'
  obtain ⟨q0, q1, q2⟩ := rowT3 r2'
  have qf := fun j => r2'.frozen j
  try dsimp only
  go_wp2_with fail
  have B4 := B3.setCell (p := ⟨g2, 1, none⟩) (by show g0 ≤ g2; omega) (.slice (some ⟨g4, 0, none⟩) m m)
  have C4 : Below w.heap.size w (w2.setCell ⟨g2, 1, none⟩ (.slice (some ⟨g4, 0, none⟩) m m)) := by rw [unhide HG]; exact B4
  refine (toIntS_any _ _ _ _ _ (h3.below C4 (Nat.le_refl _)) hs.2).mono ?_
  rintro e w3 ⟨rfl, hb3, ho3⟩
  have r1'' := (r1'.setFar (p := ⟨g2, 1, none⟩) (by show g1 ≠ g2; omega) (.slice (some ⟨g4, 0, none⟩) m m)).after hb3 (Nat.le_refl _)
  have r2'' := (r2'.set 1 (.slice (some ⟨g4, 0, none⟩) m m)).after hb3 (Nat.le_refl _)
  have s2 := (s1.setLow (p := ⟨g2, 1, none⟩) (by show g2 < g3; omega) (.slice (some ⟨g4, 0, none⟩) m m)).below hb3 (Nat.le_refl _)
  have t2 := (Sts.setFar ho2 (p := ⟨g2, 1, none⟩) (by show g2 ≠ g4; omega) (.slice (some ⟨g4, 0, none⟩) m m)).below hb3 (Nat.le_refl _)
  have u2 := (hw2.setFar (p := ⟨g2, 1, none⟩) (by show g2 ≠ g4; omega) (.slice (some ⟨g4, 0, none⟩) m m)).below hb3 (Nat.le_refl _)
  have B5 := B4.trans (hb3.mono (by simp; omega))
  have z3 := hb3.size
  simp only [World.size_setCell] at z3 ho3 ⊢
  have I3 := ints_of_row ho3 hs.2
  have u3 := Wd.of_owns ho3
  clear r0' r1' r2' s1 ho2 hw2 ho3 k0 k1 k2 q0 q1 q2 qf B3 B4 C4 hb3
  generalize hg5 : w2.heap.size = g5 at z2 z3 I3 u3 ⊢
  clear hg5
  have f1 := fun j => r1''.frozen j
  have f2 := fun j => r2''.frozen j
  obtain ⟨p0, p1, p2⟩ := rowT3 r1''
  obtain ⟨q0, q1, q2⟩ := rowT3 r2''
  try dsimp only
  go_wp2_with fail
  refine bodyPost_ret (v := .agg #[.slice (some ⟨g3, 0, none⟩) n n, .slice (some ⟨g4, 0, none⟩) m m, .slice (some ⟨g5, 0, none⟩) p p]) (by simp [results, Tryz.results6, go_sem, p0, p1, p2]) rfl ⟨_, _, _, rfl, ?_, ?_, ?_, ?_, ?_, ?_, ?_, ?_⟩
  · refine Hi.nds ?_ h1.len hs.1.1.1 hs.1.1.2
    refine Hi.setLow (Hi.setLow (Hi.setLow (Hi.setLow s2 ?_ _) ?_ _) ?_ _) ?_ _
    all_goals (dsimp only; omega)
  · refine Sts.setFar (Sts.setFar (Sts.setFar (Sts.setFar t2 ?_ _) ?_ _) ?_ _) ?_ _
    all_goals (dsimp only; omega)
  · refine Ints.setFar2 (Ints.setFar2 (Ints.setFar2 (Ints.setFar2 I3 ?_ _) ?_ _) ?_ _) ?_ _
    all_goals (intro x hx; cases hx; dsimp only; omega)
  · rw [unhide HG]
    refine Below.setCell (Below.setCell (Below.setCell (Below.setCell B5 ?_ _) ?_ _) ?_ _) ?_ _
    all_goals (dsimp only; omega)
  · refine ⟨g3, rfl, ?_⟩
    refine Hi.setLow (Hi.setLow (Hi.setLow (Hi.setLow s2 ?_ _) ?_ _) ?_ _) ?_ _
    all_goals (dsimp only; omega)
  · refine Wd.setFar (Wd.setFar (Wd.setFar (Wd.setFar u2 ?_ _) ?_ _) ?_ _) ?_ _
    all_goals (dsimp only; omega)
  · refine Wd.setFar (Wd.setFar (Wd.setFar (Wd.setFar u3 ?_ _) ?_ _) ?_ _) ?_ _
    all_goals (dsimp only; omega)
  · rw [unhide HG]
    dsimp only
    omega

end Go.Proofs.YtpbopjgmiaoomaaGreatDoor

namespace Go.Proofs.YtpbopjgmiaoomaaGreatDoor
open Go.RowKit
set_option linter.unusedVariables false

theorem Touch.mono2 {lo hi lo' hi' : Nat} {w w' : World} (t : Touch lo hi w w') (h1 : lo' ≤ lo) (h2 : hi ≤ hi') : Touch lo' hi' w w' :=
  ⟨t.os, t.tape, t.output, t.size, fun k hk hd => t.block k hk (by omega)⟩

theorem Wd.one {w w' : World} {q n m : Nat} {x : Addr} {t s : TypeId} (h : Wd w x n t) (T : Touch q (q + 1) w w') (k : Wd w ⟨q, 0, none⟩ m s) (k' : Wd w' ⟨q, 0, none⟩ m s) : Wd w' x n t := by
  obtain ⟨p, cs, rfl, r, z⟩ := h
  by_cases e : p = q
  · subst e
    obtain ⟨_, ds, e1, r1, z1⟩ := k
    cases e1
    have e2 := r.out.symm.trans r1.out
    simp only [Option.some.injEq, Obj.cells.injEq] at e2
    obtain ⟨rfl, rfl, _⟩ := e2
    rw [← z, z1]
    exact k'
  · exact ⟨p, cs, rfl, ⟨(T.block p r.lt (by omega)).trans r.out⟩, z⟩

set_option maxHeartbeats 1600000 in
theorem markIntS_z (q n c k : Nat) (w : World) (h : Wd w ⟨q, 0, none⟩ n 3) (hk : k + n ≤ 35184372088832) :
    Calls Tryz.prog 34 #[.slice (some ⟨q, 0, none⟩) n c, .int .i64 k] w fun e w' => e = .returned (.int .i64 ((k : Int) + n)) ∧ Wd w' ⟨q, 0, none⟩ n 3 ∧ Touch q (q + 1) w w' := by
  obtain ⟨_, cs0, e0, R0, z0⟩ := h
  cases e0
  go_enter Tryz.func34, Tryz.ntmps34
  go_wp2
  go_loopw [1, 5] (fun v i wr => ∃ (j : Nat) (cs : Array Value), j ≤ n ∧ i = .int .i64 j ∧ v = .int .i64 ((k : Int) + j) ∧ Row wr q cs 3 ∧ cs.size = n ∧ Touch q (q + 1) w wr) (fun _ i _ => n - (intOf i).toNat)
  case atStart => exact ⟨0, cs0, Nat.zero_le _, rfl, by go_num, R0, z0, Touch.refl _ _ _⟩
  case round =>
    obtain ⟨j, cs, hj, rfl, rfl, R, z, T⟩ := hrel
    clear R0
    by_cases hlt : j < n
    · obtain ⟨u, hu⟩ := some_at (cs := cs) (p := j) (by omega)
      have hc := (R.cell j).trans hu
      have hf := fun i => R.frozen i
      have ilt : (j : Int) < (n : Int) := by omega
      have HR := hide R
      have Hlt := hide hlt
      have Hz := hide z
      clear R hu z hlt
      go_wp2_with fail
      go_roundw
      case rel => exact ⟨j + 1, _, unhide Hlt, by go_num, by go_num, (unhide HR).set j _, by simpa using unhide Hz, T.trans (Touch.setCell _ _ _ (Nat.le_refl _) (Nat.lt_succ_self _))⟩
      case measure => have := unhide Hlt; simp [intOf]; omega
    · have e : j = n := by omega
      subst e
      go_wp2
      go_ret
      exact ⟨rfl, ⟨q, cs, rfl, R, z⟩, T⟩

set_option maxHeartbeats 1600000 in
theorem markStringS_z (q n c k : Nat) (w : World) (h : Wd w ⟨q, 0, none⟩ n 9) (hk : k + n ≤ 35184372088832) :
    Calls Tryz.prog 66 #[.slice (some ⟨q, 0, none⟩) n c, .int .i64 k] w fun e w' => e = .returned (.int .i64 ((k : Int) + n)) ∧ Wd w' ⟨q, 0, none⟩ n 9 ∧ Touch q (q + 1) w w' := by
  obtain ⟨_, cs0, e0, R0, z0⟩ := h
  cases e0
  go_enter Tryz.func66, Tryz.ntmps66
  go_wp2
  go_loopw [1, 5] (fun v i wr => ∃ (j : Nat) (cs : Array Value), j ≤ n ∧ i = .int .i64 j ∧ v = .int .i64 ((k : Int) + j) ∧ Row wr q cs 9 ∧ cs.size = n ∧ Touch q (q + 1) w wr) (fun _ i _ => n - (intOf i).toNat)
  case atStart => exact ⟨0, cs0, Nat.zero_le _, rfl, by go_num, R0, z0, Touch.refl _ _ _⟩
  case round =>
    obtain ⟨j, cs, hj, rfl, rfl, R, z, T⟩ := hrel
    clear R0
    by_cases hlt : j < n
    · obtain ⟨u, hu⟩ := some_at (cs := cs) (p := j) (by omega)
      have ilt : (j : Int) < (n : Int) := by omega
      go_wp2_with fail
      refine (markText_int _ wr (by omega) (by omega)).mono ?_
      rintro e w1 ⟨rfl, hb1⟩
      have R1 := R.after hb1 (Nat.le_refl _)
      have T1 := T.trans (Touch.of_below (lo := q) (hi := q + 1) hb1 (Nat.le_refl _))
      have hc := (R1.cell j).trans hu
      have hf := fun i => R1.frozen i
      have HR := hide R1
      have Hlt := hide hlt
      have Hz := hide z
      generalize markS ((k : Int) + (j : Int)).toNat = mt
      clear R R1 hu z hlt T hb1
      go_wp2_with fail
      go_roundw
      case rel => exact ⟨j + 1, _, unhide Hlt, by go_num, by go_num, (unhide HR).set j _, by simpa using unhide Hz, T1.trans (Touch.setCell _ _ _ (Nat.le_refl _) (Nat.lt_succ_self _))⟩
      case measure => have := unhide Hlt; simp [intOf]; omega
    · have e : j = n := by omega
      subst e
      go_wp2
      go_ret
      exact ⟨rfl, ⟨q, cs, rfl, R, z⟩, T⟩

theorem markIntS_zi (q n c : Nat) (x : Int) (w : World) (h : Wd w ⟨q, 0, none⟩ n 3) (h0 : 0 ≤ x) (hk : x + n ≤ 35184372088832) :
    Calls Tryz.prog 34 #[.slice (some ⟨q, 0, none⟩) n c, .int .i64 x] w fun e w' => e = .returned (.int .i64 (x + n)) ∧ Wd w' ⟨q, 0, none⟩ n 3 ∧ Touch q (q + 1) w w' := by
  obtain ⟨k, rfl⟩ := Int.eq_ofNat_of_zero_le h0
  exact markIntS_z q n c k w h (by omega)

theorem markStringS_zi (q n c : Nat) (x : Int) (w : World) (h : Wd w ⟨q, 0, none⟩ n 9) (h0 : 0 ≤ x) (hk : x + n ≤ 35184372088832) :
    Calls Tryz.prog 66 #[.slice (some ⟨q, 0, none⟩) n c, .int .i64 x] w fun e w' => e = .returned (.int .i64 (x + n)) ∧ Wd w' ⟨q, 0, none⟩ n 9 ∧ Touch q (q + 1) w w' := by
  obtain ⟨k, rfl⟩ := Int.eq_ofNat_of_zero_le h0
  exact markStringS_z q n c k w h (by omega)

/-- rows keep their lengths -/
def KeepW (w w' : World) : Prop := ∀ x n t, Wd w x n t → Wd w' x n t

theorem KeepW.refl (w : World) : KeepW w w := fun _ _ _ h => h
theorem KeepW.trans {a b c : World} (h : KeepW a b) (k : KeepW b c) : KeepW a c := fun x n t hw => k x n t (h x n t hw)
theorem KeepW.below {w w' : World} (hb : Below w.heap.size w w') : KeepW w w' := fun x n t hw => hw.below hb (Nat.le_refl _)
theorem KeepW.one {w w' : World} {q m : Nat} {s : TypeId} (T : Touch q (q + 1) w w') (k : Wd w ⟨q, 0, none⟩ m s) (k' : Wd w' ⟨q, 0, none⟩ m s) : KeepW w w' := fun x n t hw => hw.one T k k'
theorem KeepW.set (w : World) (g i : Nat) (u : Value) : KeepW w (w.setCell ⟨g, i, none⟩ u) := fun x n t hw => by
  obtain ⟨q, cs, rfl, r, z⟩ := hw
  by_cases e : q = g
  · subst e
    exact ⟨q, _, rfl, r.set i u, by simpa using z⟩
  · exact ⟨q, cs, rfl, r.setFar e u, z⟩

/-- the rows behind the nodes, by their lengths -/
def NdZ (w : World) (lo hi n : Nat) (cs : Array Value) : Prop := ∀ i, i < n → ∃ q1 nn q2 nk, cs[i * 5 + 3]? = some (.slice (some ⟨q1, 0, none⟩) nn nn) ∧ cs[i * 5 + 4]? = some (.slice (some ⟨q2, 0, none⟩) nk nk) ∧ Wd w ⟨q1, 0, none⟩ nn 9 ∧ Wd w ⟨q2, 0, none⟩ nk 3 ∧ nn ≤ 1048576 ∧ nk ≤ 1048576 ∧ (lo ≤ q1 ∧ q1 < hi) ∧ lo ≤ q2 ∧ q2 < hi

theorem NdZ.one {w w' : World} {lo hi n q m : Nat} {cs : Array Value} {s : TypeId} (h : NdZ w lo hi n cs) (T : Touch q (q + 1) w w') (k : Wd w ⟨q, 0, none⟩ m s) (k' : Wd w' ⟨q, 0, none⟩ m s) : NdZ w' lo hi n cs := fun i hi' => by
  obtain ⟨q1, nn, q2, nk, c3, c4, w1, w2, l1, l2, b1, b2⟩ := h i hi'
  exact ⟨q1, nn, q2, nk, c3, c4, w1.one T k k', w2.one T k k', l1, l2, b1, b2⟩

theorem NdZ.below {w w' : World} {lo hi n : Nat} {cs : Array Value} (h : NdZ w lo hi n cs) (hb : Below w.heap.size w w') : NdZ w' lo hi n cs := fun i hi' => by
  obtain ⟨q1, nn, q2, nk, c3, c4, w1, w2, l1, l2, b1, b2⟩ := h i hi'
  exact ⟨q1, nn, q2, nk, c3, c4, w1.below hb (Nat.le_refl _), w2.below hb (Nat.le_refl _), l1, l2, b1, b2⟩

/-- a cell of a node that is no slice is written -/
theorem NdZ.set {w : World} {lo hi n g : Nat} {cs : Array Value} (h : NdZ w lo hi n cs) (R : Row w g cs 103) (j r : Nat) (hr : r < 3) (u : Value) : NdZ (w.setCell ⟨g, j * 5 + r, none⟩ u) lo hi n (cs.setIfInBounds (j * 5 + r) u) := fun i hi' => by
  obtain ⟨q1, nn, q2, nk, c3, c4, w1, w2, l1, l2, b1, b2⟩ := h i hi'
  have far : ∀ {q m : Nat} {t : TypeId}, Wd w ⟨q, 0, none⟩ m t → t ≠ 103 → g ≠ q := fun {q m t} hw ht e => by
    obtain ⟨_, ds, e1, r1, _⟩ := hw
    cases e1
    subst e
    have e2 := r1.out.symm.trans R.out
    simp only [Option.some.injEq, Obj.cells.injEq] at e2
    exact ht e2.2.1
  exact ⟨q1, nn, q2, nk, by rw [Array.getElem?_setIfInBounds_ne (by omega)]; exact c3, by rw [Array.getElem?_setIfInBounds_ne (by omega)]; exact c4, w1.setFar (far w1 (by decide)) u, w2.setFar (far w2 (by decide)) u, l1, l2, b1, b2⟩

theorem Row.one {w w' : World} {q m g : Nat} {cs : Array Value} {t s : TypeId} (h : Row w g cs t) (T : Touch q (q + 1) w w') (k : Wd w ⟨q, 0, none⟩ m s) (hts : t ≠ s) : Row w' g cs t := by
  by_cases e : g = q
  · obtain ⟨_, ds, e1, r1, _⟩ := k
    cases e1
    subst e
    have e2 := h.out.symm.trans r1.out
    simp only [Option.some.injEq, Obj.cells.injEq] at e2
    exact absurd e2.2.1 hts
  · exact ⟨(T.block g h.lt (by omega)).trans h.out⟩

set_option maxRecDepth 100000 in
set_option maxHeartbeats 6400000 in
theorem markNodeS_z (lo hi g n c k : Nat) (cs0 : Array Value) (w : World) (R0 : Row w g cs0 103) (z0 : cs0.size = n * 5) (h0 : NdZ w lo hi n cs0) (hg : lo ≤ g ∧ g < hi) (hn : n ≤ 1048576) (hk : k ≤ 1048576) :
    Calls Tryz.prog 32 #[.slice (some ⟨g, 0, none⟩) n c, .int .i64 k] w fun e w' => (∃ y : Nat, e = .returned (.int .i64 y) ∧ y ≤ k + n * 2097155) ∧ Touch lo hi w w' ∧ KeepW w w' := by
  go_enter Tryz.func32, Tryz.ntmps32
  go_wp2
  go_loopw [1, 5] (fun v i wr => ∃ (j y : Nat) (cs : Array Value), j ≤ n ∧ i = .int .i64 j ∧ v = .int .i64 y ∧ y ≤ k + j * 2097155 ∧ Row wr g cs 103 ∧ cs.size = n * 5 ∧ NdZ wr lo hi n cs ∧ Touch lo hi w wr ∧ KeepW w wr) (fun _ i _ => n - (intOf i).toNat)
  case atStart => exact ⟨0, k, cs0, Nat.zero_le _, rfl, rfl, by omega, R0, z0, h0, Touch.refl _ _ _, KeepW.refl _⟩
  case round =>
    obtain ⟨j, y, cs, hj, rfl, rfl, hy, R, z, Z, T, K⟩ := hrel
    clear R0
    by_cases hlt : j < n
    · have ilt : (j : Int) < (n : Int) := by omega
      have y62 : y ≤ 4398046511104 := by omega
      obtain ⟨u0, e0⟩ := some_at (cs := cs) (p := j * 5) (by omega)
      obtain ⟨u1, e1⟩ := some_at (cs := cs) (p := j * 5 + 1) (by omega)
      obtain ⟨u2, e2⟩ := some_at (cs := cs) (p := j * 5 + 2) (by omega)
      obtain ⟨q1, nn, q2, nk, c3, c4, w1, w2, l1, l2, b1, b2⟩ := Z j hlt
      have d0 := (R.cell _).trans e0
      have d1 := (R.cell _).trans e1
      have f0 := fun i => R.frozen i
      have Hy := hide hy
      have Hw := hide (And.intro w1 w2)
      have Hlt := hide hlt
      have Hg := hide hg
      have R2 := (R.set (j * 5) (.int .i64 y)).set (j * 5 + 1) (.int .i64 ((y : Int) + 1))
      have Z2 := (Z.set R j 0 (by decide) (.int .i64 y)).set (R.set (j * 5) (.int .i64 y)) j 1 (by decide) (.int .i64 ((y : Int) + 1))
      have T2 := (T.trans (Touch.setCell wr ⟨g, j * 5, none⟩ (.int .i64 y) hg.1 hg.2)).trans (Touch.setCell _ ⟨g, j * 5 + 1, none⟩ (.int .i64 ((y : Int) + 1)) hg.1 hg.2)
      have g2 : ((cs.setIfInBounds (j * 5) (.int .i64 y)).setIfInBounds (j * 5 + 1) (.int .i64 ((y : Int) + 1)))[j * 5 + 2]? = some u2 := by rw [Array.getElem?_setIfInBounds_ne (by omega), Array.getElem?_setIfInBounds_ne (by omega)]; exact e2
      have g3 : ((cs.setIfInBounds (j * 5) (.int .i64 y)).setIfInBounds (j * 5 + 1) (.int .i64 ((y : Int) + 1)))[j * 5 + 3]? = some (.slice (some ⟨q1, 0, none⟩) nn nn) := by rw [Array.getElem?_setIfInBounds_ne (by omega), Array.getElem?_setIfInBounds_ne (by omega)]; exact c3
      have g4 : ((cs.setIfInBounds (j * 5) (.int .i64 y)).setIfInBounds (j * 5 + 1) (.int .i64 ((y : Int) + 1)))[j * 5 + 4]? = some (.slice (some ⟨q2, 0, none⟩) nk nk) := by rw [Array.getElem?_setIfInBounds_ne (by omega), Array.getElem?_setIfInBounds_ne (by omega)]; exact c4
      have z2 : ((cs.setIfInBounds (j * 5) (.int .i64 y)).setIfInBounds (j * 5 + 1) (.int .i64 ((y : Int) + 1))).size = n * 5 := by simpa using z
      generalize ((cs.setIfInBounds (j * 5) (.int .i64 y)).setIfInBounds (j * 5 + 1) (.int .i64 ((y : Int) + 1))) = ds at R2 Z2 g2 g3 g4 z2
      have HR := hide R2
      have HZ := hide Z2
      have HT := hide T2
      have HK := hide ((K.trans (KeepW.set wr g (j * 5) (.int .i64 y))).trans (KeepW.set _ g (j * 5 + 1) (.int .i64 ((y : Int) + 1))))
      have Hc := hide (And.intro g2 (And.intro g3 g4))
      have Hz := hide z2
      clear R Z T K hy e0 e1 e2 c3 c4 z w1 w2 hlt hg R2 Z2 T2 g2 g3 g4 z2
      go_wp2_with fail
      refine (markText_int _ _ (by omega) (by omega)).mono ?_
      rintro e w1 ⟨rfl, hb1⟩
      generalize markS ((y : Int) + 1 + 1).toNat = mt
      have R3 := (unhide HR).after hb1 (Nat.le_refl _)
      have Z3 := (unhide HZ).below hb1
      have T3 := (unhide HT).trans (Touch.of_below (lo := lo) (hi := hi) hb1 (Nat.le_refl _))
      have R4 := R3.set (j * 5 + 2) (.string mt)
      have HK4 := hide (((unhide HK).trans (KeepW.below hb1)).trans (KeepW.set w1 g (j * 5 + 2) (.string mt)))
      have Z4 := Z3.set R3 j 2 (by decide) (.string mt)
      have T4 := T3.trans (Touch.setCell w1 ⟨g, j * 5 + 2, none⟩ (.string mt) (unhide Hg).1 (unhide Hg).2)
      have k2 := (R3.cell _).trans (unhide Hc).1
      have f3 := fun i => R3.frozen i
      have k3 : (ds.setIfInBounds (j * 5 + 2) (.string mt))[j * 5 + 3]? = some (.slice (some ⟨q1, 0, none⟩) nn nn) := by rw [Array.getElem?_setIfInBounds_ne (by omega)]; exact (unhide Hc).2.1
      have k4 : (ds.setIfInBounds (j * 5 + 2) (.string mt))[j * 5 + 4]? = some (.slice (some ⟨q2, 0, none⟩) nk nk) := by rw [Array.getElem?_setIfInBounds_ne (by omega)]; exact (unhide Hc).2.2
      have z4 : (ds.setIfInBounds (j * 5 + 2) (.string mt)).size = n * 5 := by simpa using unhide Hz
      generalize ds.setIfInBounds (j * 5 + 2) (.string mt) = es at R4 Z4 k3 k4 z4
      have c3 := (R4.cell _).trans k3
      obtain ⟨q1', nn', q2', nk', j3, j4, w3, w4, _⟩ := Z4 j (unhide Hlt)
      rw [k3] at j3
      rw [k4] at j4
      cases j3
      cases j4
      have HR4 := hide R4
      have HZ4 := hide Z4
      have HT4 := hide T4
      have Hk4 := hide k4
      have Hz4 := hide z4
      have HW3 := hide w3
      have HW4 := hide w4
      clear R3 Z3 T3 R4 Z4 T4 k3 k4 z4 w3 w4 hb1 HR HZ HT HK Hc Hz d0 d1 f0 Hw
      dsimp only
      go_wp2_with fail
      refine (markStringS_zi q1 nn nn _ _ (unhide HW3) (by omega) (by omega)).mono ?_
      rintro e w5 ⟨rfl, W5, T5⟩
      have R5 := (unhide HR4).one T5 (unhide HW3) (by decide)
      have Z5 := (unhide HZ4).one T5 (unhide HW3) W5
      have V5 := (unhide HW4).one T5 (unhide HW3) W5
      have HK5 := hide ((unhide HK4).trans (KeepW.one T5 (unhide HW3) W5))
      have U5 := (unhide HT4).trans (T5.mono2 b1.1 b1.2)
      have c4 := (R5.cell _).trans (unhide Hk4)
      have HR5 := hide R5
      have HZ5 := hide Z5
      have HV5 := hide V5
      have HU5 := hide U5
      clear R5 Z5 V5 U5 T5 W5 HR4 HZ4 HT4 HK4 HW3 HW4 c3 f3 k2
      dsimp only
      go_wp2_with fail
      refine (markIntS_zi q2 nk nk _ _ (unhide HV5) (by omega) (by omega)).mono ?_
      rintro e w6 ⟨rfl, W6, T6⟩
      have R6 := (unhide HR5).one T6 (unhide HV5) (by decide)
      have Z6 := (unhide HZ5).one T6 (unhide HV5) W6
      have K6 := (unhide HK5).trans (KeepW.one T6 (unhide HV5) W6)
      have U6 := (unhide HU5).trans (T6.mono2 b2.1 b2.2)
      have HY := hide (show y + 3 + nn + nk ≤ k + (j + 1) * 2097155 by have := unhide Hy; omega)
      clear T6 W6 HR5 HZ5 HV5 HU5 HK5 c4
      dsimp only
      go_wp2_with fail
      go_roundw
      case rel => exact ⟨j + 1, y + 3 + nn + nk, es, unhide Hlt, by go_num, by go_num, unhide HY, R6, unhide Hz4, Z6, U6, K6⟩
      case measure => have := unhide Hlt; simp [intOf]; omega
    · have e : j = n := by omega
      subst e
      go_wp2
      go_ret
      exact ⟨⟨y, rfl, hy⟩, T, K⟩

set_option maxRecDepth 100000 in
set_option maxHeartbeats 6400000 in
theorem markStmtS_z (g n c : Nat) (x : Int) (w : World) (h : Wd w ⟨g, 0, none⟩ (n * 4) 49) (hn : n ≤ 1048576) (hx0 : 0 ≤ x) (hx : x ≤ 4398046511104) :
    Calls Tryz.prog 33 #[.slice (some ⟨g, 0, none⟩) n c, .int .i64 x] w fun e w' => e = .returned (.int .i64 (x + 4 * n)) ∧ Touch g (g + 1) w w' ∧ KeepW w w' := by
  obtain ⟨_, cs0, e0, R0, z0⟩ := h
  cases e0
  go_enter Tryz.func33, Tryz.ntmps33
  go_wp2
  go_loopw [1, 5] (fun v i wr => ∃ (j : Nat) (cs : Array Value), j ≤ n ∧ i = .int .i64 j ∧ v = .int .i64 (x + 4 * j) ∧ Row wr g cs 49 ∧ cs.size = n * 4 ∧ Touch g (g + 1) w wr ∧ KeepW w wr) (fun _ i _ => n - (intOf i).toNat)
  case atStart => exact ⟨0, cs0, Nat.zero_le _, rfl, by go_num, R0, z0, Touch.refl _ _ _, KeepW.refl _⟩
  case round =>
    obtain ⟨j, cs, hj, rfl, rfl, R, z, T, K⟩ := hrel
    clear R0
    by_cases hlt : j < n
    · have ilt : (j : Int) < (n : Int) := by omega
      obtain ⟨u0, e0⟩ := some_at (cs := cs) (p := j * 4) (by omega)
      obtain ⟨u1, e1⟩ := some_at (cs := cs) (p := j * 4 + 1) (by omega)
      obtain ⟨u2, e2⟩ := some_at (cs := cs) (p := j * 4 + 2) (by omega)
      obtain ⟨u3, e3⟩ := some_at (cs := cs) (p := j * 4 + 3) (by omega)
      have d0 := (R.cell _).trans e0
      have f0 := fun i => R.frozen i
      generalize hyx : x + 4 * (j : Int) = y
      have y0 : 0 ≤ y := by omega
      have y1 : y ≤ 4398050705408 := by omega
      have HE := hide (show y + 1 + 1 + 1 + 1 = x + 4 * ((j + 1 : Nat) : Int) by omega)
      have R2 := R.set (j * 4) (.int .i64 y)
      have T2 := T.trans (Touch.setCell wr ⟨g, j * 4, none⟩ (.int .i64 y) (Nat.le_refl _) (Nat.lt_succ_self _))
      have K2 := K.trans (KeepW.set wr g (j * 4) (.int .i64 y))
      have g1 : (cs.setIfInBounds (j * 4) (.int .i64 y))[j * 4 + 1]? = some u1 := by rw [Array.getElem?_setIfInBounds_ne (by omega)]; exact e1
      have g2 : (cs.setIfInBounds (j * 4) (.int .i64 y))[j * 4 + 2]? = some u2 := by rw [Array.getElem?_setIfInBounds_ne (by omega)]; exact e2
      have g3 : (cs.setIfInBounds (j * 4) (.int .i64 y))[j * 4 + 3]? = some u3 := by rw [Array.getElem?_setIfInBounds_ne (by omega)]; exact e3
      have z2 : (cs.setIfInBounds (j * 4) (.int .i64 y)).size = n * 4 := by simpa using z
      generalize cs.setIfInBounds (j * 4) (.int .i64 y) = ds at R2 g1 g2 g3 z2
      have HR := hide R2
      have HT := hide T2
      have HK := hide K2
      have Hc := hide (And.intro g1 (And.intro g2 g3))
      have Hz := hide z2
      have Hlt := hide hlt
      clear hyx R T K e0 e1 e2 e3 z hlt R2 T2 K2 g1 g2 g3 z2
      go_wp2_with fail
      refine (markText_int _ _ (by omega) (by omega)).mono ?_
      rintro e w1 ⟨rfl, hb1⟩
      generalize markS (y + 1).toNat = mt
      have R3 := (unhide HR).after hb1 (Nat.le_refl _)
      have T3 := (unhide HT).trans (Touch.of_below (lo := g) (hi := g + 1) hb1 (Nat.le_refl _))
      have K3 := (unhide HK).trans (KeepW.below hb1)
      have d1 := (R3.cell _).trans (unhide Hc).1
      have d2 := (R3.cell _).trans (unhide Hc).2.1
      have d3 := (R3.cell _).trans (unhide Hc).2.2
      have f3 := fun i => R3.frozen i
      have HR4 := hide (((R3.set (j * 4 + 1) (.string mt)).set (j * 4 + 2) (.int .i64 (y + 1 + 1))).set (j * 4 + 3) (.int .i64 (y + 1 + 1 + 1)))
      have HT4 := hide (((T3.trans (Touch.setCell _ ⟨g, j * 4 + 1, none⟩ (.string mt) (Nat.le_refl _) (Nat.lt_succ_self _))).trans (Touch.setCell _ ⟨g, j * 4 + 2, none⟩ (.int .i64 (y + 1 + 1)) (Nat.le_refl _) (Nat.lt_succ_self _))).trans (Touch.setCell _ ⟨g, j * 4 + 3, none⟩ (.int .i64 (y + 1 + 1 + 1)) (Nat.le_refl _) (Nat.lt_succ_self _)))
      have HK4 := hide (((K3.trans (KeepW.set _ g (j * 4 + 1) (.string mt))).trans (KeepW.set _ g (j * 4 + 2) (.int .i64 (y + 1 + 1)))).trans (KeepW.set _ g (j * 4 + 3) (.int .i64 (y + 1 + 1 + 1))))
      clear R3 T3 K3 hb1 HR HT HK Hc d0 f0
      dsimp only
      go_wp2_with fail
      go_roundw
      case rel => exact ⟨j + 1, _, unhide Hlt, by go_num, by rw [unhide HE], unhide HR4, by simpa using unhide Hz, unhide HT4, unhide HK4⟩
      case measure => have := unhide Hlt; simp [intOf]; omega
    · have e : j = n := by omega
      subst e
      go_wp2
      go_ret
      exact ⟨rfl, T, K⟩

end Go.Proofs.YtpbopjgmiaoomaaGreatDoor

namespace Go.Proofs.YtpbopjgmiaoomaaGreatDoor
open Go.RowKit
set_option linter.unusedVariables false

/-- a typed policy's rows, by their lengths -/
def TyZ (w : World) (lo hi : Nat) (x1 x2 x3 : Addr) (n m p : Nat) : Prop := ∃ g cs g2 g3, x1 = ⟨g, 0, none⟩ ∧ x2 = ⟨g2, 0, none⟩ ∧ x3 = ⟨g3, 0, none⟩ ∧ Row w g cs 103 ∧ cs.size = n * 5 ∧ NdZ w lo hi n cs ∧ Wd w ⟨g2, 0, none⟩ (m * 4) 49 ∧ Wd w ⟨g3, 0, none⟩ p 3 ∧ (lo ≤ g ∧ g < hi) ∧ (lo ≤ g2 ∧ g2 < hi) ∧ lo ≤ g3 ∧ g3 < hi

theorem TyZ.below {w w' : World} {lo hi n m p : Nat} {x1 x2 x3 : Addr} (h : TyZ w lo hi x1 x2 x3 n m p) (hb : Below w.heap.size w w') : TyZ w' lo hi x1 x2 x3 n m p := by
  obtain ⟨g, cs, g2, g3, e1, e2, e3, R, z, Z, W2, W3, b⟩ := h
  exact ⟨g, cs, g2, g3, e1, e2, e3, R.after hb (Nat.le_refl _), z, Z.below hb, W2.below hb (Nat.le_refl _), W3.below hb (Nat.le_refl _), b⟩

theorem TyZ.of {B n m p : Nat} {w : World} {x1 x2 x3 : Addr} {N : List Nd} {L : List St} (h : TdM B w x1 x2 x3 m p N) (hl : N.length = n) (hs : smallT n m p N L) : TyZ w B w.heap.size x1 x2 x3 n m p := by
  obtain ⟨⟨g, rfl, cs, ⟨R, z⟩, hx⟩, ⟨g2, c2, rfl, R2, z2⟩, ⟨g3, c3, rfl, R3, z3⟩, b1, b2, b3⟩ := h
  refine ⟨g, cs, g2, g3, rfl, rfl, rfl, R, by rw [z, hl], fun i hi => ?_, ⟨g2, c2, rfl, R2, z2⟩, ⟨g3, c3, rfl, R3, z3⟩, ⟨b1, R.lt⟩, ⟨b2, R2.lt⟩, b3, R3.lt⟩
  obtain ⟨y1, nn, y2, nk, _, _, _, d3, d4, hS, hI, ⟨w1, w2⟩, g1, g2⟩ := hx i (by omega)
  have hsm := hs.1.1.2 _ (List.getElem_mem (by omega : i < N.length))
  obtain ⟨q1, t1, rfl, s1, u1⟩ := w1
  obtain ⟨q2, t2, rfl, s2, u2⟩ := w2
  exact ⟨q1, nn, q2, nk, d3, d4, ⟨q1, t1, rfl, s1, u1⟩, ⟨q2, t2, rfl, s2, u2⟩, by rw [hS.len]; exact hsm.2.1, hI.small, ⟨by have : g < q1 := g1; have : B ≤ g := b1; omega, s1.lt⟩, by have : g < q2 := g2; have : B ≤ g := b1; omega, s2.lt⟩

set_option maxRecDepth 100000 in
set_option maxHeartbeats 1600000 in
theorem markTyped_z (lo hi : Nat) (x1 x2 x3 : Addr) (n m p : Nat) (w : World) (h : TyZ w lo hi x1 x2 x3 n m p) (hhi : hi ≤ w.heap.size) (hn : n ≤ 1048576) (hm : m ≤ 1048576) (hp : p ≤ 1048576) :
    Calls Tryz.prog 10 #[.agg #[.slice (some x1) n n, .slice (some x2) m m, .slice (some x3) p p], .int .i64 1] w fun e w' => (∃ y : Nat, e = .returned (.int .i64 y) ∧ y ≤ 8796093022208) ∧ Touch lo hi w w' := by
  obtain ⟨g, cs, g2, g3, rfl, rfl, rfl, R, z, Z, W2, W3, b1, b2, b3⟩ := h
  have B0 := (Below.refl w.heap.size w).alloc (Nat.le_refl _) (.cells #[.slice (some ⟨g, 0, none⟩) n n, .slice (some ⟨g2, 0, none⟩) m m, .slice (some ⟨g3, 0, none⟩) p p] 36)
  have X0 := Row.new w #[.slice (some ⟨g, 0, none⟩) n n, .slice (some ⟨g2, 0, none⟩) m m, .slice (some ⟨g3, 0, none⟩) p p] 36
  have K0 := KeepW.below B0
  have T0 := Touch.of_below (lo := lo) (hi := hi) B0 (Nat.le_refl _)
  have HN := hide (markNodeS_z lo hi g n n 1 cs _ (R.after B0 (Nat.le_refl _)) z (Z.below B0) b1 hn (by omega))
  have V2 := K0 _ _ _ W2
  have V3 := K0 _ _ _ W3
  clear W2 W3 R Z K0
  go_enter Tryz.func10, Tryz.ntmps10
  go_wp2_with fail
  refine (unhide HN).mono ?_
  rintro e w1 ⟨⟨y, rfl, hy⟩, T1, K1⟩
  have X1 : Row w1 w.heap.size _ 36 := ⟨(T1.block _ X0.lt (.inr hhi)).trans X0.out⟩
  have U2 := K1 _ _ _ V2
  have U3 := K1 _ _ _ V3
  have D1 := T0.trans T1
  obtain ⟨m0, m1, m2⟩ := rowT3 X1
  clear V2 V3 T1 K1 X0 T0 HN
  dsimp only
  go_wp2_with fail
  refine (markStmtS_z g2 m m _ _ U2 hm (by omega) (by omega)).mono ?_
  rintro e w2 ⟨rfl, T2, K2⟩
  have X2 : Row w2 w.heap.size _ 36 := ⟨(T2.block _ X1.lt (.inr (by have := b2.2; omega))).trans X1.out⟩
  have Q3 := K2 _ _ _ U3
  have D2 := D1.trans (T2.mono2 b2.1 b2.2)
  obtain ⟨r0, r1, r2⟩ := rowT3 X2
  clear U2 U3 T2 K2 X1 D1 m0 m1 m2
  dsimp only
  go_wp2_with fail
  refine (markIntS_zi g3 p p _ _ Q3 (by omega) (by omega)).mono ?_
  rintro e w3 ⟨rfl, W3, T3⟩
  have D3 := D2.trans (T3.mono2 b3.1 b3.2)
  dsimp only
  go_wp2_with fail
  go_ret
  exact ⟨⟨y + 4 * m + p, by go_num, by omega⟩, D3⟩

end Go.Proofs.YtpbopjgmiaoomaaGreatDoor

namespace Go.Proofs.YtpbopjgmiaoomaaGreatDoor
set_option maxRecDepth 100000
open Go.ChangeShapes Go.WideShapes Go.RowKit Go.Deep
set_option linter.unusedVariables false

theorem cellsStr : Tryz.prog.cellsOf 9 = 1 := by kernel_rfl
theorem cellsI64 : Tryz.prog.cellsOf 2 = 1 := by kernel_rfl
theorem cellsInt : Tryz.prog.cellsOf 3 = 1 := by kernel_rfl
theorem cellsSS : Tryz.prog.cellsOf 51 = 1 := by kernel_rfl
theorem cellsIS : Tryz.prog.cellsOf 24 = 1 := by kernel_rfl
theorem cellsNd : Tryz.prog.cellsOf 90 = 5 := by kernel_rfl
theorem cellsSt : Tryz.prog.cellsOf 92 = 4 := by kernel_rfl
theorem cellsNdS : Tryz.prog.cellsOf 22 = 1 := by kernel_rfl
theorem cellsStS : Tryz.prog.cellsOf 23 = 1 := by kernel_rfl
theorem cellsTyp : Tryz.prog.cellsOf 26 = 3 := by kernel_rfl

instance : Inhabited Nd := ⟨⟨0, 0, ⟨#[]⟩, [], []⟩⟩
instance : Inhabited St := ⟨⟨0, ⟨#[]⟩, 0, 0⟩⟩

section
variable {H : Type} {enc : TypeId × Value → H} {w : World} {held : Bool}

theorem add_lit' (b off j : Nat) : (⟨b, off, none⟩ : Addr).add j = ⟨b, off + j, none⟩ := by
  by_cases e : j = 0 <;> simp [Addr.add, e]

theorem slice_form {t e : TypeId} {fuel : Nat} {v : Value} {x : DataW H × List MemPlace} (ht : Tryz.prog.underlying t = some (.slice e)) (h : DataW.trod enc Tryz.prog w 0 (fun _ => true) held fuel t [v] = some x) : ∃ a l c, v = .slice a l c := by
  rcases open_slice ht h with ⟨hcs, _⟩ | ⟨_, _, _, _, _, _, _, hcs, _⟩
  · simp only [List.cons.injEq, and_true] at hcs; exact ⟨_, _, _, hcs⟩
  · simp only [List.cons.injEq, and_true] at hcs; exact ⟨_, _, _, hcs⟩

theorem spot_of {a : Addr} {v : Value} (h : w.cell? (a.add 0) = some v) : ∃ b off, a = ⟨b, off, none⟩ := by
  have hs := World.cell?_spot h
  obtain ⟨b, off, spot⟩ := a
  simp [Addr.add] at hs
  subst hs
  exact ⟨b, off, rfl⟩

theorem IntsR.of_trod {fuel : Nat} {x : DataW H × List MemPlace} {a : Option Addr} {n c : Nat} (h : DataW.trod enc Tryz.prog w 0 (fun _ => true) held fuel 24 [.slice a n c] = some x) : ∃ L, IntsR w a n c L := by
  rcases open_slice1 Tryz.underlying24 cellsInt h with ⟨hcs, _⟩ | ⟨ad, len, cap, m, k, V, D, Pl, hcs, _, hl, hm, hmm, _, hx⟩
  · simp only [List.cons.injEq, Value.slice.injEq, and_true] at hcs
    obtain ⟨rfl, rfl, rfl⟩ := hcs
    exact ⟨[], rfl, Nat.le_refl _, Nat.zero_le _, fun j hj => absurd hj (by simp)⟩
  · simp only [List.cons.injEq, Value.slice.injEq, and_true] at hcs
    obtain ⟨rfl, rfl, rfl⟩ := hcs
    simp only [if_true] at hmm
    obtain ⟨f, hf⟩ := choose_lt (α := Int) (n := n) (p := fun i z => w.cell? (ad.add i) = some (.int .i64 z)) (fun i hi => by
      obtain ⟨h1, h2⟩ := hx i (by omega)
      obtain ⟨z, hz, _⟩ := DataW.trod_int Tryz.underlying3 h2
      simp only [List.cons.injEq, and_true] at hz
      exact ⟨z, by rw [h1, hz]⟩)
    refine ⟨(List.range n).map f, by simp, hl, hm, fun j hj => ?_⟩
    have hjn : j < n := by simpa using hj
    obtain ⟨b, off, rfl⟩ := spot_of (hf 0 (by omega))
    have hc := hf j hjn
    rw [add_lit'] at hc
    refine ⟨b, off, rfl, lt_of_cell hc, ?_⟩
    rw [hc]
    simp

theorem NdAtR.of_trod {fuel b o : Nat} {cs : List Value} {x : DataW H × List MemPlace} (h : DataW.trod enc Tryz.prog w 0 (fun _ => true) held fuel 90 cs = some x) (hc : ∀ i, i < 5 → w.cell? ⟨b, o + i, none⟩ = cs[i]?) : ∃ y : Nd, NdAtR w b o y ∧ y.text.size ≤ maxLen ∧ (-9223372036854775808 ≤ y.num ∧ y.num ≤ 9223372036854775807) := by
  obtain ⟨xs, n, _, _, hcl, hlen, hx⟩ := DataW.trod_struct Tryz.underlying90 h
  rw [cellsNd] at hcl
  match cs, hcl with
  | [x0, x1, x2, x3, x4], _ =>
    have get : ∀ i, i < 5 → ∃ y, xs[i]? = some y := fun i hi => ⟨xs[i]'(by simp at hlen; omega), List.getElem?_eq_getElem _⟩
    obtain ⟨y0, e0⟩ := get 0 (by omega)
    obtain ⟨y1, e1⟩ := get 1 (by omega)
    obtain ⟨y2, e2⟩ := get 2 (by omega)
    obtain ⟨y3, e3⟩ := get 3 (by omega)
    obtain ⟨y4, e4⟩ := get 4 (by omega)
    have f0 : DataW.trod enc Tryz.prog w 0 (fun _ => true) held n 3 [x0] = some y0 := by
      have := (hx 0 _ rfl).trans e0
      simpa [cellsInt] using this
    have f1 : DataW.trod enc Tryz.prog w 0 (fun _ => true) held n 2 [x1] = some y1 := by
      have := (hx 1 _ rfl).trans e1
      simpa [cellsI64] using this
    have f2 : DataW.trod enc Tryz.prog w 0 (fun _ => true) held n 9 [x2] = some y2 := by
      have := (hx 2 _ rfl).trans e2
      simpa [cellsStr] using this
    have f3 : DataW.trod enc Tryz.prog w 0 (fun _ => true) held n 51 [x3] = some y3 := by
      have := (hx 3 _ rfl).trans e3
      simpa [cellsSS] using this
    have f4 : DataW.trod enc Tryz.prog w 0 (fun _ => true) held n 24 [x4] = some y4 := by
      have := (hx 4 _ rfl).trans e4
      simpa [cellsIS] using this
    obtain ⟨op, k0, _, _⟩ := DataW.trod_int Tryz.underlying3 f0
    obtain ⟨num, k1, _, hwf⟩ := DataW.trod_int Tryz.underlying2 f1
    have hnum : -9223372036854775808 ≤ num ∧ num ≤ 9223372036854775807 := by
      simp only [Lit.wf, Bool.and_eq_true, decide_eq_true_eq] at hwf
      exact ⟨hwf.1, hwf.2⟩
    obtain ⟨text, k2, _, htx⟩ := DataW.trod_string Tryz.underlying9 f2
    simp only [List.cons.injEq, and_true] at k0 k1 k2
    subst k0 k1 k2
    obtain ⟨an, nn, cn, rfl⟩ := slice_form Tryz.underlying51 f3
    obtain ⟨ak, nk, ck, rfl⟩ := slice_form Tryz.underlying24 f4
    obtain ⟨names, hN⟩ := Strs.of_trod Tryz.underlying51 Tryz.underlying9 cellsStr f3
    obtain ⟨kids, hK⟩ := IntsR.of_trod f4
    exact ⟨⟨op, num, text, names, kids⟩, ⟨an, nn, cn, ak, nk, ck, hc 0 (by omega), hc 1 (by omega), hc 2 (by omega), hc 3 (by omega), hc 4 (by omega), hN, hK⟩, htx, hnum⟩

theorem NdsR.of_trod {fuel : Nat} {x : DataW H × List MemPlace} {a : Option Addr} {n c : Nat} (h : DataW.trod enc Tryz.prog w 0 (fun _ => true) held fuel 22 [.slice a n c] = some x) : ∃ L, NdsR w a n c L ∧ ∀ x ∈ L, -9223372036854775808 ≤ x.num ∧ x.num ≤ 9223372036854775807 := by
  rcases open_slice Tryz.underlying22 h with ⟨hcs, _⟩ | ⟨ad, len, cap, m, k, D, Pl, hcs, _, hl, hm, hmm, _, hx⟩
  · simp only [List.cons.injEq, Value.slice.injEq, and_true] at hcs
    obtain ⟨rfl, rfl, rfl⟩ := hcs
    exact ⟨[], ⟨rfl, Nat.le_refl _, Nat.zero_le _, fun x hx => (by cases hx), fun j hj => absurd hj (by simp)⟩, fun x hx => (by cases hx)⟩
  · simp only [List.cons.injEq, Value.slice.injEq, and_true] at hcs
    obtain ⟨rfl, rfl, rfl⟩ := hcs
    simp only [if_true] at hmm
    rw [cellsNd] at hx
    obtain ⟨f, hf⟩ := choose_lt (α := Nd) (n := n) (p := fun i y => ∃ b off, ad = ⟨b, off, none⟩ ∧ b < w.heap.size ∧ NdAtR w b (off + i * 5) y ∧ y.text.size ≤ maxLen ∧ (-9223372036854775808 ≤ y.num ∧ y.num ≤ 9223372036854775807)) (fun i hi => by
      obtain ⟨cs', h1, h2⟩ := hx i (by omega)
      obtain ⟨_, hlen, hc⟩ := World.cells?_some h1
      obtain ⟨v, hv⟩ : ∃ v, cs'[0]? = some v := ⟨cs'[0]'(by omega), List.getElem?_eq_getElem _⟩
      obtain ⟨cz, hz1, hz2⟩ := hx 0 (by omega)
      obtain ⟨_, hzl, hzc⟩ := World.cells?_some hz1
      obtain ⟨b, off, rfl⟩ := spot_of (v := cz[0]'(by omega)) (by have := (hzc 0 (by omega)).trans (List.getElem?_eq_getElem (by omega)); simpa [Addr.add] using this)
      have hc0' := (hc 0 (by omega)).trans hv
      rw [add_lit'] at hc hc0'
      rw [add_lit'] at hc0'
      obtain ⟨y, hy, ht⟩ := NdAtR.of_trod (b := b) (o := off + i * 5) h2 (fun j hj => by rw [← hc j hj, add_lit'])
      exact ⟨y, b, off, rfl, lt_of_cell hc0', hy, ht⟩)
    refine ⟨(List.range n).map f, ⟨by simp, hl, hm, fun x hx => ?_, fun j hj => ?_⟩, fun x hx => ?_⟩
    · obtain ⟨i, hi, rfl⟩ := List.mem_map.1 hx
      obtain ⟨_, _, _, _, _, ht, _⟩ := hf i (by simpa using hi)
      exact ht
    · have hjn : j < n := by simpa using hj
      obtain ⟨b, off, rfl, hl', hy, _, _⟩ := hf j hjn
      exact ⟨b, off, rfl, hl', by simpa using hy⟩
    · obtain ⟨i, hi, rfl⟩ := List.mem_map.1 hx
      obtain ⟨_, _, _, _, _, _, ht⟩ := hf i (by simpa using hi)
      exact ht

theorem StsR.of_trod {fuel : Nat} {x : DataW H × List MemPlace} {a : Option Addr} {n c : Nat} (h : DataW.trod enc Tryz.prog w 0 (fun _ => true) held fuel 23 [.slice a n c] = some x) : ∃ L, StsR w a n c L := by
  rcases open_slice Tryz.underlying23 h with ⟨hcs, _⟩ | ⟨ad, len, cap, m, k, D, Pl, hcs, _, hl, hm, hmm, _, hx⟩
  · simp only [List.cons.injEq, Value.slice.injEq, and_true] at hcs
    obtain ⟨rfl, rfl, rfl⟩ := hcs
    exact ⟨[], rfl, Nat.le_refl _, Nat.zero_le _, fun x hx => (by cases hx), fun j hj => absurd hj (by simp)⟩
  · simp only [List.cons.injEq, Value.slice.injEq, and_true] at hcs
    obtain ⟨rfl, rfl, rfl⟩ := hcs
    simp only [if_true] at hmm
    rw [cellsSt] at hx
    obtain ⟨f, hf⟩ := choose_lt (α := St) (n := n) (p := fun i y => ∃ b off, ad = ⟨b, off, none⟩ ∧ b < w.heap.size ∧ (w.cell? ⟨b, off + i * 4, none⟩ = some (.int .i64 y.kind) ∧ w.cell? ⟨b, off + i * 4 + 1, none⟩ = some (.string y.name) ∧ w.cell? ⟨b, off + i * 4 + 2, none⟩ = some (.int .i64 y.cond) ∧ w.cell? ⟨b, off + i * 4 + 3, none⟩ = some (.int .i64 y.grant)) ∧ y.name.size ≤ maxLen) (fun i hi => by
      obtain ⟨cs', h1, h2⟩ := hx i (by omega)
      obtain ⟨_, hlen, hc⟩ := World.cells?_some h1
      obtain ⟨v, hv⟩ : ∃ v, cs'[0]? = some v := ⟨cs'[0]'(by omega), List.getElem?_eq_getElem _⟩
      obtain ⟨cz, hz1, hz2⟩ := hx 0 (by omega)
      obtain ⟨_, hzl, hzc⟩ := World.cells?_some hz1
      obtain ⟨b, off, rfl⟩ := spot_of (v := cz[0]'(by omega)) (by have := (hzc 0 (by omega)).trans (List.getElem?_eq_getElem (by omega)); simpa [Addr.add] using this)
      have hc0' := (hc 0 (by omega)).trans hv
      rw [add_lit'] at hc hc0'
      rw [add_lit'] at hc0'
      have hc2 : ∀ j, j < 4 → w.cell? ⟨b, off + i * 4 + j, none⟩ = cs'[j]? := fun j hj => by rw [← hc j hj, add_lit']
      obtain ⟨xs, n', _, _, hcl, hxl, hxx⟩ := DataW.trod_struct Tryz.underlying92 h2
      match cs', hlen with
      | [x0, x1, x2, x3], _ =>
        have get : ∀ i, i < 4 → ∃ y, xs[i]? = some y := fun i hi => ⟨xs[i]'(by simp at hxl; omega), List.getElem?_eq_getElem _⟩
        obtain ⟨y0, e0⟩ := get 0 (by omega)
        obtain ⟨y1, e1⟩ := get 1 (by omega)
        obtain ⟨y2, e2⟩ := get 2 (by omega)
        obtain ⟨y3, e3⟩ := get 3 (by omega)
        have f0 : DataW.trod enc Tryz.prog w 0 (fun _ => true) held n' 3 [x0] = some y0 := by
          have := (hxx 0 _ rfl).trans e0
          simpa [cellsInt] using this
        have f1 : DataW.trod enc Tryz.prog w 0 (fun _ => true) held n' 9 [x1] = some y1 := by
          have := (hxx 1 _ rfl).trans e1
          simpa [cellsStr] using this
        have f2 : DataW.trod enc Tryz.prog w 0 (fun _ => true) held n' 3 [x2] = some y2 := by
          have := (hxx 2 _ rfl).trans e2
          simpa [cellsInt] using this
        have f3 : DataW.trod enc Tryz.prog w 0 (fun _ => true) held n' 3 [x3] = some y3 := by
          have := (hxx 3 _ rfl).trans e3
          simpa [cellsInt] using this
        obtain ⟨kind, k0, _, _⟩ := DataW.trod_int Tryz.underlying3 f0
        obtain ⟨name, k1, _, htx⟩ := DataW.trod_string Tryz.underlying9 f1
        obtain ⟨cond, k2, _, _⟩ := DataW.trod_int Tryz.underlying3 f2
        obtain ⟨grant, k3, _, _⟩ := DataW.trod_int Tryz.underlying3 f3
        simp only [List.cons.injEq, and_true] at k0 k1 k2 k3
        subst k0 k1 k2 k3
        exact ⟨⟨kind, name, cond, grant⟩, b, off, rfl, lt_of_cell hc0', ⟨hc2 0 (by omega), hc2 1 (by omega), hc2 2 (by omega), hc2 3 (by omega)⟩, htx⟩)
    refine ⟨(List.range n).map f, by simp, hl, hm, fun x hx => ?_, fun j hj => ?_⟩
    · obtain ⟨i, hi, rfl⟩ := List.mem_map.1 hx
      obtain ⟨_, _, _, _, _, ht⟩ := hf i (by simpa using hi)
      exact ht
    · have hjn : j < n := by simpa using hj
      obtain ⟨b, off, rfl, hl', hy, _⟩ := hf j hjn
      exact ⟨b, off, rfl, hl', by simpa using hy⟩

theorem open_typ {r : Reach} {b0 : Nat} {v : Value} {d : DataW H} {p : List MemPlace}
    (hv : Value.okWide Tryz.prog w r b0 26 v) (h : DataW.Trod enc Tryz.prog w 0 (fun _ => true) held 26 v d p) :
    ∃ (a b e : Option Addr) (n c m d k f : Nat) (N : List Nd) (L : List St) (T : List Int), v = .agg #[.slice a n c, .slice b m d, .slice e k f] ∧ NdsR w a n c N ∧ StsR w b m d L ∧ IntsR w e k f T ∧ ∀ x ∈ N, -9223372036854775808 ≤ x.num ∧ x.num ≤ 9223372036854775807 := by
  obtain ⟨cs, rfl, hsz⟩ := okWide_struct Tryz.underlying26 hv
  have hsz2 := hsz.trans cellsTyp
  obtain ⟨l⟩ := cs
  match l, hsz2 with
  | [x0, x1, x2], _ =>
    obtain ⟨fuel, hf⟩ := h
    obtain ⟨xs, n, _, _, _, hlen, hx⟩ := DataW.trod_struct Tryz.underlying26 hf
    have get : ∀ i, i < 3 → ∃ y, xs[i]? = some y := fun i hi => ⟨xs[i]'(by simp at hlen; omega), List.getElem?_eq_getElem _⟩
    obtain ⟨y0, e0⟩ := get 0 (by omega)
    obtain ⟨y1, e1⟩ := get 1 (by omega)
    obtain ⟨y2, e2⟩ := get 2 (by omega)
    have f0 : DataW.trod enc Tryz.prog w 0 (fun _ => true) held n 22 [x0] = some y0 := by
      have := (hx 0 _ rfl).trans e0
      simpa [Value.cells, cellsNdS] using this
    have f1 : DataW.trod enc Tryz.prog w 0 (fun _ => true) held n 23 [x1] = some y1 := by
      have := (hx 1 _ rfl).trans e1
      simpa [Value.cells, cellsStS] using this
    have f2 : DataW.trod enc Tryz.prog w 0 (fun _ => true) held n 24 [x2] = some y2 := by
      have := (hx 2 _ rfl).trans e2
      simpa [Value.cells, cellsIS] using this
    obtain ⟨a1, n1, c1, rfl⟩ := slice_form Tryz.underlying22 f0
    obtain ⟨a2, n2, c2, rfl⟩ := slice_form Tryz.underlying23 f1
    obtain ⟨a3, n3, c3, rfl⟩ := slice_form Tryz.underlying24 f2
    obtain ⟨N, hN, hNum⟩ := NdsR.of_trod f0
    obtain ⟨L, hL⟩ := StsR.of_trod f1
    obtain ⟨I, hI⟩ := IntsR.of_trod f2
    exact ⟨a1, a2, a3, n1, c1, n2, c2, n3, c3, N, L, I, rfl, hN, hL, hI, hNum⟩

end

end Go.Proofs.YtpbopjgmiaoomaaGreatDoor
