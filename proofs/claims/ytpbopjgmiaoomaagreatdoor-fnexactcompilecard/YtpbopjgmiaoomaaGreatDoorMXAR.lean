/-
  CPE, CPF, CPG, COW, JI, COX. Own work.
-/
import Derived.Test.YtpbopjgmiaoomaaGreatDoorCPC
import Derived.Test.YtpbopjgmiaoomaaGreatDoorJN
import Derived.Test.YtpbopjgmiaoomaaGreatDoorMXAC
import Derived.Test.YtpbopjgmiaoomaaGreatDoorMXAT
import Derived.Test.YtpbopjgmiaoomaaGreatDoorMXAW
import Derived.Test.YtpbopjgmiaoomaaGreatDoorMXAN
import Derived.Test.YtpbopjgmiaoomaaGreatDoorMXAF
namespace Go.Proofs.YtpbopjgmiaoomaaGreatDoor
open Go.RowKit
set_option linter.unusedVariables false

def Sz1 (W : World) (k : K5) (e : Ex) : Prop := Calls Tryz.prog 45 #[.agg #[.int .i64 k.op, .int .i64 k.num, .string k.text, .slice k.an k.nn k.cn, .slice k.ka k.kn k.kc]] W fun r w' => r = .returned (.int .i64 (sizeI e)) ∧ Below W.heap.size W w'

def Tr1 (w0 W : World) (k : K5) (e : Ex) : Prop := ∀ at_ : Nat, at_ + sizeI e ≤ 1048576 → Calls Tryz.prog 17 #[.agg #[.int .i64 k.op, .int .i64 k.num, .string k.text, .slice k.an k.nn k.cn, .slice k.ka k.kn k.kc], .int .i64 at_] W fun r w' => (∃ v, r = .returned v ∧ InsO w0 W.heap.size v (treeI e at_) w') ∧ Below W.heap.size W w'

/-- what the model says of a tree, wherever its blocks are kept -/
def SmC (w0 : World) (lo hi : Nat) (w : World) (k : K5) (e : Ex) : Prop := ∀ W, KeptR lo hi w W → sizeI e ≤ 1048576 → Sz1 W k e ∧ Tr1 w0 W k e

theorem SmC.keep {w0 : World} {lo hi : Nat} {w w' : World} {k : K5} {e : Ex} (h : SmC w0 lo hi w k e) (hk : KeptR lo hi w w') : SmC w0 lo hi w' k e := fun W hW => h W (hk.trans hW)

/-- where a node's names lie nowhere there is no room -/
def NmZ (w : World) (a : Option Addr) (N : List Nd) : Prop := ∀ j, j < N.length → ∀ b off, a = some ⟨b, off, none⟩ → ∀ an nn cn, w.cell? ⟨b, off + j * 5 + 3, none⟩ = some (.slice an nn cn) → an = none → cn = 0

theorem NmZ.below {w w' : World} {a : Option Addr} {n c : Nat} {N : List Nd} (h : NmZ w a N) (hN : Nds w a n c N) (hb : Below w.heap.size w w') : NmZ w' a N := fun j hj b off ha an nn cn hc => by
  obtain ⟨b', off', ha', hbl, _⟩ := hN.cells j hj
  rw [ha] at ha'
  cases ha'
  refine h j hj b off ha an nn cn ?_
  rw [← hc]
  exact (hb.cell (p := ⟨b, off + j * 5 + 3, none⟩) hbl).symm

/-- the kind of a constant -/
def tyC (op : Int) : Int := if op = 1 then 2 else if op = 2 then 3 else if op = 3 then 1 else 4

/-- a tree by its node and its kids -/
inductive FitK (op num : Int) (text : ByteArray) (ss : List ByteArray) : List Ex → Ex → Prop
  | attr (i : Int) (h : op = 6) : FitK op num text ss [] (.attr i num)
  | lett (i : Int) (h : op = 7) : FitK op num text ss [] (.lett i num)
  | const (e : Ex) (h : 1 ≤ op ∧ op ≤ 5) (ht : ∀ a, treeI e a = [⟨1, 0, ⟨tyC op, num, text, ss⟩⟩]) (hz : sizeI e = 1) : FitK op num text ss [] e
  | un (i : Int) (e0 : Ex) (h : 8 ≤ op ∧ op ≤ 10) : FitK op num text ss [e0] (.un i op e0)
  | bin (i : Int) (e0 e1 : Ex) (h : 11 ≤ op ∧ op ≤ 26) : FitK op num text ss [e0, e1] (.bin i op e0 e1)
  | ite (i : Int) (e0 e1 e2 : Ex) (h : op = 27) : FitK op num text ss [e0, e1, e2] (.ite i e0 e1 e2)

theorem FitK.size {op num : Int} {text : ByteArray} {ss : List ByteArray} {es : List Ex} {e : Ex} (h : FitK op num text ss es e) : sizeL op (es.map sizeI) = sizeI e := by
  cases h with
  | attr i h => subst h; rfl
  | lett i h => subst h; rfl
  | const e h ht hz => rw [hz, sizeL, if_neg (by omega), if_neg (by omega)]; rfl
  | un i e0 h => rw [sizeL, if_neg (by omega), if_neg (by omega)]; simp [sizeI]
  | bin i e0 e1 h =>
    rw [sizeL, sizeI]
    by_cases hq : op = 25 ∨ op = 26
    · rw [if_pos hq, if_pos hq]; simp; omega
    · rw [if_neg hq, if_neg hq, if_neg (by omega)]; simp; omega
  | ite i e0 e1 e2 h => subst h; rw [sizeL, if_neg (by decide), if_pos rfl, sizeI]; simp; omega

theorem FitK.sum {op num : Int} {text : ByteArray} {ss : List ByteArray} {es : List Ex} {e : Ex} (h : FitK op num text ss es e) : (es.map sizeI).sum ≤ sizeI e := by
  have := h.size
  rw [sizeL] at this
  omega

theorem sum_mem {n : Nat} : ∀ {ns : List Nat}, n ∈ ns → n ≤ ns.sum
  | m :: ns, h => by
    rcases List.mem_cons.1 h with rfl | h
    · simp
    · have := sum_mem h; simp only [List.sum_cons]; omega

/-- the kids made so far -/
structure Tk (w0 : World) (B : Nat) (kv : Value) (vs : List K5) (bs : List Ex) (w : World) : Prop where
  own : w.ownsRow B 54 5 kv vs.length (vs.flatMap K5.cs)
  len : bs.length = vs.length
  each : ∀ j, (h1 : j < vs.length) → (h2 : j < bs.length) → ∃ lo hi, B ≤ lo ∧ hi ≤ w.heap.size ∧ (∀ q, kv.ownBlock = some q → q < lo ∨ hi ≤ q) ∧ SmC w0 lo hi w vs[j] bs[j]

theorem Tk.below {w0 : World} {B : Nat} {kv : Value} {vs : List K5} {bs : List Ex} {w w' : World} (h : Tk w0 B kv vs bs w) (hb : Below w.heap.size w w') : Tk w0 B kv vs bs w' :=
  ⟨ownsRow_below h.own hb (Nat.le_refl _), h.len, fun j h1 h2 => by
    obtain ⟨lo, hi, a1, a2, a3, a4⟩ := h.each j h1 h2
    exact ⟨lo, hi, a1, Nat.le_trans a2 hb.size, a3, a4.keep (KeptR.of_below hb a2 a2)⟩⟩

theorem Tk.set {w0 : World} {B : Nat} {kv : Value} {vs : List K5} {bs : List Ex} {w : World} (h : Tk w0 B kv vs bs w) (p : Addr) (u : Value) (hp : p.block < B) : Tk w0 B kv vs bs (w.setCell p u) :=
  ⟨own_set3 h.own p u (fun q hq => by have := (h.own.lt q hq).1; omega), h.len, fun j h1 h2 => by
    obtain ⟨lo, hi, a1, a2, a3, a4⟩ := h.each j h1 h2
    exact ⟨lo, hi, a1, by simpa using a2, a3, a4.keep ⟨by simpa using a2, fun q h3 h4 => heap_setCell_other w p q u (by omega)⟩⟩⟩

theorem Tk.snoc {w0 : World} {B : Nat} {kv : Value} {vs : List K5} {bs : List Ex} {w w3 : World} {o : Obj} {g cap lo : Nat} {k : K5} {b : Ex} (h : Tk w0 B kv vs bs w) (hlo : B ≤ lo) (hkv : ∀ q, kv.ownBlock = some q → q < lo) (hs : SmC w0 lo w.heap.size w k b)
    (O3 : w3.ownsRow B 54 5 (.slice (some ⟨g, 0, none⟩) (vs.length + 1) cap) (vs.length + 1) (vs.flatMap K5.cs ++ k.cs)) (hgrow : (w.alloc o).grownBy w3 kv.ownBlock) (hat : kv.ownBlock = some g ∨ g = w.heap.size + 1) :
    Tk w0 B (.slice (some ⟨g, 0, none⟩) (vs.length + 1) cap) (vs ++ [k]) (bs ++ [b]) w3 := by
  have za : (w.alloc o).heap.size = w.heap.size + 1 := by simp
  have zz : w.heap.size ≤ w3.heap.size := by have := hgrow.size; omega
  have kb : ∀ q, q < w.heap.size → kv.ownBlock ≠ some q → w3.heap[q]? = w.heap[q]? := fun q h1 h2 => (hgrow.block q (by rw [za]; omega) (fun e => h2 e.symm)).trans (Below.heap_alloc w o q h1)
  refine ⟨?_, by simp [h.len], fun j h1 h2 => ?_⟩
  · rw [List.flatMap_append, List.length_append]
    simpa using O3
  · by_cases hj : j < vs.length
    · obtain ⟨l, i, a1, a2, a3, a4⟩ := h.each j hj (by rw [h.len]; exact hj)
      rw [List.getElem_append_left hj, List.getElem_append_left (by rw [h.len]; exact hj)]
      refine ⟨l, i, a1, by omega, fun q hq => ?_, a4.keep ⟨by omega, fun q h3 h4 => kb q (by omega) (fun e => by rcases a3 q e with h5 | h5 <;> omega)⟩⟩
      have e : g = q := by simpa [Value.ownBlock] using hq
      subst e
      rcases hat with e | e
      · exact a3 g e
      · right; omega
    · have ej : j = vs.length := by simp at h1; omega
      subst ej
      have e1 : (vs ++ [k])[vs.length] = k := by simp
      have e2 : (bs ++ [b])[vs.length] = b := by simp [← h.len]
      rw [e1, e2]
      refine ⟨lo, w.heap.size, hlo, zz, fun q hq => ?_, hs.keep ⟨zz, fun q h3 h4 => kb q h4 (fun e => by have := hkv q e; omega)⟩⟩
      have e : g = q := by simpa [Value.ownBlock] using hq
      subst e
      rcases hat with e | e
      · exact .inl (hkv g e)
      · right; omega

/-- what they make together -/
theorem Tk.all {w0 : World} {B lo : Nat} {ka : Option Addr} {m kc : Nat} {vs : List K5} {bs : List Ex} {w : World} (h : Tk w0 B (.slice ka m kc) vs bs w) (hm : m ≤ 1048576) (hl : vs.length = m) (hlo : lo ≤ B) (op num : Int) (text : ByteArray) (an : Option Addr) (nn cn : Nat) (ss : List ByteArray) (hS : StZ w0 an nn cn ss) (e : Ex) (hF : FitK op num text ss bs e) : SmC w0 lo w.heap.size w ⟨op, num, text, an, nn, cn, ka, m, kc⟩ e := fun W hW hz => by
  have hr := rows5_of (by have := h.own; rw [hl] at this; exact this) hl
  have hrW : Rows5 W ka vs := fun j hj => by
    obtain ⟨b, off, rfl, h2, h3⟩ := hr j hj
    have hb : B ≤ b := (h.own.lt b rfl).1
    exact ⟨b, off, rfl, Nat.lt_of_lt_of_le h2 hW.1, fun r hr => (World.cell?_of_block (w := w) (hW.2 b (by omega) h2)).trans (h3 r hr)⟩
  have hbl : bs.length = m := by rw [h.len, hl]
  have hsum := hF.sum
  have hbz : ∀ x ∈ bs, sizeI x ≤ 1048576 := fun x hx => by
    have := sum_mem (List.mem_map_of_mem (f := sizeI) hx)
    omega
  have kid : ∀ j, (h1 : j < vs.length) → (h2 : j < bs.length) → KiC w0 W vs[j] bs[j] ∧ KiS W vs[j] bs[j] := fun j h1 h2 => by
    obtain ⟨l, i, a1, a2, a3, a4⟩ := h.each j h1 h2
    have key : ∀ W', Below W.heap.size W W' → Sz1 W' vs[j] bs[j] ∧ Tr1 w0 W' vs[j] bs[j] := fun W' hb => a4 W' ((hW.sub (by omega) a2).trans (KeptR.of_below hb (Nat.le_trans a2 hW.1) (Nat.le_trans a2 hW.1))) (hbz _ (List.getElem_mem h2))
    exact ⟨fun W' hb => (key W' hb).2, fun W' hb => (key W' hb).1⟩
  refine ⟨?_, fun at_ hat => ?_⟩
  · rw [Sz1, ← hF.size]
    refine size_rec op num text an nn cn ka m kc hm vs hl (bs.map sizeI) (by rw [List.length_map, hbl]) (by omega) W hrW (fun j h1 h2 W' hb => ?_)
    have := (kid j h1 (by simpa using h2)).2 W' hb
    simpa using this
  · cases hF with
    | attr i h6 => subst h6; exact tree_attr w0 num text an nn cn ka m kc i at_ W
    | lett i h7 => subst h7; exact tree_lett w0 num text an nn cn ka m kc i at_ W
    | const e h5 ht hz =>
      have : m = 0 := by rw [← hbl]; rfl
      subst this
      rw [ht]
      exact tree_const w0 op num text an nn cn ka kc (beq_eq_false_iff_ne.2 (by omega)) (beq_eq_false_iff_ne.2 (by omega)) at_ W ss hS
    | un i e0 h8 =>
      have : m = 1 := by rw [← hbl]; rfl
      subst this
      match vs, hl, kid, hrW with
      | [k0], _, kid, hrW => exact tree_un w0 op num text an nn cn ka kc k0 i e0 h8 at_ hat W hrW (kid 0 (by simp) (by simp)).1
    | bin i e0 e1 h11 =>
      have : m = 2 := by rw [← hbl]; rfl
      subst this
      match vs, hl, kid, hrW with
      | [k0, k1], _, kid, hrW =>
        have q0 := kid 0 (by simp) (by simp)
        have q1 := kid 1 (by simp) (by simp)
        by_cases h25 : op = 25
        · subst h25; exact tree_and w0 num text an nn cn ka kc k0 k1 i e0 e1 at_ hat W hrW q0.1 q0.2 q1.1 q1.2
        by_cases h26 : op = 26
        · subst h26; exact tree_or w0 num text an nn cn ka kc k0 k1 i e0 e1 at_ hat W hrW q0.1 q0.2 q1.1 q1.2
        exact tree_bin w0 op num text an nn cn ka kc k0 k1 i e0 e1 (by omega) at_ hat W hrW q0.1 q0.2 q1.1 q1.2
    | ite i e0 e1 e2 h27 =>
      have : m = 3 := by rw [← hbl]; rfl
      subst this
      subst h27
      match vs, hl, kid, hrW with
      | [k0, k1, k2], _, kid, hrW =>
        have q0 := kid 0 (by simp) (by simp)
        have q1 := kid 1 (by simp) (by simp)
        have q2 := kid 2 (by simp) (by simp)
        exact tree_ite w0 num text an nn cn ka kc k0 k1 k2 i e0 e1 e2 at_ hat W hrW q0.1 q0.2 q1.1 q1.2 q2.1 q2.2

def L4C (w0 : World) (b : Ex) (w : World) (r : Ending) (w' : World) : Prop := ∃ k : K5, r = .returned (.agg #[.int .i64 k.op, .int .i64 k.num, .string k.text, .slice k.an k.nn k.cn, .slice k.ka k.kn k.kc]) ∧ SmC w0 w.heap.size w'.heap.size w' k b ∧ Below w.heap.size w w'

set_option maxRecDepth 100000 in
set_option maxHeartbeats 3200000 in
theorem l4of_kids (w0 : World) (a : Option Addr) (n c : Nat) (N : List Nd) (hN0 : Nds w0 a n c N) (hZ0 : NmZ w0 a N) (w : World) (hw : Below w0.heap.size w0 w) (i : Nat) (x : Nd) (hx : N[i]? = some x) (bs : List Ex) (hb : bs.length = x.kids.length) (e : Ex) (hFit : FitK x.op x.num x.text x.names bs e)
    (V : ∀ j, (h : j < x.kids.length) → (h2 : j < bs.length) → ∀ W, Below w.heap.size w W → Calls Tryz.prog 18 #[.slice a n c, .int .i64 x.kids[j]] W (L4C w0 bs[j] W)) :
    Calls Tryz.prog 18 #[.slice a n c, .int .i64 i] w (L4C w0 e w) := by
  obtain ⟨li, hli, lz0, lz1, lz2⟩ := info_parts infoL4
  have hnN := hN0.small
  have hlen := hN0.len
  have hi : i < N.length := (List.getElem?_eq_some_iff.1 hx).1
  have hxe : N[i] = x := (List.getElem?_eq_some_iff.1 hx).2
  have iin : (i : Int) < (n : Int) := by omega
  obtain ⟨b, off, rfl, hbl, an, nn, cn, ak, nk, ck, c0, c1, c2, c3, c4, hNm, hKd⟩ := hN0.cells i hi
  rw [hxe] at c0 c1 c2 hKd hNm
  have HNM := hide (show StZ w0 an nn cn x.names from ⟨hNm, hZ0 i hi b off rfl an nn cn c3⟩)
  have HFit := hide hFit
  replace c0 := (hw.cell (by exact hbl)).trans c0
  replace c1 := (hw.cell (by exact hbl)).trans c1
  replace c2 := (hw.cell (by exact hbl)).trans c2
  replace c3 := (hw.cell (by exact hbl)).trans c3
  replace c4 := (hw.cell (by exact hbl)).trans c4
  replace hKd := hKd.below hw (Nat.le_refl _)
  replace hbl := Nat.lt_of_lt_of_le hbl hw.size
  clear hFit
  have HKL := hide hKd.len
  have hnk := hKd.small
  have HO := hide hb
  have HV := hide V
  clear hNm
  clear hlen hx hxe hi hb V hw hN0 hZ0
  have B0 := (Below.refl w.heap.size w).alloc (Nat.le_refl _) (.cells #[.int .i64 0, .int .i64 0, .string ⟨#[]⟩, .slice none 0 0, .slice none 0 0] 54)
  have B1 := B0.alloc B0.size (.cells #[.int .i64 x.op, .int .i64 x.num, .string x.text, .slice an nn cn, .slice ak nk ck] 103)
  have B2 := B1.alloc B1.size (.cells #[.int .i64 x.op, .int .i64 x.num, .string x.text, .slice an nn cn, .slice none 0 0] 54)
  have R0 := ((Row.new w #[.int .i64 0, .int .i64 0, .string ⟨#[]⟩, .slice none 0 0, .slice none 0 0] 54).alloc (.cells #[.int .i64 x.op, .int .i64 x.num, .string x.text, .slice an nn cn, .slice ak nk ck] 103)).alloc (.cells #[.int .i64 x.op, .int .i64 x.num, .string x.text, .slice an nn cn, .slice none 0 0] 54)
  have R1 := (Row.new (w.alloc (.cells #[.int .i64 0, .int .i64 0, .string ⟨#[]⟩, .slice none 0 0, .slice none 0 0] 54)) #[.int .i64 x.op, .int .i64 x.num, .string x.text, .slice an nn cn, .slice ak nk ck] 103).alloc (.cells #[.int .i64 x.op, .int .i64 x.num, .string x.text, .slice an nn cn, .slice none 0 0] 54)
  have R2 := Row.new ((w.alloc (.cells #[.int .i64 0, .int .i64 0, .string ⟨#[]⟩, .slice none 0 0, .slice none 0 0] 54)).alloc (.cells #[.int .i64 x.op, .int .i64 x.num, .string x.text, .slice an nn cn, .slice ak nk ck] 103)) #[.int .i64 x.op, .int .i64 x.num, .string x.text, .slice an nn cn, .slice none 0 0] 54
  have zz : (((w.alloc (.cells #[.int .i64 0, .int .i64 0, .string ⟨#[]⟩, .slice none 0 0, .slice none 0 0] 54)).alloc (.cells #[.int .i64 x.op, .int .i64 x.num, .string x.text, .slice an nn cn, .slice ak nk ck] 103)).alloc (.cells #[.int .i64 x.op, .int .i64 x.num, .string x.text, .slice an nn cn, .slice none 0 0] 54)).heap.size = w.heap.size + 3 := by simp
  simp only [World.size_alloc] at R1 R2
  go_enter Tryz.func18, Tryz.ntmps18
  go_wp2_with fail
  generalize (((w.alloc (.cells #[.int .i64 0, .int .i64 0, .string ⟨#[]⟩, .slice none 0 0, .slice none 0 0] 54)).alloc (.cells #[.int .i64 x.op, .int .i64 x.num, .string x.text, .slice an nn cn, .slice ak nk ck] 103)).alloc (.cells #[.int .i64 x.op, .int .i64 x.num, .string x.text, .slice an nn cn, .slice none 0 0] 54)) = W1 at B2 R0 R1 R2 zz ⊢
  clear B0 B1
  have E0 : Tk w0 (w.heap.size + 3) (.slice none 0 0) [] [] W1 := ⟨World.ownsRow_nil _ _ _ _, rfl, fun j h => absurd h (by simp)⟩
  generalize hg0 : w.heap.size = rb at B2 R0 R1 R2 zz E0 ⊢
  have HG := hide hg0
  generalize hg1 : rb + 1 = nb at R1 R2 ⊢
  generalize hg2 : nb + 1 = tb at R2 ⊢
  generalize hg3 : rb + 3 = B at zz E0 ⊢
  have ORD : rb < nb ∧ nb < tb ∧ tb < B := by omega
  have HKd := hide hKd
  clear hg0 hg1 hg2 hg3 hKd c0 c1 c2 c3 c4 hbl
  go_loopw [25] (fun i wr => ∃ (j : Nat) (kv : Value) (vs : List K5), j ≤ nk ∧ i = .int .i64 j ∧ Hid (vs.length = j) ∧ Row wr tb #[.int .i64 x.op, .int .i64 x.num, .string x.text, .slice an nn cn, kv] 54 ∧ Row wr nb #[.int .i64 x.op, .int .i64 x.num, .string x.text, .slice an nn cn, .slice ak nk ck] 103 ∧ Row wr rb #[.int .i64 0, .int .i64 0, .string ⟨#[]⟩, .slice none 0 0, .slice none 0 0] 54 ∧ Tk w0 B kv vs (bs.take j) wr ∧ Below rb w wr ∧ B ≤ wr.heap.size) (fun i _ => nk - (intOf i).toNat)
  case atStart => exact ⟨0, _, [], Nat.zero_le _, rfl, hide rfl, R2, R1, R0, E0, B2, by omega⟩
  case round =>
    obtain ⟨j, kv, vs, hj, rfl, HJ, RT, RN, RR, TK, D1, hB⟩ := hrel
    obtain ⟨xk, ck2, rfl, _⟩ := owns_form2 TK.own
    obtain ⟨t0, t1, t2, t3, t4, tf⟩ := row5 RT
    obtain ⟨n0, n1, n2, n3, n4, nf⟩ := row5 RN
    by_cases hlt : j < nk
    · have ilt : (j : Int) < (nk : Int) := by omega
      have j1 : j < x.kids.length := by rw [unhide HKL]; exact hlt
      have j2 : j < bs.length := by rw [unhide HO]; exact j1
      have D1w : Below w.heap.size w wr := by rw [unhide HG]; exact D1
      obtain ⟨bk, ok, rfl, hbk, ck0⟩ := ((unhide HKd).below D1w (Nat.le_refl _)).cells j j1
      have HC := hide (retOf (unhide HV j j1 j2 wr.drew D1w.drew) (fun e w' ⟨k, h, _⟩ => ⟨_, h⟩))
      have HTB := hide (show bs.take (j + 1) = bs.take j ++ [bs[j]] from List.take_succ_eq_append_getElem j2)
      have Hlt := hide hlt
      generalize x.kids[j] = kj at ck0 HC
      generalize bs[j] = bj at HC HTB
      have hvl : vs.length ≤ 1048576 := by have := unhide HJ; omega
      clear hlt j1 j2
      have RTd := RT.after (Below.refl _ _).drew (Nat.le_refl _)
      have TKd := TK.below (Below.refl _ _).drew
      have sd : wr.drew.cell? ⟨tb, 4, none⟩ = some (.slice xk vs.length ck2) := t4
      have hnm : (Tryz.f18.name == "runtime.NumGoroutine") = false := by kernel_rfl
      have hbd : Tryz.f18.body.isNone = false := by kernel_rfl
      have hkb : ∀ q, (Value.slice xk vs.length ck2).ownBlock = some q → B ≤ q ∧ q < wr.heap.size := fun q hq => TK.own.lt q hq
      go_wp2_with fail
      go_region_law (first
        | (refine step_callR2 rfl 18 _ Tryz.func18 hnm hbd _ _ _ rfl (.slice (some ⟨b, off, none⟩) n c) (.int .i64 kj) rfl rfl _ (unhide HC) ?_; rintro v5 w5 ⟨k5, hv5, hS5, hb5⟩; obtain rfl := ending_inj hv5; obtain ⟨kop, knum, ktext, kan, knn, kcn, kka, kkn, kkc⟩ := k5; dsimp only at hv5 hS5 ⊢; have RT5 := RTd.after hb5 (Nat.le_refl _); obtain ⟨e0, e1, e2, e3, e4, ef⟩ := row5 RT5; have TK5 := TKd.below hb5; have OW5 := World.ownsRow.alloc TK5.own (.cells #[.int .i64 kop, .int .i64 knum, .string ktext, .slice kan knn kcn, .slice kka kkn kkc] 54); have RT6 := RT5.alloc (.cells #[.int .i64 kop, .int .i64 knum, .string ktext, .slice kan knn kcn, .slice kka kkn kkc] 54); obtain ⟨i0, i1, i2, i3, i4, if5⟩ := row5 RT6; have NW := World.news_of_block (heap_alloc_new w5 (.cells #[.int .i64 kop, .int .i64 knum, .string ktext, .slice kan knn kcn, .slice kka kkn kkc] 54)); have z5 := hb5.size)
        | (refine step_append_lies _ rfl _ _ 52 rfl B 54 li (.agg #[.int .i64 0, .int .i64 0, .string ByteArray.empty, .slice none 0 0, .slice none 0 0]) 5 80 Tryz.underlying52 hli lz0 lz1 lz2 rfl (by decide) (.slice xk vs.length ck2) vs.length (vs.flatMap K5.cs) rfl OW5 ⟨w5.heap.size, 0, none⟩ 1 1 (K5.cs ⟨kop, knum, ktext, kan, knn, kcn, kka, kkn, kkc⟩) rfl rfl NW (by intro u hu; simp [K5.cs] at hu; rcases hu with rfl | rfl | rfl | rfl | rfl <;> rfl) (by decide) (by unfold maxLen; omega) (by omega) (by have : wr.drew.heap.size = wr.heap.size := rfl; simp; omega) _ rfl ?_; intro g7 cap7 w7 O7 hgrow hat hlt7; have RT7 : Row w7 tb _ _ := ⟨(hgrow.block tb RT6.lt (fun e => by have := (hkb _ e.symm).1; omega)).trans RT6.out⟩; have s7 : w7.cell? ⟨tb, 4, none⟩ = some (.slice xk vs.length ck2) := RT7.cell 4; have f7 := RT7.frozen 4))
      all_goals
        have hd0 : wr.drew.heap.size = wr.heap.size := rfl
        have TK7 := TK5.snoc (lo := wr.drew.heap.size) (k := ⟨kop, knum, ktext, kan, knn, kcn, kka, kkn, kkc⟩) (b := bj) (by omega) (fun q hq => by have := (hkb q hq).2; omega) hS5 O7 hgrow (hat.imp id (fun e => by rw [e]; simp))
        have TK8 := TK7.set ⟨tb, 4, none⟩ (.slice (some ⟨g7, 0, none⟩) (vs.length + 1) cap7) ORD.2.2
        have RT8 := RT7.set 4 (.slice (some ⟨g7, 0, none⟩) (vs.length + 1) cap7)
        simp only [List.setIfInBounds_toArray, List.set_cons_zero, List.set_cons_succ] at RT8
        have hne : ∀ q, q < B → some q ≠ (Value.slice xk vs.length ck2).ownBlock := fun q hq e => by have := (hkb q e.symm).1; omega
        have RN8 := (((((RN.after (Below.refl _ _).drew (Nat.le_refl _)).after hb5 (Nat.le_refl _)).alloc (.cells #[.int .i64 kop, .int .i64 knum, .string ktext, .slice kan knn kcn, .slice kka kkn kkc] 54)).grown hgrow (hne nb (by omega))).setFar (p := ⟨tb, 4, none⟩) (by show nb ≠ tb; omega) (.slice (some ⟨g7, 0, none⟩) (vs.length + 1) cap7))
        have RR8 := (((((RR.after (Below.refl _ _).drew (Nat.le_refl _)).after hb5 (Nat.le_refl _)).alloc (.cells #[.int .i64 kop, .int .i64 knum, .string ktext, .slice kan knn kcn, .slice kka kkn kkc] 54)).grown hgrow (hne rb (by omega))).setFar (p := ⟨tb, 4, none⟩) (by show rb ≠ tb; omega) (.slice (some ⟨g7, 0, none⟩) (vs.length + 1) cap7))
        have D8 := ((((D1.drew).trans (hb5.mono (by omega))).alloc (by omega) (.cells #[.int .i64 kop, .int .i64 knum, .string ktext, .slice kan knn kcn, .slice kka kkn kkc] 54)).grown hgrow (by simp; omega) (fun q hq => by have := (hkb q hq).1; omega)).setCell (p := ⟨tb, 4, none⟩) (by show rb ≤ tb; omega) (.slice (some ⟨g7, 0, none⟩) (vs.length + 1) cap7)
        have z8 : B ≤ (w7.setCell ⟨tb, 4, none⟩ (.slice (some ⟨g7, 0, none⟩) (vs.length + 1) cap7)).heap.size := by have := hgrow.size; simp at this ⊢; omega
        have HVL := hide (show (vs ++ [(⟨kop, knum, ktext, kan, knn, kcn, kka, kkn, kkc⟩ : K5)]).length = j + 1 by rw [List.length_append, unhide HJ]; rfl)
        have HTK := hide (show Tk w0 B (.slice (some ⟨g7, 0, none⟩) (vs.length + 1) cap7) (vs ++ [(⟨kop, knum, ktext, kan, knn, kcn, kka, kkn, kkc⟩ : K5)]) (bs.take (j + 1)) (w7.setCell ⟨tb, 4, none⟩ (.slice (some ⟨g7, 0, none⟩) (vs.length + 1) cap7)) by rw [unhide HTB]; exact TK8)
        clear hgrow hat O7 TK7 TK8 TK5 TKd TK RT RTd RT5 RT6 RT7 OW5 NW hS5
        go_wp2_with fail
        go_roundw
        case rel => exact ⟨j + 1, _, _, unhide Hlt, by go_num, HVL, RT8, RN8, RR8, unhide HTK, D8, z8⟩
        case measure => have := unhide Hlt; simp [intOf]; omega
    · have e : j = nk := by omega
      subst e
      have Q0 := RR
      obtain ⟨q00, q01, q02, q03, q04, qf0⟩ := row5 Q0
      have Q1 := Q0.set 0 (.int .i64 x.op)
      simp only [List.setIfInBounds_toArray, List.set_cons_zero] at Q1
      obtain ⟨q10, q11, q12, q13, q14, qf1⟩ := row5 Q1
      have Q2 := Q1.set 1 (.int .i64 x.num)
      simp only [List.setIfInBounds_toArray, List.set_cons_zero, List.set_cons_succ] at Q2
      obtain ⟨q20, q21, q22, q23, q24, qf2⟩ := row5 Q2
      have Q3 := Q2.set 2 (.string x.text)
      simp only [List.setIfInBounds_toArray, List.set_cons_zero, List.set_cons_succ] at Q3
      obtain ⟨q30, q31, q32, q33, q34, qf3⟩ := row5 Q3
      have Q4 := Q3.set 3 (.slice an nn cn)
      simp only [List.setIfInBounds_toArray, List.set_cons_zero, List.set_cons_succ] at Q4
      obtain ⟨q40, q41, q42, q43, q44, qf4⟩ := row5 Q4
      have Q5 := Q4.set 4 (.slice xk vs.length ck2)
      simp only [List.setIfInBounds_toArray, List.set_cons_zero, List.set_cons_succ] at Q5
      obtain ⟨s0, s1, s2, s3, s4, _⟩ := row5 Q5
      have TKf := ((((TK.set ⟨rb, 0, none⟩ (.int .i64 x.op) (by show rb < B; omega)).set ⟨rb, 1, none⟩ (.int .i64 x.num) (by show rb < B; omega)).set ⟨rb, 2, none⟩ (.string x.text) (by show rb < B; omega)).set ⟨rb, 3, none⟩ (.slice an nn cn) (by show rb < B; omega)).set ⟨rb, 4, none⟩ (.slice xk vs.length ck2) (by show rb < B; omega)
      have Df := ((((D1.setCell (p := ⟨rb, 0, none⟩) (Nat.le_refl rb) (.int .i64 x.op)).setCell (p := ⟨rb, 1, none⟩) (Nat.le_refl rb) (.int .i64 x.num)).setCell (p := ⟨rb, 2, none⟩) (Nat.le_refl rb) (.string x.text)).setCell (p := ⟨rb, 3, none⟩) (Nat.le_refl rb) (.slice an nn cn)).setCell (p := ⟨rb, 4, none⟩) (Nat.le_refl rb) (.slice xk vs.length ck2)
      have hvm : vs.length ≤ 1048576 := by have := unhide HJ; omega
      have hbt : bs.take j = bs := List.take_of_length_le (by rw [unhide HO, unhide HKL]; exact Nat.le_refl _)
      rw [hbt] at TKf
      have HSM := hide (TKf.all hvm rfl (by omega : rb ≤ B) x.op x.num x.text an nn cn x.names (unhide HNM) e (unhide HFit))
      clear hbt
      clear TK TKf
      go_wp2_with fail
      refine bodyPost_ret (v := .agg #[.int .i64 x.op, .int .i64 x.num, .string x.text, .slice an nn cn, .slice xk vs.length ck2]) (by simp [results, Tryz.results18, go_sem, s0, s1, s2, s3, s4]) rfl ⟨⟨x.op, x.num, x.text, an, nn, cn, xk, vs.length, ck2⟩, rfl, ?_, ?_⟩
      · rw [unhide HG]
        exact unhide HSM
      · rw [unhide HG]
        exact Df

end Go.Proofs.YtpbopjgmiaoomaaGreatDoor

namespace Go.Proofs.YtpbopjgmiaoomaaGreatDoor
open Go.RowKit
set_option linter.unusedVariables false

theorem ba_empty {s : ByteArray} (h : s.size = 0) : s = ⟨#[]⟩ := by
  cases s with
  | mk d =>
    have : d.size = 0 := h
    rw [Array.eq_empty_of_size_eq_zero this]

theorem l4of_any (w0 : World) (a : Option Addr) (n c : Nat) (N : List Nd) (hN : Nds w0 a n c N) (hZ : NmZ w0 a N) (hF : ∀ x ∈ N, fieldsT x = true) {i : Nat} {e : Ex} (t : IsT N i e) : ∀ w, Below w0.heap.size w0 w → Calls Tryz.prog 18 #[.slice a n c, .int .i64 i] w (L4C w0 e w) := by
  have leaf : ∀ {i : Nat} {x : Nd} {e : Ex}, N[i]? = some x → x.kids = [] → FitK x.op x.num x.text x.names [] e → ∀ w, Below w0.heap.size w0 w → Calls Tryz.prog 18 #[.slice a n c, .int .i64 i] w (L4C w0 e w) := fun {i x e} h hk hf w hw => l4of_kids w0 a n c N hN hZ w hw i x h [] (by rw [hk]; rfl) e hf (fun j h1 => absurd h1 (by rw [hk]; simp))
  have fld : ∀ {i : Nat} {x : Nd}, N[i]? = some x → tfB x = true := fun h => by
    have := hF _ (List.mem_of_getElem? h)
    rw [fieldsT, Bool.and_eq_true] at this
    exact this.2
  induction t with
  | @int i x h ho hk =>
    have hq := fld h
    rw [tfB, if_neg (by omega), if_neg (by omega), if_pos (.inr ho)] at hq
    simp only [Bool.and_eq_true, decide_eq_true_eq] at hq
    refine leaf h hk (.const _ (by omega) (fun a => ?_) rfl)
    rw [treeI, exV, ba_empty hq.1, List.eq_nil_of_length_eq_zero hq.2, ho]
    · rfl
    all_goals (intros; simp_all)
  | @text i x h ho hk =>
    have hq := fld h
    rw [tfB, if_neg (by omega), if_neg (by omega), if_neg (by omega), wfB, if_neg (by omega), if_pos ho] at hq
    simp only [Bool.and_eq_true, decide_eq_true_eq] at hq
    refine leaf h hk (.const _ (by omega) (fun a => ?_) rfl)
    rw [treeI, exV, hq.1.2, List.eq_nil_of_length_eq_zero hq.2, ho]
    · rfl
    all_goals (intros; simp_all)
  | @bool i x h ho hk =>
    have hq := fld h
    rw [tfB, if_neg (by omega), if_neg (by omega), if_neg (by omega), wfB, if_neg (by omega), if_neg (by omega), if_pos ho] at hq
    simp only [Bool.and_eq_true, decide_eq_true_eq] at hq
    refine leaf h hk (.const _ (by omega) (fun a => ?_) rfl)
    have hb : (if decide (x.num = 1) = true then (1 : Int) else 0) = x.num := by
      rcases hq.1.1 with e | e <;> rw [e] <;> rfl
    rw [treeI, exV, hb, ba_empty hq.1.2, List.eq_nil_of_length_eq_zero hq.2, ho]
    · rfl
    all_goals (intros; simp_all)
  | @set i x h ho hk a n c =>
    have hq := fld h
    rw [tfB, if_neg (by omega), if_neg (by omega), if_neg (by omega), wfB, if_neg (by omega), if_neg (by omega), if_neg (by omega), if_pos ho] at hq
    simp only [Bool.and_eq_true, decide_eq_true_eq] at hq
    refine leaf h hk (.const _ (by omega) (fun a => ?_) rfl)
    rw [treeI, exV, hq.1.2, ba_empty hq.2, ho]
    · rfl
    all_goals (intros; simp_all)
  | name h ho hk =>
    have hq := fld h
    rw [tfB, if_pos ho] at hq
    cases hq
  | attr h ho hk => exact leaf h hk (.attr _ ho)
  | lett h ho hk => exact leaf h hk (.lett _ ho)
  | @un i k x e h ho hk hi t ih =>
    intro w hw
    refine l4of_kids w0 a n c N hN hZ w hw i x h [e] (by rw [hk]; rfl) _ (.un _ _ ho) (fun j h1 h2 W hW => ?_)
    obtain rfl : j = 0 := by simpa using h2
    have e1 : x.kids[0] = (k : Int) := by simp [hk]
    rw [e1]
    exact ih W (hw.trans (hW.mono hw.size))
  | @bin i k l x e f h ho hk hi t u ih1 ih2 =>
    intro w hw
    refine l4of_kids w0 a n c N hN hZ w hw i x h [e, f] (by rw [hk]; rfl) _ (.bin _ _ _ ho) (fun j h1 h2 W hW => ?_)
    have hj : j = 0 ∨ j = 1 := by simp at h2; omega
    rcases hj with rfl | rfl
    · have e1 : x.kids[0] = (k : Int) := by simp [hk]
      rw [e1]
      exact ih1 W (hw.trans (hW.mono hw.size))
    · have e1 : x.kids[1] = (l : Int) := by simp [hk]
      rw [e1]
      exact ih2 W (hw.trans (hW.mono hw.size))
  | @ite i k l m x e f g h ho hk hi t u v ih1 ih2 ih3 =>
    intro w hw
    refine l4of_kids w0 a n c N hN hZ w hw i x h [e, f, g] (by rw [hk]; rfl) _ (.ite _ _ _ _ ho) (fun j h1 h2 W hW => ?_)
    have hj : j = 0 ∨ j = 1 ∨ j = 2 := by simp at h2; omega
    rcases hj with rfl | rfl | rfl
    · have e1 : x.kids[0] = (k : Int) := by simp [hk]
      rw [e1]
      exact ih1 W (hw.trans (hW.mono hw.size))
    · have e1 : x.kids[1] = (l : Int) := by simp [hk]
      rw [e1]
      exact ih2 W (hw.trans (hW.mono hw.size))
    · have e1 : x.kids[2] = (m : Int) := by simp [hk]
      rw [e1]
      exact ih3 W (hw.trans (hW.mono hw.size))

end Go.Proofs.YtpbopjgmiaoomaaGreatDoor

namespace Go.Proofs.YtpbopjgmiaoomaaGreatDoor
open Go.RowKit
set_option linter.unusedVariables false

open Classical in
/-- two values are the same -/
noncomputable def sameVl (v u : Vl) : Bool := decide (v = u)

open Classical in
set_option maxRecDepth 100000 in
set_option maxHeartbeats 1600000 in
theorem l5same_any (v u : Vl) (a : Option Addr) (n c : Nat) (a' : Option Addr) (n' c' : Nat) (w : World) (h : Strs w a n c v.names) (h' : Strs w a' n' c' u.names) :
    Calls Tryz.prog 19 #[.agg #[.int .i64 v.kind, .int .i64 v.num, .string v.text, .slice a n c], .agg #[.int .i64 u.kind, .int .i64 u.num, .string u.text, .slice a' n' c']] w fun r w' => r = .returned (.bool (sameVl v u)) ∧ Below w.heap.size w w' := by
  have B0 := ((Below.refl w.heap.size w).alloc (Nat.le_refl _) (.cells #[.int .i64 v.kind, .int .i64 v.num, .string v.text, .slice a n c] 57)).alloc (by simp) (.cells #[.int .i64 u.kind, .int .i64 u.num, .string u.text, .slice a' n' c'] 57)
  have R0 := (Row.new w #[.int .i64 v.kind, .int .i64 v.num, .string v.text, .slice a n c] 57).alloc (.cells #[.int .i64 u.kind, .int .i64 u.num, .string u.text, .slice a' n' c'] 57)
  have R1 := Row.new (w.alloc (.cells #[.int .i64 v.kind, .int .i64 v.num, .string v.text, .slice a n c] 57)) #[.int .i64 u.kind, .int .i64 u.num, .string u.text, .slice a' n' c'] 57
  simp only [World.size_alloc] at R1
  have HE := hide (show sameVl v u = (decide (v.kind = u.kind) && eqP v.num u.num v.text u.text v.names u.names) by
    obtain ⟨k, m, t, s⟩ := v
    obtain ⟨k', m', t', s'⟩ := u
    rw [sameVl, eqP, ← Bool.decide_and, decide_eq_decide]
    simp only [Vl.mk.injEq])
  have HC := hide (fun W (hW : Below w.heap.size w W) => l3same_any 0 v.num v.text a n c v.names 0 u.num u.text a' n' c' u.names W (h.below hW (Nat.le_refl _)) (h'.below hW (Nat.le_refl _)))
  clear h h'
  by_cases hk : v.kind = u.kind
  · have ek : (v.kind == u.kind) = true := beq_iff_eq.2 hk
    have HX := hide (show sameVl v u = eqP v.num u.num v.text u.text v.names u.names by rw [unhide HE, decide_eq_true hk]; rfl)
    generalize eqP v.num u.num v.text u.text v.names u.names = bb at HC HX
    clear HE hk
    go_enter Tryz.func19, Tryz.ntmps19
    go_wp2_with fail
    refine (unhide HC _ B0).mono ?_
    rintro r w1 ⟨rfl, hb1⟩
    have B1 := B0.trans (hb1.mono B0.size)
    dsimp only
    go_wp2_with fail
    go_ret
    exact ⟨by rw [unhide HX]; rfl, B1⟩
  · have ek : (v.kind == u.kind) = false := beq_eq_false_iff_ne.2 hk
    have HX := hide (show sameVl v u = false by rw [unhide HE, decide_eq_false hk]; rfl)
    clear HE hk
    go_enter Tryz.func19, Tryz.ntmps19
    go_wp2_with fail
    go_ret
    exact ⟨by rw [unhide HX]; rfl, B0⟩

end Go.Proofs.YtpbopjgmiaoomaaGreatDoor

namespace Go.Proofs.YtpbopjgmiaoomaaGreatDoor
open Go.RowKit
set_option linter.unusedVariables false

theorem makes_cok {w0 : World} {N : List Nd} {L : List St} (h : WellPT N L) (hsm : ∀ x ∈ N, R64 x.num) : Makes w0 N (fun e => e.typed ∧ e.cok w0) := by
  intro k x an nn cn Es hx hl hE hf hS
  have hfd := h.fields _ (List.mem_of_getElem? hx)
  obtain ⟨e, m1, m2, m3⟩ := mkTT_of hx hfd (h.kids k _ hx) hl hE (fun e he => (hf e he).1) (an := an) (nn := nn) (cn := cn)
  refine ⟨e, m1, m2, m3, ?_⟩
  have hk := hsm x (List.mem_of_getElem? hx)
  rw [fieldsT, Bool.and_eq_true] at hfd
  have hq := hfd.2
  have fitAt : ∀ {m : Nat} {e : Ex}, Es[m]? = some e → e.cok w0 := fun h => (hf _ (List.mem_of_getElem? h)).2
  cases m1 with
  | int ho => exact ⟨.inr (.inl ⟨rfl, hk, rfl, rfl⟩), rfl⟩
  | text ho =>
    rw [tfB, if_neg (by omega), if_neg (by omega), if_neg (by omega), wfB, if_neg (by omega), if_pos ho] at hq
    simp only [Bool.and_eq_true, decide_eq_true_eq] at hq
    have hs : x.text.size ≤ 32 := by
      have := hq.1.1
      rw [quotedB, Bool.and_eq_true, decide_eq_true_eq] at this
      exact this.1
    have hv : valB (exV (.text k x.text)) = true := by
      have := hq.1.1
      have hz : quoB x.text = true := this
      unfold valB exV
      rw [if_neg (show ¬ (3 : Int) = 1 by decide), if_neg (show ¬ (3 : Int) = 2 by decide), if_pos (show (3 : Int) = 3 from rfl)]
      show (quoB x.text && true && true) = true
      rw [hz]
      rfl
    exact ⟨.inr (.inr (.inl ⟨rfl, by show x.text.size ≤ 255; omega, rfl, rfl⟩)), hv⟩
  | bool ho => trivial
  | set ho =>
    rw [tfB, if_neg (by omega), if_neg (by omega), if_neg (by omega), wfB, if_neg (by omega), if_neg (by omega), if_neg (by omega), if_pos ho] at hq
    simp only [Bool.and_eq_true, decide_eq_true_eq] at hq
    obtain ⟨s1, s2⟩ := setB_sizes hq.1.1
    have hv : valB (exV (.set k an nn cn x.names)) = true := by
      unfold valB exV
      rw [if_neg (show ¬ (4 : Int) = 1 by decide), if_neg (show ¬ (4 : Int) = 2 by decide), if_neg (show ¬ (4 : Int) = 3 by decide), if_pos (show (4 : Int) = 4 from rfl)]
      show (setB x.names && true && true) = true
      rw [hq.1.1]
      rfl
    exact ⟨⟨.inr (.inr (.inr ⟨rfl, by show x.names.length ≤ 255; omega, fun s hs => by have := s2 s hs; omega, rfl, rfl⟩)), hv⟩, hS, by omega⟩
  | name ho =>
    rw [tfB, if_pos ho] at hq
    cases hq
  | attr => trivial
  | lett => trivial
  | un h8 _ g1 => have q := fitAt g1; exact ⟨by omega, q⟩
  | bin h11 _ g1 g2 => exact ⟨by omega, fitAt g1, fitAt g2⟩
  | ite _ _ g1 g2 g3 => exact ⟨fitAt g1, fitAt g2, fitAt g3⟩

theorem sizeI_le : ∀ e : Ex, sizeI e ≤ 3 * e.cnt
  | .int .. => by simp [sizeI, Ex.cnt]
  | .text .. => by simp [sizeI, Ex.cnt]
  | .bool .. => by simp [sizeI, Ex.cnt]
  | .set .. => by simp [sizeI, Ex.cnt]
  | .name .. => by simp [sizeI, Ex.cnt]
  | .attr .. => by simp [sizeI, Ex.cnt]
  | .lett .. => by simp [sizeI, Ex.cnt]
  | .un _ _ k => by have := sizeI_le k; simp only [sizeI, Ex.cnt]; omega
  | .bin _ _ l r => by have := sizeI_le l; have := sizeI_le r; simp only [sizeI, Ex.cnt]; split <;> omega
  | .ite _ c t e => by have := sizeI_le c; have := sizeI_le t; have := sizeI_le e; simp only [sizeI, Ex.cnt]; omega

theorem szAt_le (Es : List Ex) (k : Int) (h : k = -1 ∨ (0 ≤ k ∧ k < Es.length)) : szAt Es k ≤ 3 * cntP Es k := by
  rw [szAt, cntP]
  by_cases e : k = -1
  · rw [if_pos e]; omega
  · have hk := h.resolve_left e
    have hk' : k.toNat < Es.length := by omega
    rw [if_neg e, if_neg e, exAt, List.getD_eq_getElem?_getD, List.getElem?_eq_getElem hk']
    exact sizeI_le _

def szL (Es : List Ex) (L : List St) : Nat := (L.map fun s => szAt Es s.cond + szAt Es s.grant + 2).sum

theorem szL_le (Es : List Ex) : ∀ (L : List St), (∀ s ∈ L, (s.cond = -1 ∨ (0 ≤ s.cond ∧ s.cond < Es.length)) ∧ (s.grant = -1 ∨ (0 ≤ s.grant ∧ s.grant < Es.length))) → szL Es L ≤ 3 * cntL Es L + 2 * L.length
  | [], _ => by simp [szL, cntL]
  | s :: L, h => by
    have ih := szL_le Es L (fun x hx => h x (List.mem_cons_of_mem _ hx))
    obtain ⟨h1, h2⟩ := h s (List.mem_cons_self ..)
    have a := szAt_le Es _ h1
    have b := szAt_le Es _ h2
    have e1 : szL Es (s :: L) = szAt Es s.cond + szAt Es s.grant + 2 + szL Es L := by simp [szL]
    have e2 : cntL Es (s :: L) = cntP Es s.cond + cntP Es s.grant + cntL Es L := by simp [cntL]
    rw [e1, e2, List.length_cons]
    omega

theorem szL_room (Es : List Ex) (L : List St) (k : Nat) (h : k < L.length) : szL Es (L.take k) + (szAt Es L[k].cond + szAt Es L[k].grant + 2) ≤ szL Es L := by
  have e : L = L.take k ++ L[k] :: L.drop (k + 1) := by rw [List.getElem_cons_drop, List.take_append_drop]
  have e2 := congrArg (szL Es) e
  simp only [szL, List.map_append, List.map_cons, List.sum_append, List.sum_cons] at e2 ⊢
  omega

theorem cpD_len (Es : List Ex) (g : Int) (s : Cs) : s.ins.length ≤ (cpD Es g s).ins.length ∧ (cpD Es g s).ins.length ≤ s.ins.length + (szAt Es g + 1) ∧ (cpD Es g s).pool.length ≤ s.pool.length + (szAt Es g + 1) := by
  rw [cpD, szAt]
  by_cases h : g = -1
  · rw [if_pos h, if_pos h]
    exact GrN.put _ s
  · rw [if_neg h, if_neg h]
    exact (cpE_grow _).comp (GrN.put ⟨25, 0, zeroV⟩) s

theorem cpS_len (Es : List Ex) (t : St) (s : Cs) (ht : t.kind = 3 ∨ t.cond ≠ -1) : s.ins.length ≤ (cpS Es s t).ins.length ∧ (cpS Es s t).ins.length ≤ s.ins.length + (szAt Es t.cond + szAt Es t.grant + 2) ∧ (cpS Es s t).pool.length ≤ s.pool.length + (szAt Es t.cond + szAt Es t.grant + 2) ∧ (cpS Es s t).slots ≤ s.slots + 1 := by
  have q := cpS_eq Es s t
  have hsl : (cpS Es s t).slots ≤ s.slots + 1 := by
    rw [q]
    show s.slots + letN t ≤ _
    rw [letN]; split <;> omega
  rw [cpS]
  rw [cpS] at hsl
  by_cases h1 : t.kind = 1
  · rw [if_pos h1] at hsl ⊢
    have hc : ¬ t.cond = -1 := by rcases ht with h | h <;> omega
    have := (cpE_grow (exAt Es t.cond)).comp (GrN.put ⟨4, (s.slots : Int), zeroV⟩) s
    have e : szAt Es t.cond = sizeI (exAt Es t.cond) := by rw [szAt, if_neg hc]
    simp only [Cs.withS] at *
    omega
  rw [if_neg h1] at hsl ⊢
  by_cases h2 : t.kind = 2
  · rw [if_pos h2] at hsl ⊢
    have hc : ¬ t.cond = -1 := by rcases ht with h | h <;> omega
    have e : szAt Es t.cond = sizeI (exAt Es t.cond) := by rw [szAt, if_neg hc]
    have a := (cpE_grow (exAt Es t.cond)).comp (GrN.put ⟨23, 0, zeroV⟩) s
    have b := cpD_len Es t.grant (putI (cpE (exAt Es t.cond) s) ⟨23, 0, zeroV⟩)
    have p1 : ∀ (t : Cs) (j : Nat) (x : Int), (patchI t j x).ins.length = t.ins.length := fun t j x => by simp [patchI]
    have p2 : ∀ (t : Cs) (j : Nat) (x : Int), (patchI t j x).pool.length = t.pool.length := fun t j x => rfl
    simp only [p1, p2] at *
    omega
  · rw [if_neg h2] at hsl ⊢
    have b := cpD_len Es t.grant s
    omega

theorem cpAll_len (Es : List Ex) : ∀ (L : List St) (s : Cs), (∀ t ∈ L, t.kind = 3 ∨ t.cond ≠ -1) → (cpAll Es s L).ins.length ≤ s.ins.length + szL Es L ∧ (cpAll Es s L).pool.length ≤ s.pool.length + szL Es L ∧ (cpAll Es s L).slots ≤ s.slots + L.length
  | [], s, _ => by simp [cpAll, szL]
  | t :: L, s, h => by
    have a := cpS_len Es t s (h t (List.mem_cons_self ..))
    have b := cpAll_len Es L (cpS Es s t) (fun x hx => h x (List.mem_cons_of_mem _ hx))
    have e1 : szL Es (t :: L) = szAt Es t.cond + szAt Es t.grant + 2 + szL Es L := by simp [szL]
    have e2 : cpAll Es s (t :: L) = cpAll Es (cpS Es s t) L := rfl
    rw [e1, e2, List.length_cons]
    omega

theorem cpAll_snoc (Es : List Ex) (s : Cs) (L : List St) (t : St) : cpAll Es s (L ++ [t]) = cpS Es (cpAll Es s L) t := by
  rw [cpAll, List.foldl_append]; rfl

end Go.Proofs.YtpbopjgmiaoomaaGreatDoor

namespace Go.Proofs.YtpbopjgmiaoomaaGreatDoor
open Go.RowKit
set_option linter.unusedVariables false

/-- what the program says of a typed policy -/
def IsWT (N : List Nd) (L : List St) (T : List Int) (b : Bool) : Prop :=
  (wellT N L = false ∧ b = false) ∨ (wellT N L = true ∧ ∃ Es : List Ex, Es.length = N.length ∧ (∀ j, (h : j < Es.length) → IsT N j Es[j]) ∧ b = (match ckAll Es (attN, [], []) L with
    | none => false
    | some st => decide (st.2.2 = T)))

set_option maxHeartbeats 400000 in
set_option maxRecDepth 100000 in
theorem untyped_any (a b e : Option Addr) (n c m d k f : Nat) (w : World) :
    Calls Tryz.prog 25 #[.agg #[.slice a n c, .slice b m d, .slice e k f]] w fun r w' => r = .returned (.agg #[.slice a n c, .slice b m d]) ∧ Below w.heap.size w w' := by
  have B0 := (Below.refl w.heap.size w).alloc (Nat.le_refl _) (.cells #[.slice a n c, .slice b m d, .slice e k f] 36)
  have B1 := B0.alloc B0.size (.cells #[.slice a n c, .slice b m d] 72)
  have R1 := Row.new (w.alloc (.cells #[.slice a n c, .slice b m d, .slice e k f] 36)) #[.slice a n c, .slice b m d] 72
  simp only [World.size_alloc] at R1
  obtain ⟨p0, p1⟩ := row2 R1
  go_enter Tryz.func25, Tryz.ntmps25
  go_wp2_with fail
  refine bodyPost_ret (v := .agg #[.slice a n c, .slice b m d]) (by simp [results, Tryz.results25, go_sem, p0, p1]) rfl ?_
  exact ⟨rfl, B1⟩

theorem ckAll_types {Es : List Ex} {L : List St} {st : CkS} (h : ckAll Es (attN, [], []) L = some st) (hc : cntL Es L ≤ 4000) : st.2.2.length ≤ 4000 := by
  have := (ckAll_len h).1
  simp at this
  omega

set_option maxHeartbeats 1600000 in
set_option maxRecDepth 100000 in
theorem iWellTyped_any (a b e : Option Addr) (n c m d k f : Nat) (N : List Nd) (L : List St) (T : List Int) (aT aN aA : Addr) (w : World) (h1 : Nds w a n c N) (h2 : Sts w b m d L) (h3 : Ints w e k f T) (hT : TabOK w) (hV : Vok w aT) (hE : Eok w aN aA) :
    Calls Tryz.prog 23 #[.agg #[.slice a n c, .slice b m d, .slice e k f]] w fun r w' => (∃ v, r = .returned (.bool v) ∧ IsWT N L T v) ∧ Below w.heap.size w w' := by
  have HN := hide h1.len
  have HL := hide h2.len
  have R0 := Row.new w #[.slice a n c, .slice b m d, .slice e k f] 36
  have B0 := (Below.refl w.heap.size w).alloc (Nat.le_refl _) (.cells #[.slice a n c, .slice b m d, .slice e k f] 36)
  have N0 := h1.below B0 (Nat.le_refl _)
  have L0 := h2.below B0 (Nat.le_refl _)
  have I0 := h3.below B0 (Nat.le_refl _)
  have T0 := hT.below B0 (Nat.le_refl _)
  have V0 := hV.below B0 (Nat.le_refl _)
  have E0 := hE.below B0 (Nat.le_refl _)
  clear h1 h2 h3 hT hV hE
  go_enter Tryz.func23, Tryz.ntmps23
  go_wp2_with fail
  refine (untyped_any _ _ _ _ _ _ _ _ _ _).mono ?_
  rintro r w1 ⟨rfl, hb1⟩
  dsimp only
  have N1 := N0.below hb1 (Nat.le_refl _)
  have L1 := L0.below hb1 (Nat.le_refl _)
  have I1 := I0.below hb1 (Nat.le_refl _)
  have T1 := T0.below hb1 (Nat.le_refl _)
  have V1 := V0.below hb1 (Nat.le_refl _)
  have E1 := E0.below hb1 (Nat.le_refl _)
  have R1 := R0.after hb1 (Nat.le_refl _)
  have B1 := B0.trans (hb1.mono B0.size)
  clear N0 L0 I0 T0 V0 E0 R0 B0 hb1
  go_wp2_with fail
  refine (wellFormedT_any _ _ _ _ _ _ N L _ N1 L1 T1).mono ?_
  rintro r w2 ⟨rfl, hb2⟩
  dsimp only
  have N2 := N1.below hb2 (Nat.le_refl _)
  have L2 := L1.below hb2 (Nat.le_refl _)
  have I2 := I1.below hb2 (Nat.le_refl _)
  have V2 := V1.below hb2 (Nat.le_refl _)
  have E2 := E1.below hb2 (Nat.le_refl _)
  have R2 := R1.after hb2 (Nat.le_refl _)
  have B2 := B1.trans (hb2.mono B1.size)
  clear N1 L1 I1 T1 V1 E1 R1 B1 hb2
  cases hw : wellT N L with
  | false =>
    have HW := hide hw
    clear hw
    go_wp2_with fail
    go_ret
    exact ⟨⟨_, rfl, .inl ⟨unhide HW, rfl⟩⟩, B2⟩
  | true =>
    have HW := hide hw
    have HP := hide (wellPT_of hw)
    clear hw
    go_wp2_with fail
    refine (newChecker_any aT _ V2).mono ?_
    rintro r w3 ⟨cb, mb, rfl, hmb, C3, M3, hb3⟩
    dsimp only
    have L3 := L2.below hb3 (Nat.le_refl _)
    have I3 := I2.below hb3 (Nat.le_refl _)
    have R3 := R2.after hb3 (Nat.le_refl _)
    have Q3 : Cm w2.heap.size cb mb attN [] [] (.slice none 0 0) (.slice none 0 0) w3 := ⟨C3, M3, hmb⟩
    obtain ⟨p0, p1, p2, _⟩ := row3 R3
    have z2 := R2.lt
    clear R2
    go_wp2_with fail
    refine (untyped_any _ _ _ _ _ _ _ _ _ _).mono ?_
    rintro r w4 ⟨rfl, hb4⟩
    dsimp only
    have L4 := L3.below hb4 (Nat.le_refl _)
    have D4 := hb3.trans (hb4.mono hb3.size)
    have Q4 := Q3.below hb4
    have R4 := R3.after hb4 (Nat.le_refl _)
    have HC := hide (statementsOf_any a b n c m d N L w2 w4 N2 D4 L4 Ex.typed (makes_typed (unhide HP)) (by rw [← unhide HN]; exact (unhide HP).roots))
    clear p0 p1 p2 R3 L3 C3 M3
    go_wp2_with fail
    refine (unhide HC).mono ?_
    rintro r w5 ⟨⟨v, Es, rfl, hEl, hE, hf, O5⟩, hb5⟩
    dsimp only
    have HEl := hide (show Es.length = N.length by rw [hEl, unhide HN])
    have HE := hide hE
    have HOK := hide (okP_of (unhide HP) (unhide HEl) hE hf)
    have HCN := hide (cntL_le (unhide HW) (unhide HEl) hE)
    have Hm := hide (show 1 ≤ m ∧ m ≤ 600 by rw [← unhide HL]; exact ⟨(unhide HP).m0, (unhide HP).m⟩)
    obtain ⟨xv, kv, rfl, hx⟩ := owns_form2 O5
    obtain ⟨g, rfl, hg, hgc⟩ := hx (by have := unhide Hm; omega)
    obtain ⟨cur, R5, hcur⟩ := row_of_owns O5
    have g1 : g ≠ cb := by have := Q4.C.row.lt; omega
    have g2 : g ≠ mb := by have := Q4.M.lt; omega
    have Q5 := Q4.below hb5
    have D5 := D4.trans (hb5.mono D4.size)
    have R6 := R4.after hb5 (Nat.le_refl _)
    have HS := hide (statements_any w2.heap.size cb mb (attN, [], []) (.slice none 0 0) (.slice none 0 0) w2 aT aN aA V2 E2 (Nat.le_refl _) Es L m g kv cur w5 (unhide HL) (fun t ht => by cases ht) (by have := unhide Hm; simp; omega) (unhide HOK) (by have := unhide HCN; simp; omega) D5 Q5 R5 (fun r u hu => by rw [← R5.cell]; exact hgc r u hu) g1 g2 (by simp [Value.ownBlock]) (by simp [Value.ownBlock]))
    clear hEl hE hf hx hgc HC O5 hb5 Q3 Q4 L4 R4
    go_wp2_with fail
    refine (unhide HS).mono ?_
    rintro r w6 (⟨ns, ts, tt, lv, tv, ho, rfl, H6, K6⟩ | ⟨ho, ⟨te, ue, rfl⟩, hb6⟩)
    · have HO := hide ho
      have ht := ckAll_types ho (unhide HCN)
      clear ho
      dsimp only
      have I6 := I2.below (D5.trans K6.low) (Nat.le_refl _)
      have R7 := R6.below K6.low z2
      obtain ⟨xt, ct, rfl, _⟩ := owns_form2 H6.C.types
      have J6 := ints_of_row H6.C.types (by have : tt.length ≤ 4000 := ht; omega)
      have RC := H6.C.row
      have D1 : Below w6.heap.size w6 w6.drew := (Below.refl _ _).drew
      have keep : ∀ w', Below w6.heap.size w6 w' → w'.cell? ⟨cb, 2, none⟩ = some (.slice xt tt.length ct) ∧ w'.cell? ⟨w.heap.size, 2, none⟩ = some (.slice e k f) := fun w' hb => ⟨(RC.after hb (Nat.le_refl _)).cell 2, (R7.after hb (Nat.le_refl _)).cell 2⟩
      have KP := hide keep
      have q1 := keep _ D1
      have J7 := J6.below D1 (Nat.le_refl _)
      have I7 := I6.below D1 (Nat.le_refl _)
      clear keep ht
      go_wp2_with fail
      go_region_held3 (fun w' => w'.cell? ⟨cb, 2, none⟩ = some (.slice xt tt.length ct) ∧ w'.cell? ⟨w.heap.size, 2, none⟩ = some (.slice e k f)) (first | assumption | go_keep)
        ((go_at_call 55; refine (equalI_any _ _ _ _ _ _ _ _ _ J7 I7).mono ?_; rintro r w7 ⟨rfl, hb7⟩; have G2 := D1.trans (hb7.mono D1.size); have q2 := unhide KP _ G2))
      go_wp2_with fail
      go_ret
      exact ⟨⟨_, rfl, .inr ⟨unhide HW, Es, unhide HEl, unhide HE, by rw [unhide HO]⟩⟩, B2.trans ((D5.trans (K6.low.trans (G2.mono (D5.trans K6.low).size))).mono B2.size)⟩
    · have HO := hide ho
      clear ho
      dsimp only
      go_wp2_with fail
      go_region
      all_goals
        go_wp2_with fail
        go_ret
        exact ⟨⟨_, rfl, .inr ⟨unhide HW, Es, unhide HEl, unhide HE, by rw [unhide HO]⟩⟩, B2.trans ((D5.trans hb6.drew).mono B2.size)⟩

end Go.Proofs.YtpbopjgmiaoomaaGreatDoor

namespace Go.Proofs.YtpbopjgmiaoomaaGreatDoor
open Go.RowKit
set_option linter.unusedVariables false

theorem IsT.cp_one {N : List Nd} {i : Nat} {e : Ex} (t : IsT N i e) : ∀ {f : Ex}, IsT N i f → ∀ s, cpE e s = cpE f s := by
  induction t with
  | int h ho hk => intro f u R; rcases u.inv h with ⟨o, r⟩ | ⟨o, r⟩ | ⟨o, r⟩ | ⟨o, r⟩ | ⟨o, r⟩ | ⟨o, r⟩ | ⟨o, r⟩ | ⟨o, r⟩ | ⟨o, r⟩ | ⟨o, r⟩ <;> first | omega | (subst r; rfl)
  | text h ho hk => intro f u R; rcases u.inv h with ⟨o, r⟩ | ⟨o, r⟩ | ⟨o, r⟩ | ⟨o, r⟩ | ⟨o, r⟩ | ⟨o, r⟩ | ⟨o, r⟩ | ⟨o, r⟩ | ⟨o, r⟩ | ⟨o, r⟩ <;> first | omega | (subst r; rfl)
  | bool h ho hk => intro f u R; rcases u.inv h with ⟨o, r⟩ | ⟨o, r⟩ | ⟨o, r⟩ | ⟨o, r⟩ | ⟨o, r⟩ | ⟨o, r⟩ | ⟨o, r⟩ | ⟨o, r⟩ | ⟨o, r⟩ | ⟨o, r⟩ <;> first | omega | (subst r; rfl)
  | name h ho hk => intro f u R; rcases u.inv h with ⟨o, r⟩ | ⟨o, r⟩ | ⟨o, r⟩ | ⟨o, r⟩ | ⟨o, r⟩ | ⟨o, r⟩ | ⟨o, r⟩ | ⟨o, r⟩ | ⟨o, r⟩ | ⟨o, r⟩ <;> first | omega | (subst r; rfl)
  | attr h ho hk => intro f u R; rcases u.inv h with ⟨o, r⟩ | ⟨o, r⟩ | ⟨o, r⟩ | ⟨o, r⟩ | ⟨o, r⟩ | ⟨o, r⟩ | ⟨o, r⟩ | ⟨o, r⟩ | ⟨o, r⟩ | ⟨o, r⟩ <;> first | omega | (subst r; rfl)
  | lett h ho hk => intro f u R; rcases u.inv h with ⟨o, r⟩ | ⟨o, r⟩ | ⟨o, r⟩ | ⟨o, r⟩ | ⟨o, r⟩ | ⟨o, r⟩ | ⟨o, r⟩ | ⟨o, r⟩ | ⟨o, r⟩ | ⟨o, r⟩ <;> first | omega | (subst r; rfl)
  | set h ho hk a n c => intro f u R; rcases u.inv h with ⟨o, r⟩ | ⟨o, r⟩ | ⟨o, r⟩ | ⟨o, r⟩ | ⟨o, r⟩ | ⟨o, r⟩ | ⟨o, r⟩ | ⟨o, r⟩ | ⟨o, r⟩ | ⟨o, r⟩ <;> first | omega | (obtain ⟨_, _, _, r⟩ := r; subst r; rfl)
  | un h ho hk hi t ih =>
    intro f u s
    rcases u.inv h with ⟨o, r⟩ | ⟨o, r⟩ | ⟨o, r⟩ | ⟨o, r⟩ | ⟨o, r⟩ | ⟨o, r⟩ | ⟨o, r⟩ | ⟨o, k', e', hk', t', r⟩ | ⟨o, r⟩ | ⟨o, r⟩ <;> first | omega | skip
    subst r
    rw [hk] at hk'
    obtain rfl := Int.ofNat.inj (List.cons.inj hk').1
    rw [cpE, cpE, ih t' s]
  | bin h ho hk hi t u ih1 ih2 =>
    intro f v s
    rcases v.inv h with ⟨o, r⟩ | ⟨o, r⟩ | ⟨o, r⟩ | ⟨o, r⟩ | ⟨o, r⟩ | ⟨o, r⟩ | ⟨o, r⟩ | ⟨o, r⟩ | ⟨o, k', l', e', g', hk', t', u', r⟩ | ⟨o, r⟩ <;> first | omega | skip
    subst r
    rw [hk] at hk'
    simp only [List.cons.injEq, and_true, Int.natCast_inj] at hk'
    obtain ⟨rfl, rfl⟩ := hk'
    rw [cpE, cpE, funext (ih1 t'), funext (ih2 u')]
  | ite h ho hk hi t u v ih1 ih2 ih3 =>
    intro f z s
    rcases z.inv h with ⟨o, r⟩ | ⟨o, r⟩ | ⟨o, r⟩ | ⟨o, r⟩ | ⟨o, r⟩ | ⟨o, r⟩ | ⟨o, r⟩ | ⟨o, r⟩ | ⟨o, r⟩ | ⟨o, k', l', m', e', g', h', hk', t', u', v', r⟩ <;> first | omega | skip
    subst r
    rw [hk] at hk'
    simp only [List.cons.injEq, and_true, Int.natCast_inj] at hk'
    obtain ⟨rfl, rfl, rfl⟩ := hk'
    rw [cpE, cpE, funext (ih1 t'), funext (ih2 u'), funext (ih3 v')]

theorem codeC_one {N : List Nd} {Es Fs : List Ex} (h1 : Es.length = N.length) (h2 : Fs.length = N.length) (hE : ∀ j, (h : j < Es.length) → IsT N j Es[j]) (hF : ∀ j, (h : j < Fs.length) → IsT N j Fs[j]) (L : List St) : codeC Es L = codeC Fs L := by
  have key : ∀ k : Int, cpE (exAt Es k) = cpE (exAt Fs k) := fun k => by
    by_cases hk : k.toNat < N.length
    · rw [exAt, exAt, List.getD_eq_getElem?_getD, List.getD_eq_getElem?_getD, List.getElem?_eq_getElem (by omega), List.getElem?_eq_getElem (by omega)]
      exact funext ((hE _ (by omega)).cp_one (hF _ (by omega)))
    · rw [exAt, exAt, List.getD_eq_getElem?_getD, List.getD_eq_getElem?_getD, List.getElem?_eq_none (by omega), List.getElem?_eq_none (by omega)]
  have hD : ∀ g, cpD Es g = cpD Fs g := fun g => by funext s; rw [cpD, cpD, key]
  have hS : cpS Es = cpS Fs := by funext s t; simp only [cpS, key, hD]
  rw [codeC, codeC, cpAll, cpAll, hS]

/-- what is said of a typed policy -/
def IsCp (N : List Nd) (L : List St) (T : List Int) (c : Cs) : Prop :=
  (IsWT N L T false ∧ c = ⟨[], 0, []⟩) ∨ (IsWT N L T true ∧ ∃ Es : List Ex, Es.length = N.length ∧ (∀ j, (h : j < Es.length) → IsT N j Es[j]) ∧ c = codeC Es L)

theorem optV_form (Es : List Ex) (k : Int) : optV Es k = .nilIface ∨ ∃ t u, optV Es k = .iface t u := by
  rw [optV]
  split
  · exact .inl rfl
  · split
    · rename_i e _
      obtain ⟨t, u, h⟩ := e.form
      exact .inr ⟨t, u, h⟩
    · exact .inl rfl

/-- a code of the call's own -/
def CpA (c : Cs) (w : World) (e : Ending) (w' : World) : Prop := ∃ x cx y cy nv, e = .returned (.agg #[.slice x c.pool.length cx, .int .i64 c.slots, .slice y c.ins.length cy]) ∧ OwnP w' w.heap.size (.slice x c.pool.length cx) c.pool nv ∧ w'.ownsRow w.heap.size 62 2 (.slice y c.ins.length cy) c.ins.length (insV c.ins) ∧ Below w.heap.size w w'

set_option maxRecDepth 100000 in
set_option maxHeartbeats 6400000 in
theorem iCompile_any (a b e : Option Addr) (n c m d k f : Nat) (N : List Nd) (L : List St) (T : List Int) (aT aN aA : Addr) (w : World) (h1 : Nds w a n c N) (h2 : Sts w b m d L) (h3 : Ints w e k f T) (hT : TabOK w) (hV : Vok w aT) (hE : Eok w aN aA) (hsm : ∀ x ∈ N, R64 x.num) :
    Calls Tryz.prog 7 #[.agg #[.slice a n c, .slice b m d, .slice e k f]] w fun r w' => ∃ o, IsCp N L T o ∧ CpA o w r w' := by
  have B0 := (Below.refl w.heap.size w).alloc (Nat.le_refl _) (.cells #[.slice a n c, .slice b m d, .slice e k f] 36)
  have B1 := B0.alloc B0.size (.cells #[.slice none 0 0, .int .i64 0, .slice none 0 0] 31)
  have RT := (Row.new w #[.slice a n c, .slice b m d, .slice e k f] 36).alloc (.cells #[.slice none 0 0, .int .i64 0, .slice none 0 0] 31)
  have RO := Row.new (w.alloc (.cells #[.slice a n c, .slice b m d, .slice e k f] 36)) #[.slice none 0 0, .int .i64 0, .slice none 0 0] 31
  simp only [World.size_alloc] at RO
  have N2 := h1.below B1 (Nat.le_refl _)
  have L2 := h2.below B1 (Nat.le_refl _)
  have I2 := h3.below B1 (Nat.le_refl _)
  have T2 := hT.below B1 (Nat.le_refl _)
  have V2 := hV.below B1 (Nat.le_refl _)
  have E2 := hE.below B1 (Nat.le_refl _)
  have HN := hide h1.len
  have HL := hide h2.len
  have HSM := hide hsm
  clear h1 h2 h3 hT hV hE hsm B0
  go_enter Tryz.func7, Tryz.ntmps7
  go_wp2_with fail
  generalize (w.alloc (.cells #[.slice a n c, .slice b m d, .slice e k f] 36)).alloc (.cells #[.slice none 0 0, .int .i64 0, .slice none 0 0] 31) = W2 at B1 RT RO N2 L2 I2 T2 V2 E2 ⊢
  generalize hw0 : w.heap.size = tb at B1 RT RO ⊢
  have HW := hide hw0
  generalize hqb : tb + 1 = ob at RO ⊢
  have hob : tb ≤ ob := by omega
  have hto : tb ≠ ob := by omega
  clear hw0 hqb
  refine (iWellTyped_any _ _ _ _ _ _ _ _ _ N L T aT aN aA _ N2 L2 I2 T2 V2 E2).mono ?_
  rintro r w3 ⟨⟨v, rfl, hv⟩, hb3⟩
  have hz2 : tb ≤ W2.heap.size := by have := RT.lt; omega
  have B3 := B1.trans (hb3.mono hz2)
  have RT3 := RT.after hb3 (Nat.le_refl _)
  have RO3 := RO.after hb3 (Nat.le_refl _)
  have N3 := N2.below hb3 (Nat.le_refl _)
  have L3 := L2.below hb3 (Nat.le_refl _)
  clear N2 L2 I2 T2 V2 E2 RT RO
  cases v with
  | false =>
    have HX := hide (show IsCp N L T ⟨[], 0, []⟩ from .inl ⟨hv, rfl⟩)
    clear hv
    obtain ⟨x0, x1, x2⟩ := rowC RO3
    have f0 := fun j => RO3.frozen j
    obtain ⟨p0, p1, p2⟩ := rowC (((RO3.set 0 (.slice none 0 0)).set 1 (.int .i64 0)).set 2 (.slice none 0 0))
    have BE := ((B3.setCell (p := ⟨ob, 0, none⟩) hob (.slice none 0 0)).setCell (p := ⟨ob, 1, none⟩) hob (.int .i64 0)).setCell (p := ⟨ob, 2, none⟩) hob (.slice none 0 0)
    dsimp only
    go_wp2_with fail
    refine bodyPost_ret (v := .agg #[.slice none 0 0, .int .i64 0, .slice none 0 0]) (by simp [results, Tryz.results7, go_sem, p0, p1, p2]) rfl ⟨⟨[], 0, []⟩, unhide HX, none, 0, none, 0, [], rfl, OwnP.nil _ _, World.ownsRow_nil _ _ _ _, ?_⟩
    rw [unhide HW]
    exact BE
  | true =>
    have HV := hide hv
    clear hv
    obtain ⟨y0, y1, y2⟩ := rowC RT3
    have hmm := @run_makeMap Tryz.prog
    have C4 := ((Below.refl w3.heap.size w3).alloc (Nat.le_refl _) (.map #[] 0)).alloc (by simp) (.cells #[.slice none 0 0, .int .i64 0, .slice none 0 0, .map (some w3.heap.size)] 68)
    have RC := Row.new (w3.alloc (.map #[] 0)) #[.slice none 0 0, .int .i64 0, .slice none 0 0, .map (some w3.heap.size)] 68
    simp only [World.size_alloc] at RC
    have RT4 := RT3.after C4 (Nat.le_refl _)
    have RO4 := RO3.after C4 (Nat.le_refl _)
    obtain ⟨u0, u1, u2⟩ := rowC RT4
    have hwell : wellT N L = true := by
      rcases unhide HV with ⟨_, h⟩ | ⟨h, _⟩
      · cases h
      · exact h
    have HP := hide (wellPT_of hwell)
    have HWL := hide hwell
    have HCS := hide (fun (w5 : World) (D5 : Below w3.heap.size w3 w5) => statementsOf_any a b n c m d N L w3 w5 N3 D5 (L3.below D5 (Nat.le_refl _)) (fun e => e.typed ∧ e.cok w3) (makes_cok (unhide HP) (unhide HSM)) (by rw [← unhide HN]; exact (unhide HP).roots))
    have M4 : MapP ((w3.alloc (.map #[] 0)).alloc (.cells #[.slice none 0 0, .int .i64 0, .slice none 0 0, .map (some w3.heap.size)] 68)) w3.heap.size [] := by
      refine ⟨#[], 0, ?_, rfl, fun j hj => absurd hj (by simp)⟩
      rw [Below.heap_alloc _ _ _ (by simp)]
      exact heap_alloc_new w3 _
    have S4 : Cst w3 (w3.heap.size + 1) w3.heap.size ⟨[], 0, []⟩ ((w3.alloc (.map #[] 0)).alloc (.cells #[.slice none 0 0, .int .i64 0, .slice none 0 0, .map (some w3.heap.size)] 68)) := ⟨⟨_, _, [], RC, OwnP.nil _ _, World.ownsRow_nil _ _ _ _, M4, List.nodup_nil, fun v hv => absurd hv (by simp), by omega, by omega⟩, C4⟩
    have HS4 := hide S4
    clear hwell N3 L3 RC M4 S4
    dsimp only
    go_wp2_with fail
    refine (untyped_any _ _ _ _ _ _ _ _ _ _).mono ?_
    rintro r w5 ⟨rfl, hb5⟩
    have D5 := C4.trans (hb5.mono C4.size)
    have S5 := (unhide HS4).below hb5
    have RO5 := RO4.after hb5 (Nat.le_refl _)
    dsimp only
    go_wp2_with fail
    refine (unhide HCS w5 D5).mono ?_
    rintro r w6 ⟨⟨v, Es, rfl, hEl, hE, hf, O6⟩, hb6⟩
    have D6 := D5.trans (hb6.mono D5.size)
    have S6 := S5.below hb6
    have RO6 := RO5.after hb6 (Nat.le_refl _)
    have Hm := hide (show 1 ≤ m ∧ m ≤ 600 by rw [← unhide HL]; exact ⟨(unhide HP).m0, (unhide HP).m⟩)
    have HEl := hide (show Es.length = N.length by rw [hEl, unhide HN])
    have HE := hide hE
    obtain ⟨xv, kv, rfl, hx⟩ := owns_form2 O6
    obtain ⟨g, rfl, hg, hgc⟩ := hx (by have := unhide Hm; omega)
    obtain ⟨cur, R6, _⟩ := row_of_owns O6
    have HCU := hide (show ∀ (r : Nat) (u : Value), (stC Es 0 L)[r]? = some u → cur[r]? = some u from fun r u hu => (R6.cell r).symm.trans (hgc r u hu))
    have HF := hide (fun e he => (hf e he).2)
    have HX := hide (show IsCp N L T (codeC Es L) from .inr ⟨unhide HV, Es, unhide HEl, hE, rfl⟩)
    clear hf hE hEl hx hgc O6 HCS hb5 hb6 D5 S5 RO5 HS4
    dsimp only
    go_wp2_with fail
    have HCN := hide (cntL_le (unhide HWL) (unhide HEl) (unhide HE))
    have HRT := hide (show ∀ s ∈ L, (s.cond = -1 ∨ (0 ≤ s.cond ∧ s.cond < Es.length)) ∧ (s.grant = -1 ∨ (0 ≤ s.grant ∧ s.grant < Es.length)) by rw [unhide HEl]; exact (unhide HP).roots)
    have HSZ := hide (show szL Es L ≤ 13200 by have := szL_le Es L (unhide HRT); have := unhide HCN; have := (unhide HP).m; omega)
    have HKD := hide (show ∀ t ∈ L, t.kind = 3 ∨ t.cond ≠ -1 from fun t ht => by have := (unhide HP).stm t ht; omega)
    have HKS := hide (show ∀ j : Nat, ∀ s ∈ L, StC1 w3 (w3.heap.size + 1) w3.heap.size (.agg #[.int .i64 j, .int .i64 s.kind, .string s.name, optV Es s.cond, optV Es s.grant]) (fun c => cpS Es c s) (szAt Es s.cond + szAt Es s.grant + 2) from fun j s hs => cpS_any w3 _ _ Es (unhide HF) j s (unhide HRT s hs) (by have := (unhide HP).stm s hs; omega))
    have hzo : ob < w3.heap.size := RO3.lt
    have hm6 : m ≤ 600 := (unhide Hm).2
    clear HCN HRT HF D6 RT3 RO3 RO4 RT4 C4 u0 u1 u2
    go_loopw [16] (fun i wr => ∃ j : Nat, j ≤ m ∧ i = .int .i64 j ∧ Hid (Cst w3 (w3.heap.size + 1) w3.heap.size (cpAll Es ⟨[], 0, []⟩ (L.take j)) wr) ∧ Row wr g cur 77 ∧ Row wr ob #[.slice none 0 0, .int .i64 0, .slice none 0 0] 31) (fun i _ => m - (intOf i).toNat)
    case atStart => exact ⟨0, Nat.zero_le _, rfl, hide S6, R6, RO6⟩
    case round =>
      clear R6 RO6 S6
      obtain ⟨j, hj, rfl, HC, RG, RW⟩ := hrel
      by_cases hlt : j < m
      · have ilt : (j : Int) < (m : Int) := by omega
        have hjl : j < L.length := by rw [unhide HL]; exact hlt
        have cs : ∀ r, r < 5 → ∀ u, (stmV Es j L[j])[r]? = some u → wr.cell? ⟨g, j * 5 + r, none⟩ = some u := fun r hr u hu => by
          have e1 := stC_at Es L 0 j hjl r hr
          rw [Nat.zero_add, hu] at e1
          exact (RG.cell (j * 5 + r)).trans (unhide HCU _ _ e1)
        have c0 := cs 0 (by decide) _ rfl
        have c1 := cs 1 (by decide) _ rfl
        have c2 := cs 2 (by decide) _ rfl
        have c3 := cs 3 (by decide) _ rfl
        have c4 := cs 4 (by decide) _ rfl
        rw [Nat.add_zero] at c0
        have lens := cpAll_len Es (L.take j) ⟨[], 0, []⟩ (fun t ht => unhide HKD t (List.mem_of_mem_take ht))
        have room := szL_room Es L j hjl
        have HCC := hide (fun (W : World) (hW : Cst w3 (w3.heap.size + 1) w3.heap.size (cpAll Es ⟨[], 0, []⟩ (L.take j)) W) => unhide HKS j L[j] (List.getElem_mem hjl) _ W hW (by have := unhide HSZ; have := lens.1; simp only [List.length_nil] at this; omega) (by have := unhide HSZ; have := lens.2.1; simp only [List.length_nil] at this; omega) (by have := lens.2.2; have := List.length_take_le j L; simp only at *; omega))
        have HSN := hide (show cpAll Es ⟨[], 0, []⟩ (L.take (j + 1)) = cpS Es (cpAll Es ⟨[], 0, []⟩ (L.take j)) L[j] by rw [List.take_succ_eq_append_getElem hjl, cpAll_snoc])
        have Hlt := hide hlt
        clear cs lens room hlt
        dsimp only at HCC
        generalize cpS Es (cpAll Es ⟨[], 0, []⟩ (L.take j)) L[j] = sN at HCC HSN
        generalize L[j] = s at c0 c1 c2 c3 c4 HCC
        obtain ⟨kd, nm, cd, gr⟩ := s
        dsimp only at c0 c1 c2 c3 c4 HCC
        generalize hcv : optV Es cd = cv at c3 HCC
        generalize hgv : optV Es gr = gv at c4 HCC
        have hc2 := optV_form Es cd
        have hg2 := optV_form Es gr
        rw [hcv] at hc2
        rw [hgv] at hg2
        clear hcv hgv hjl
        rcases hc2 with rfl | ⟨t1, u1, rfl⟩ <;> rcases hg2 with rfl | ⟨t2, u2, rfl⟩
        all_goals
          go_wp2_with fail
          refine (unhide HCC _ ((unhide HC).below ((Below.refl wr.heap.size wr).alloc (Nat.le_refl _) _))).mono ?_
          rintro r w8 ⟨rfl, C8, k8⟩
          have F8 := (Kf.of_below ((Below.refl wr.heap.size wr).alloc (Nat.le_refl _) _)).trans k8
          have G8 := F8 _ _ _ RG (by decide) (by decide) (by decide)
          have O8 := F8 _ _ _ RW (by decide) (by decide) (by decide)
          have HC8 := hide C8
          clear C8 k8 F8 HCC HC RG RW c0 c1 c2 c3 c4
          dsimp only
          go_wp2_with fail
          go_roundw
          case rel => exact ⟨j + 1, unhide Hlt, by go_num, by rw [unhide HSN]; exact HC8, G8, O8⟩
          case measure => have := unhide Hlt; simp [intOf]; omega
      · have e : j = m := by omega
        subst e
        have HCO := hide (show cpAll Es ⟨[], 0, []⟩ (L.take j) = codeC Es L by rw [← unhide HL, List.take_length]; rfl)
        have hC := unhide HC
        rw [unhide HCO] at hC
        obtain ⟨⟨pv, iv, nv, CC⟩, D9⟩ := hC
        have HXX := hide (unhide HX)
        clear HX HCO HC
        generalize codeC Es L = cc at CC HXX
        obtain ⟨xp, cp, rfl, _⟩ := owns_form2 CC.pool.own
        obtain ⟨xi, ci, rfl, _⟩ := owns_form2 CC.ins
        obtain ⟨q0, q1, q2, q3⟩ := row4C CC.row
        obtain ⟨x0, x1, x2⟩ := rowC RW
        have f0 := fun j => RW.frozen j
        obtain ⟨p0, p1, p2⟩ := rowC (((RW.set 0 (.slice xp cc.pool.length cp)).set 1 (.int .i64 cc.slots)).set 2 (.slice xi cc.ins.length ci))
        have ni : ∀ q, (Value.slice xi cc.ins.length ci).ownBlock = some q → q ≠ ob := fun q hq => by have := (CC.ins.lt q hq).1; omega
        have HPO := hide ((((CC.pool.set ⟨ob, 0, none⟩ (.slice xp cc.pool.length cp) hzo).set ⟨ob, 1, none⟩ (.int .i64 cc.slots) hzo).set ⟨ob, 2, none⟩ (.slice xi cc.ins.length ci) hzo).low (lo' := tb) (by omega))
        have HIO := hide (own_lowC (base' := tb) (own_set3 (own_set3 (own_set3 CC.ins ⟨ob, 0, none⟩ (.slice xp cc.pool.length cp) ni) ⟨ob, 1, none⟩ (.int .i64 cc.slots) ni) ⟨ob, 2, none⟩ (.slice xi cc.ins.length ci) ni) (by omega))
        have HBE := hide ((((B3.trans (D9.mono (by omega))).setCell (p := ⟨ob, 0, none⟩) hob (.slice xp cc.pool.length cp)).setCell (p := ⟨ob, 1, none⟩) hob (.int .i64 cc.slots)).setCell (p := ⟨ob, 2, none⟩) hob (.slice xi cc.ins.length ci))
        clear CC D9 B3 RW RG ni
        go_wp2_with fail
        refine bodyPost_ret (v := .agg #[.slice xp cc.pool.length cp, .int .i64 cc.slots, .slice xi cc.ins.length ci]) (by simp [results, Tryz.results7, go_sem, p0, p1, p2]) rfl ⟨cc, unhide HXX, xp, cp, xi, ci, nv, rfl, ?_, ?_, ?_⟩
        · rw [unhide HW]; exact unhide HPO
        · rw [unhide HW]; exact unhide HIO
        · rw [unhide HW]; exact unhide HBE

end Go.Proofs.YtpbopjgmiaoomaaGreatDoor
