/-
  NUF, NUG. Own work.
-/
import Derived.Test.YtcehablmloleaaaGreatDoorNUE1
import Derived.Test.YtcehablmloleaaaGreatDoorNUE2
import Derived.Test.YtcehablmloleaaaGreatDoorNUE3
import Derived.Test.YtcehablmloleaaaGreatDoorMXAI
namespace Go.Proofs.YtcehablmloleaaaGreatDoor
open Go.RowKit
set_option linter.unusedVariables false

theorem flE_len : ∀ (e : Ex) (b : Nat), (flE e b).length = e.cnt
  | .int .., _ => rfl
  | .text .., _ => rfl
  | .bool .., _ => rfl
  | .set .., _ => rfl
  | .name .., _ => rfl
  | .attr .., _ => rfl
  | .lett .., _ => rfl
  | .un _ _ k, b => by simp [flE, Ex.cnt, flE_len k]
  | .bin _ _ l r, b => by simp [flE, Ex.cnt, flE_len l, flE_len r]; omega
  | .ite _ c t e, b => by simp [flE, Ex.cnt, flE_len c, flE_len t, flE_len e]; omega

theorem plE_len : ∀ (e : Ex), (plE e).length = e.cnt
  | .int .. => rfl
  | .text .. => rfl
  | .bool .. => rfl
  | .set .. => rfl
  | .name .. => rfl
  | .attr .. => rfl
  | .lett .. => rfl
  | .un _ _ k => by simp [plE, Ex.cnt, plE_len k]
  | .bin _ _ l r => by simp [plE, Ex.cnt, plE_len l, plE_len r]; omega
  | .ite _ c t e => by simp [plE, Ex.cnt, plE_len c, plE_len t, plE_len e]; omega

/-- a tree's sets lie there -/
def Ex.sok (w : World) : Ex → Prop
  | .set _ a n c ss => Strs w a n c ss ∧ ss.length ≤ 1048576
  | .un _ _ k => k.sok w
  | .bin _ _ l r => l.sok w ∧ r.sok w
  | .ite _ c t e => c.sok w ∧ t.sok w ∧ e.sok w
  | _ => True

theorem Ex.sok_below {w w' : World} {B : Nat} (hb : Below B w w') (hB : w.heap.size ≤ B) : ∀ (e : Ex), e.sok w → e.sok w'
  | .int .., h => h
  | .text .., h => h
  | .bool .., h => h
  | .set .., h => ⟨h.1.below hb hB, h.2⟩
  | .name .., h => h
  | .attr .., h => h
  | .lett .., h => h
  | .un _ _ k, h => k.sok_below (w := w) hb hB h
  | .bin _ _ l r, h => ⟨l.sok_below hb hB h.1, r.sok_below hb hB h.2⟩
  | .ite _ c t e, h => ⟨c.sok_below hb hB h.1, t.sok_below hb hB h.2.1, e.sok_below hb hB h.2.2⟩

theorem add_any (B nb : Nat) (w0 : World) (hB : w0.heap.size ≤ B) : ∀ (e : Ex), e.sok w0 → AdV B nb w0 e.val (flE e) (plE e) e.cnt
  | .int i n, _ => add_leaf B nb w0 _ _ i _ rfl (kids_int i n) (place_int i n) (hide fun w _ => node_int i n w)
  | .text i s, _ => add_leaf B nb w0 _ _ i _ rfl (kids_text i s) (place_text i s) (hide fun w _ => node_text i s w)
  | .bool i b, _ => add_leaf B nb w0 _ _ i _ rfl (kids_bool i b) (place_bool i b) (hide fun w _ => node_bool i b w)
  | .set i a n c ss, h => add_leaf B nb w0 _ _ i _ rfl (kids_set i a n c) (place_set i a n c) (hide fun w hw => node_set i a n c ss w (h.1.below hw hB) h.2)
  | .name i s, _ => add_leaf B nb w0 _ _ i _ rfl (kids_name i s) (place_name i s) (hide fun w _ => node_name i s w)
  | .attr i n, _ => add_leaf B nb w0 _ _ i _ rfl (kids_attr i n) (place_attr i n) (hide fun w _ => node_attr i n w)
  | .lett i n, _ => add_leaf B nb w0 _ _ i _ rfl (kids_lett i n) (place_lett i n) (hide fun w _ => node_lett i n w)
  | .un i op k, h => by
    have V := add_any B nb w0 hB k h
    obtain ⟨t, u, hf⟩ := Ex.form k
    rw [Ex.val]
    rw [hf] at V ⊢
    exact add_un B nb w0 i op t u k.cnt (flE k) (plE k) (flE_len k) (hide V) (plE_len k) (hide fun ks w _ => node_un i op t u k w)
  | .bin i op l r, h => by
    have V1 := add_any B nb w0 hB l h.1
    have V2 := add_any B nb w0 hB r h.2
    obtain ⟨t1, u1, hf1⟩ := Ex.form l
    obtain ⟨t2, u2, hf2⟩ := Ex.form r
    rw [Ex.val]
    rw [hf1] at V1 ⊢
    rw [hf2] at V2 ⊢
    exact add_bin B nb w0 i op t1 u1 _ (flE l) (plE l) (flE_len l) (hide V1) (plE_len l) t2 u2 _ (flE r) (plE r) (flE_len r) (hide V2) (plE_len r) (hide fun ks w _ => node_bin i op t1 u1 t2 u2 l r w)
  | .ite i c t e, h => by
    have V1 := add_any B nb w0 hB c h.1
    have V2 := add_any B nb w0 hB t h.2.1
    have V3 := add_any B nb w0 hB e h.2.2
    obtain ⟨t1, u1, hf1⟩ := Ex.form c
    obtain ⟨t2, u2, hf2⟩ := Ex.form t
    obtain ⟨t3, u3, hf3⟩ := Ex.form e
    rw [Ex.val]
    rw [hf1] at V1 ⊢
    rw [hf2] at V2 ⊢
    rw [hf3] at V3 ⊢
    exact add_ite B nb w0 i t1 u1 _ (flE c) (plE c) (flE_len c) (hide V1) (plE_len c) t2 u2 _ (flE t) (plE t) (flE_len t) (hide V2) (plE_len t) t3 u3 _ (flE e) (plE e) (flE_len e) (hide V3) (plE_len e) (hide fun ks w _ => node_ite i t1 u1 t2 u2 t3 u3 c t e w)

set_option maxRecDepth 100000 in
theorem add_nil (nb : Nat) (w : World) : Calls Tryz.prog 63 #[.pointer (some ⟨nb, 0, none⟩), .nilIface] w fun r w' => r = .returned (.int .i64 (-1)) ∧ w' = w := by
  go_enter Tryz.func63, Tryz.ntmps63
  go_wp2_with fail
  go_ret
  exact ⟨rfl, rfl⟩

end Go.Proofs.YtcehablmloleaaaGreatDoor

namespace Go.Proofs.YtcehablmloleaaaGreatDoor
open Go.RowKit
set_option linter.unusedVariables false

/-- a statement with its trees -/
structure Sx where
  at' : Int
  kind : Int
  name : ByteArray
  cond : Option Ex
  grant : Option Ex

def optX : Option Ex → Value
  | none => .nilIface
  | some e => e.val

def sxV (x : Sx) : List Value := [.int .i64 x.at', .int .i64 x.kind, .string x.name, optX x.cond, optX x.grant]

def sxC (S : List Sx) : List Value := S.flatMap sxV

theorem sxC_len : ∀ (S : List Sx), (sxC S).length = S.length * 5
  | [] => rfl
  | x :: S => by
    have := sxC_len S
    rw [sxC] at this ⊢
    rw [List.flatMap_cons, List.length_append, this, List.length_cons]
    simp [sxV]; omega

theorem sxC_at : ∀ (S : List Sx) (j : Nat) (h : j < S.length) (r : Nat), r < 5 → (sxC S)[j * 5 + r]? = (sxV S[j])[r]?
  | x :: S, 0, h, r, hr => by
    rw [sxC, List.flatMap_cons, Nat.zero_mul, Nat.zero_add, List.getElem?_append_left (by simp [sxV]; omega)]
    simp
  | x :: S, j + 1, h, r, hr => by
    have ih := sxC_at S j (by simpa using h) r hr
    rw [sxC] at ih ⊢
    rw [List.flatMap_cons, List.getElem?_append_right (by simp [sxV]; omega)]
    have e : (j + 1) * 5 + r - (sxV x).length = j * 5 + r := by simp [sxV]; omega
    rw [e, ih]
    simp only [List.getElem_cons_succ]
  | [], _, h, _, _ => absurd h (by simp)

def cntO : Option Ex → Nat
  | none => 0
  | some e => e.cnt

def flO : Option Ex → Nat → List Nd
  | none, _ => []
  | some e, b => flE e b

def plO : Option Ex → List Int
  | none => []
  | some e => plE e

def ixO : Option Ex → Nat → Int
  | none, _ => -1
  | some e, b => ((b + e.cnt - 1 : Nat) : Int)

def sokO (w : World) : Option Ex → Prop
  | none => True
  | some e => e.sok w

theorem flO_len (o : Option Ex) (b : Nat) : (flO o b).length = cntO o := by
  cases o
  · rfl
  · exact flE_len _ _

theorem plO_len (o : Option Ex) : (plO o).length = cntO o := by
  cases o
  · rfl
  · exact plE_len _

/-- the nodes of statements, the first at a place -/
def numN : Nat → List Sx → List Nd
  | _, [] => []
  | b, x :: S => flO x.cond b ++ flO x.grant (b + cntO x.cond) ++ numN (b + cntO x.cond + cntO x.grant) S

def numP : List Sx → List Int
  | [] => []
  | x :: S => plO x.cond ++ plO x.grant ++ numP S

def numT : Nat → List Sx → List St
  | _, [] => []
  | b, x :: S => ⟨x.kind, x.name, ixO x.cond b, ixO x.grant (b + cntO x.cond)⟩ :: numT (b + cntO x.cond + cntO x.grant) S

def cntX (S : List Sx) : Nat := (S.map fun x => cntO x.cond + cntO x.grant).sum

theorem cntX_cons (x : Sx) (S : List Sx) : cntX (x :: S) = cntO x.cond + cntO x.grant + cntX S := by simp [cntX]

theorem numN_len : ∀ (S : List Sx) (b : Nat), (numN b S).length = cntX S
  | [], _ => rfl
  | x :: S, b => by rw [numN, List.length_append, List.length_append, flO_len, flO_len, numN_len S, cntX_cons]

theorem numP_len : ∀ (S : List Sx), (numP S).length = cntX S
  | [] => rfl
  | x :: S => by rw [numP, List.length_append, List.length_append, plO_len, plO_len, numP_len S, cntX_cons]

theorem numT_len : ∀ (S : List Sx) (b : Nat), (numT b S).length = S.length
  | [], _ => rfl
  | x :: S, b => by rw [numT, List.length_cons, numT_len S, List.length_cons]

theorem cntX_app (A B : List Sx) : cntX (A ++ B) = cntX A + cntX B := by simp [cntX]

theorem numN_snoc (x : Sx) : ∀ (S : List Sx) (b : Nat), numN b (S ++ [x]) = numN b S ++ flO x.cond (b + cntX S) ++ flO x.grant (b + cntX S + cntO x.cond)
  | [], b => by simp [numN, cntX]
  | y :: S, b => by
    rw [List.cons_append, numN, numN, numN_snoc x S, cntX_cons]
    have e : b + cntO y.cond + cntO y.grant + cntX S = b + (cntO y.cond + cntO y.grant + cntX S) := by omega
    rw [e]
    simp only [List.append_assoc]

theorem numP_snoc (x : Sx) : ∀ (S : List Sx), numP (S ++ [x]) = numP S ++ plO x.cond ++ plO x.grant
  | [] => by simp [numP]
  | y :: S => by
    rw [List.cons_append, numP, numP, numP_snoc x S]
    simp only [List.append_assoc]

theorem numT_snoc (x : Sx) : ∀ (S : List Sx) (b : Nat), numT b (S ++ [x]) = numT b S ++ [⟨x.kind, x.name, ixO x.cond (b + cntX S), ixO x.grant (b + cntX S + cntO x.cond)⟩]
  | [], b => by simp [numT, cntX]
  | y :: S, b => by
    rw [List.cons_append, numT, numT, numT_snoc x S, cntX_cons]
    have e : b + cntO y.cond + cntO y.grant + cntX S = b + (cntO y.cond + cntO y.grant + cntX S) := by omega
    rw [e]
    rfl

theorem stmC_snoc (L : List St) (s : St) : stmC (L ++ [s]) = stmC L ++ [.int .i64 s.kind, .string s.name, .int .i64 s.cond, .int .i64 s.grant] := by simp [stmC]

/-- what is said of a tree that is added, or of none -/
def AdR (B nb : Nat) (N : List Nd) (P : List Int) (nd pl : Value) (nv kv : List Value) (M : List Nd) (Q : List Int) (ix : Int) (w : World) (r : Ending) (w' : World) : Prop :=
  r = .returned (.int .i64 ix) ∧ ∃ nd' pl' nv' kv', NuO w' B nb (N ++ M) (P ++ Q) nd' pl' (nv ++ nv') (kv ++ kv') ∧ Nk B nb nd pl w nd' pl' w'

theorem addO (B nb : Nat) (w0 : World) (hB : w0.heap.size ≤ B) (o : Option Ex) (hs : sokO w0 o) (N : List Nd) (P : List Int) (nd pl : Value) (nv kv : List Value) (w : World) (hw : Below B w0 w) (h : NuO w B nb N P nd pl nv kv) (h1 : N.length + cntO o ≤ 65535) (h2 : P.length + cntO o ≤ 65535) :
    Calls Tryz.prog 63 #[.pointer (some ⟨nb, 0, none⟩), optX o] w (AdR B nb N P nd pl nv kv (flO o N.length) (plO o) (ixO o N.length) w) := by
  cases o with
  | none => exact (add_nil nb w).mono fun r w' ⟨e1, e2⟩ => ⟨e1, nd, pl, [], [], by rw [e2]; simpa [flO, plO] using h, by rw [e2]; exact Nk.refl _ _ _ _ _⟩
  | some e => exact (add_any B nb w0 hB e hs N P nd pl nv kv w hw h h1 h2).mono fun r w' ⟨e1, nd', pl', nv', kv', hN, hK, _⟩ => ⟨by rw [e1, flE_len]; rfl, nd', pl', nv', kv', hN, hK⟩

/-- a row of statements has grown beside the numbering -/
theorem NuO.other {w w' : World} {B nb : Nat} {N : List Nd} {P : List Int} {nd pl : Value} {nv kv : List Value} (h : NuO w B nb N P nd pl nv kv) {v : Value} {m : Nat} {xs : List Value} {lo : Nat} (O : w.ownsRow lo 51 4 v m xs) (hk : ∀ q, q < w.heap.size → v.ownBlock ≠ some q → w'.heap[q]? = w.heap[q]?) : NuO w' B nb N P nd pl nv kv :=
  ⟨⟨(hk nb h.row.lt (own_ne_row h.row O (by decide))).trans h.row.out⟩,
   h.nodes.upto (fun q hq => hk q (h.nodes.lts.1 q hq).2 (fun e => own_ne_ownN O h.nodes.own (by decide) q e hq)) (fun j hj q hq => hk q (h.nodes.lts.2.1 j hj q hq).2 (fun e => own_ne_ownN O (h.nodes.names j (by rw [← h.nodes.len]; exact hj) hj) (by decide) q e hq)) (fun j hj q hq => hk q (h.nodes.lts.2.2 j hj q hq).2 (fun e => own_ne_ownN O (h.nodes.kids j (by rw [← h.nodes.lenk]; exact hj) hj) (by decide) q e hq)),
   owns_blocksN h.places (fun q hq => hk q (h.places.lt q hq).2 (fun e => own_ne_ownN O h.places (by decide) q e hq)), h.apart, h.low⟩

/-- the numbering has gone on beside a row of statements -/
theorem Nk.stm {B nb : Nat} {nd pl nd' pl' : Value} {w w' : World} {N : List Nd} {P : List Int} {nv kv : List Value} (h : Nk B nb nd pl w nd' pl' w') (C : NuO w B nb N P nd pl nv kv) {v : Value} {m : Nat} {xs : List Value} {lo : Nat} (O : w.ownsRow lo 51 4 v m xs) : w'.ownsRow lo 51 4 v m xs :=
  owns_blocksN O (fun q hq => h.block q (O.lt q hq).2 (fun e => own_ne_row C.row O (by decide) (by rw [hq, e])) (fun e => own_ne_ownN O C.nodes.own (by decide) q hq e) (fun e => own_ne_ownN O C.places (by decide) q hq e))

end Go.Proofs.YtcehablmloleaaaGreatDoor
