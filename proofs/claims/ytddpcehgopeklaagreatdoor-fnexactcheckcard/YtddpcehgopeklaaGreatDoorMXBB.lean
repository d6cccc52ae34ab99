/-
  EDD, ECQ. Own work.
-/
import Derived.Test.YtddpcehgopeklaaGreatDoorMXBA
import Derived.Test.YtddpcehgopeklaaGreatDoorECJ
import Derived.Test.YtddpcehgopeklaaGreatDoorMXBL
import Derived.Test.YtddpcehgopeklaaGreatDoorMXBM
import Derived.Test.YtddpcehgopeklaaGreatDoorECP
import Derived.Test.YtddpcehgopeklaaGreatDoorMXBI
namespace Go.Proofs.YtddpcehgopeklaaGreatDoor
open Go.RowKit
set_option linter.unusedVariables false

/-- the types of nodes in their order, or the first fault -/
def frst : Nat → List Rc → Except (Int × Int) (List Int)
  | _, [] => .ok []
  | f, .error c :: _ => .error (c, f)
  | f, .ok t :: r => (frst (f + 1) r).map (t :: ·)

theorem frst_cons {f : Nat} {t : Int} {r : List Rc} {K : List Int} (h : frst f (.ok t :: r) = .ok K) : ∃ K', frst (f + 1) r = .ok K' ∧ K = t :: K' := by
  rw [frst] at h
  cases hr : frst (f + 1) r with
  | error c => rw [hr] at h; cases h
  | ok K' => rw [hr] at h; cases h; exact ⟨K', rfl, rfl⟩

theorem frst_len : ∀ {os : List Rc} {f : Nat} {K : List Int}, frst f os = .ok K → K.length = os.length
  | [], f, K, h => by cases h; rfl
  | .error c :: _, f, K, h => by cases h
  | .ok t :: r, f, K, h => by
    obtain ⟨K', h1, rfl⟩ := frst_cons h
    rw [List.length_cons, List.length_cons, frst_len h1]

def tailX (K : List Int) (f : Nat) : Rc → Except (Int × Int) (List Int)
  | .ok t => .ok (K ++ [t])
  | .error c => .error (c, f)

theorem frst_snoc (o : Rc) : ∀ (os : List Rc) (f : Nat) (K : List Int), frst f os = .ok K → frst f (os ++ [o]) = tailX K (f + os.length) o
  | [], f, K, h => by cases h; cases o <;> rfl
  | .error c :: _, f, K, h => by cases h
  | .ok t :: r, f, K, h => by
    obtain ⟨K', h1, rfl⟩ := frst_cons h
    have e : f + 1 + r.length = f + (r.length + 1) := by omega
    rw [List.cons_append, frst, frst_snoc o r (f + 1) K' h1, List.length_cons, e]
    cases o <;> rfl

theorem frst_app (B : List Rc) : ∀ (A : List Rc) (f : Nat), frst f (A ++ B) = (frst f A).bind fun l => (frst (f + A.length) B).map (l ++ ·)
  | [], f => by simp only [List.nil_append, frst, List.length_nil, Nat.add_zero]; cases frst f B <;> rfl
  | .error c :: _, f => rfl
  | .ok t :: r, f => by
    have e : f + 1 + r.length = f + (r.length + 1) := by omega
    rw [List.cons_append, frst, frst, frst_app B r (f + 1), List.length_cons, e]
    cases frst (f + 1) r with
    | error c => rfl
    | ok l =>
      show Except.map (t :: ·) ((frst (f + (r.length + 1)) B).map (l ++ ·)) = (frst (f + (r.length + 1)) B).map ((t :: l) ++ ·)
      cases frst (f + (r.length + 1)) B <;> rfl

theorem frst_error (os : List Rc) (f : Nat) (k : Nat) {c : Int × Int} (h : frst f (os.take k) = .error c) : frst f os = .error c := by
  have e := frst_app (os.drop k) (os.take k) f
  rw [List.take_append_drop, h] at e
  exact e

/-- a node's type -/
def nodeX (Es : List Ex) (D : List Dc) (i : Nat) : Rc := match Es[i]? with
  | some e => cR (tyX D e)
  | none => .error 0

theorem Nms.keep {w w' : World} {v v' : Value} {a : Option Addr} {L : List ByteArray} (h : Nms w a L) (k : Keep w v w' v') (ha : ∀ x, a = some x → some x.block ≠ v.ownBlock) : Nms w' a L := fun j hj => by
  obtain ⟨b, off, hb, hl, c0⟩ := h j hj
  exact ⟨b, off, hb, Nat.lt_of_lt_of_le hl k.2.2, (World.cell?_of_block (w := w) (k.1 b hl (ha _ hb))).trans c0⟩

theorem Ltm.keep {w w' : World} {v v' : Value} {lb : Nat} {xa : Option Addr} {nn cc : Nat} {ns : List ByteArray} {la : Option Addr} {ln lc : Nat} {ts : List Int} (h : Ltm w lb xa nn cc ns la ln lc ts) (k : Keep w v w' v') (h5 : some lb ≠ v.ownBlock) (h6 : ∀ x, la = some x → some x.block ≠ v.ownBlock) (h7 : ∀ x, xa = some x → some x.block ≠ v.ownBlock) : Ltm w' lb xa nn cc ns la ln lc ts :=
  ⟨(World.cell?_of_block (w := w) (k.1 lb h.lt h5)).trans h.c0, (World.cell?_of_block (w := w) (k.1 lb h.lt h5)).trans h.c1, Nat.lt_of_lt_of_le h.lt k.2.2, h.nms.keep k h7, h.nl, h.small, h.ints.keep k h6, h.same⟩

def TrX (B : Nat) (tv : Value) (tt : List Int) (o : Except (Int × Int) (List Int)) (w : World) (r : Ending) (w' : World) : Prop :=
  (∃ ys v', o = .ok ys ∧ r = .returned (.tuple #[v', .agg #[.int .i64 0, .int .i64 0]]) ∧ w'.ownsRow B 3 1 v' (tt ++ ys).length (intsV (tt ++ ys)) ∧ Keep w tv w' v' ∧ Below B w w') ∨
  (∃ (f : Int × Int) (v' : Value), o = .error f ∧ r = .returned (.tuple #[v', .agg #[.int .i64 f.1, .int .i64 f.2]]) ∧ (v' = .slice none 0 0 ∨ ∃ x n c, v' = .slice x n c) ∧ f.1 ≠ 0 ∧ Below B w w')

set_option maxRecDepth 100000 in
set_option maxHeartbeats 3200000 in
theorem l3tree_anyX (a : Option Addr) (n c : Nat) (N : List Nd) (hU : ∀ x ∈ N, fieldsB x = true) (w0 : World) (hN : Nds w0 a n c N) (B : Nat) (hB : w0.heap.size ≤ B) (lb : Nat) (xa : Option Addr) (nn cc : Nat) (ns : List ByteArray) (la : Option Addr) (ln lc : Nat) (ts : List Int) (hin : ∀ d ∈ dOf ns ts, 1 ≤ d.typ ∧ d.typ ≤ 4) (Es : List Ex) (hEl : Es.length = n) (hE : ∀ j, (h : j < Es.length) → IsT N j Es[j])
    (f m : Nat) (hfm : f + m ≤ n) (hf : 1 ≤ f + m) (hn : n ≤ 4000) (tv : Value) (tt : List Int) (htt : tt.length ≤ 4000) (w : World) (hw : Below w0.heap.size w0 w) (hBw : B ≤ w.heap.size) (h4 : Ltm w lb xa nn cc ns la ln lc ts) (h5 : some lb ≠ tv.ownBlock) (h6 : ∀ x, la = some x → some x.block ≠ tv.ownBlock) (h7 : ∀ x, xa = some x → some x.block ≠ tv.ownBlock) (O1 : w.ownsRow B 3 1 tv tt.length (intsV tt)) :
    Calls Tryz.prog 37 #[.slice a n c, .int .i64 f, .int .i64 ((f + m : Nat) - 1 : Int), .pointer (some ⟨lb, 0, none⟩), tv] w (TrX B tv tt (frst f ((List.range' f m).map (nodeX Es (dOf ns ts)))) w) := by
  obtain ⟨ii, hii, ez0, ez1, ez2⟩ := info_parts infoI
  obtain ⟨xv, cv, rfl, _⟩ := owns_form2 O1
  have H0 : ∀ k, k < m → ∀ W, Below w0.heap.size w0 W → Ltm W lb xa nn cc ns la ln lc ts → Calls Tryz.prog 60 #[.slice a n c, .int .i64 ((f + k : Nat) : Int), .pointer (some ⟨lb, 0, none⟩)] W (NdC (nodeX Es (dOf ns ts) (f + k)) W) := fun k hk W q1 q2 => by
    have hlt : f + k < Es.length := by omega
    rw [nodeX, List.getElem?_eq_getElem hlt]
    exact l3node_anyX a n c N hU lb xa nn cc ns la ln lc ts hin (hE (f + k) hlt) W (hN.below q1 (Nat.le_refl _)) q2
  have HV := hide H0
  have Hw := hide hw
  obtain ⟨os, hos⟩ : ∃ os, os = (List.range' f m).map (nodeX Es (dOf ns ts)) := ⟨_, rfl⟩
  have HOS := hide (show ∀ k, (h : k < m) → ∃ h2 : k < os.length, os[k] = nodeX Es (dOf ns ts) (f + k) from fun k h => ⟨by rw [hos]; simpa using h, by simp [hos]⟩)
  have HOL := hide (show os.length = m by rw [hos]; simp)
  rw [← hos]
  have R0 := Row.new w #[.int .i64 0, .int .i64 0] 33
  have B0 := (Below.refl w.heap.size w).alloc (Nat.le_refl _) (.cells #[.int .i64 0, .int .i64 0] 33)
  have O0 := O1.alloc (.cells #[.int .i64 0, .int .i64 0] 33)
  have z0 : (w.alloc (.cells #[.int .i64 0, .int .i64 0] 33)).heap.size = w.heap.size + 1 := by simp
  have I0 := h4.below B0
  have hown : some w.heap.size ≠ (Value.slice xv tt.length cv).ownBlock := fun e => by have := (O1.lt _ e.symm).2; omega
  have KP0 : ∀ W v, Keep (w.alloc (.cells #[.int .i64 0, .int .i64 0] 33)) (.slice xv tt.length cv) W v → Keep w (.slice xv tt.length cv) W v := fun W v k =>
    ⟨fun j h1 h2 => (k.1 j (by omega) h2).trans (Below.heap_alloc w _ j h1), fun q hq => by rcases k.2.1 q hq with e | e; exact .inl e; right; omega, by have := k.2.2; omega⟩
  have HKP := hide KP0
  clear hos H0 hE hEl hw hN hU O1 h4 hin KP0
  obtain ⟨tp, htp⟩ : ∃ tp : Int, tp = (f + m : Nat) - 1 := ⟨_, rfl⟩
  rw [← htp]
  have HTP := hide htp
  have HFM := hide (show f + m ≤ 4000 by omega)
  clear htp hfm hf
  go_enter Tryz.func37, Tryz.ntmps37
  go_wp2_with fail
  generalize w.alloc (.cells #[.int .i64 0, .int .i64 0] 33) = W1 at R0 B0 O0 z0 I0 HKP ⊢
  have Z0 := hide z0
  clear z0
  go_loopw [4, 12] (fun v i wr => ∃ (j fj : Nat) (K TK : List Int), Hid (j ≤ m ∧ fj = f + j ∧ TK = tt ++ K) ∧ i = .int .i64 fj ∧ wr.ownsRow B 3 1 v TK.length (intsV TK) ∧ Hid (frst f (os.take j) = .ok K) ∧ Below B W1 wr ∧ Keep W1 (.slice xv tt.length cv) wr v) (fun _ i _ => f + m - (intOf i).toNat)
  case atStart => exact ⟨0, f, [], tt, hide ⟨Nat.zero_le _, rfl, by simp⟩, rfl, O0, hide rfl, Below.refl _ _, Keep.refl _ _⟩
  case round =>
    obtain ⟨j, fj, K, TK, HJ, rfl, Q1, HK, D1, KP⟩ := hrel
    have hql : TK.length ≤ 8000 := by have h1 := frst_len (unhide HK); have h2 := unhide HJ; have h3 := unhide HFM; rw [List.length_take] at h1; rw [h2.2.2, List.length_append]; omega
    have E1 : Below w0.heap.size w0 wr := ((unhide Hw).trans (B0.mono (Nat.le_trans hB hBw))).trans (D1.mono hB)
    have zb : B ≤ wr.heap.size := Nat.le_trans (by have := unhide Z0; omega) D1.size
    have R1 : Row wr w.heap.size #[.int .i64 0, .int .i64 0] 33 := ⟨(KP.1 _ R0.lt hown).trans R0.out⟩
    by_cases hjl : j < m
    · have ijl : (fj : Int) ≤ tp := by have := unhide HJ; have := unhide HTP; omega
      have I1 := I0.keep KP h5 h6 h7
      have HC := hide (unhide HV j hjl wr E1 I1)
      obtain ⟨hjo, hoj⟩ := unhide HOS j hjl
      have HS := hide (show frst f (os.take (j + 1)) = tailX K (f + j) os[j] by rw [List.take_succ_eq_append_getElem hjo, frst_snoc _ _ _ _ (unhide HK), List.length_take, Nat.min_eq_left (by omega)])
      have HZ := hide (show ∀ c, os[j] = .error c → frst f os = .error (c, ((f + j : Nat) : Int)) from fun c e => frst_error os f (j + 1) (by rw [unhide HS, e]; rfl))
      rw [hoj] at HS HZ
      have Hjl := hide hjl
      have ij2 : fj ≤ 4000 := by have := unhide HJ; have := unhide HFM; omega
      generalize nodeX Es (dOf ns ts) (f + j) = oj at HC HS HZ hoj
      rw [← (unhide HJ).2.1] at HC
      obtain ⟨yv, dv, rfl, _⟩ := owns_form2 Q1
      clear hjo hjl hoj I1
      go_wp2_with fail
      refine (unhide HC).mono ?_
      rintro r w2 ⟨⟨ty, code, rfl, hr⟩, hb2⟩
      have D2 := D1.trans (hb2.mono zb)
      have Q2 := ownsRow_below Q1 hb2 (Nat.le_refl _)
      have KB : Keep wr (.slice yv TK.length dv) w2 (.slice yv TK.length dv) := ⟨fun k h _ => hb2.block k h, fun q h => .inl h, hb2.size⟩
      have KP2 := KP.trans KB
      have R2 := R1.after hb2 (Nat.le_refl _)
      have zb2 : B ≤ w2.heap.size := Nat.le_trans zb hb2.size
      rcases hr with ⟨rfl, rfl⟩ | ⟨hc, rfl⟩
      · have HS2 := hide (show frst f (os.take (j + 1)) = .ok (K ++ [ty]) from unhide HS)
        clear HS HZ HC
        dsimp only
        go_wp2_with (at_builtin; refine wpList_append_lies _ rfl _ _ 29 rfl B 3 ii (.int .i64 0) 1 8 Tryz.underlying29 hii ez0 ez1 ez2 rfl (by decide) _ _ _ rfl (World.ownsRow.alloc Q2 _) ⟨w2.heap.size, 0, none⟩ 1 1 [.int .i64 ty] rfl rfl ?c1 ?c2 (by decide) ?c3 ?c4 ?c5 (w2.heap.size + 1) (by simp) ?_)
        case c1 => exact one_cell _ _ _ _ (by simp)
        case c2 => intro u hu; simp at hu; subst hu; rfl
        case c3 => unfold maxLen; omega
        case c4 => omega
        case c5 => simp; omega
        intro g cap w3 O3 hgrow hat hgl
        have KP3 := KP2.trans (keep_append (n := TK.length + 1) (c := cap) hgrow hat)
        have D3 := (D2.alloc zb2 (.cells #[.int .i64 ty] 3)).grown hgrow (by simp; omega) (fun q hq => (Q2.lt q hq).1)
        have O4 := owns_snoc O3
        clear hgrow hat O3
        go_wp2_with fail
        go_roundw
        case rel => exact ⟨j + 1, fj + 1, K ++ [ty], TK ++ [ty], hide ⟨unhide Hjl, by have := unhide HJ; omega, by rw [(unhide HJ).2.2, List.append_assoc]⟩, by go_num, O4, HS2, D3, KP3⟩
        case measure => have := unhide Hjl; have := unhide HJ; simp [intOf]; omega
      · have ec : (code != 0) = true := bne_iff_ne.2 hc
        have HX := hide (show frst f os = .error (code, (fj : Int)) by rw [(unhide HJ).2.1]; exact unhide HZ code rfl)
        have Hc := hide hc
        clear hc HS HZ HC
        obtain ⟨p0, p1⟩ := row2 R2
        have f0 := fun j => R2.frozen j
        have R3 := R2.set 0 (.int .i64 code)
        have f1 := fun j => R3.frozen j
        dsimp only
        have R4 := R3.set 1 (.int .i64 fj)
        have s0 : ((w2.setCell ⟨w.heap.size, 0, none⟩ (.int .i64 code)).setCell ⟨w.heap.size, 1, none⟩ (.int .i64 fj)).cell? ⟨w.heap.size, 0, none⟩ = some (.int .i64 code) := R4.cell 0
        have s1 : ((w2.setCell ⟨w.heap.size, 0, none⟩ (.int .i64 code)).setCell ⟨w.heap.size, 1, none⟩ (.int .i64 fj)).cell? ⟨w.heap.size, 1, none⟩ = some (.int .i64 fj) := R4.cell 1
        go_wp2_with fail
        refine bodyPost_ret (v := .tuple #[.slice yv TK.length dv, .agg #[.int .i64 code, .int .i64 fj]]) (by simp [results, Tryz.results37, go_sem, s0, s1]) rfl (.inr ⟨_, _, unhide HX, rfl, .inr ⟨_, _, _, rfl⟩, unhide Hc, ?_⟩)
        exact (((B0.mono hBw).trans D2).setCell (p := ⟨w.heap.size, 0, none⟩) hBw _).setCell (p := ⟨w.heap.size, 1, none⟩) hBw _
    · have e : j = m := by have := unhide HJ; omega
      have ijl : ¬ ((fj : Int) ≤ tp) := by have := unhide HJ; have := unhide HTP; omega
      subst e
      have HA := hide (show frst f os = .ok K by rw [← unhide HK, List.take_of_length_le (by rw [unhide HOL]; exact Nat.le_refl _)])
      obtain ⟨yv, dv, rfl, _⟩ := owns_form2 Q1
      obtain ⟨p0, p1⟩ := row2 R1
      have f0 := fun j => R1.frozen j
      have R3 := R1.set 0 (.int .i64 0)
      have f1 := fun j => R3.frozen j
      have R4 := R3.set 1 (.int .i64 0)
      have s0 : ((wr.setCell ⟨w.heap.size, 0, none⟩ (.int .i64 0)).setCell ⟨w.heap.size, 1, none⟩ (.int .i64 0)).cell? ⟨w.heap.size, 0, none⟩ = some (.int .i64 0) := R4.cell 0
      have s1 : ((wr.setCell ⟨w.heap.size, 0, none⟩ (.int .i64 0)).setCell ⟨w.heap.size, 1, none⟩ (.int .i64 0)).cell? ⟨w.heap.size, 1, none⟩ = some (.int .i64 0) := R4.cell 1
      have KP2 := unhide HKP _ _ KP
      have hno : ∀ q, (Value.slice yv TK.length dv).ownBlock = some q → q ≠ w.heap.size := fun q hq e => by
        subst e
        rcases KP.2.1 _ hq with e2 | e2
        · exact hown e2.symm
        · have := R0.lt; omega
      go_wp2_with fail
      refine bodyPost_ret (v := .tuple #[.slice yv TK.length dv, .agg #[.int .i64 0, .int .i64 0]]) (by simp [results, Tryz.results37, go_sem, s0, s1]) rfl (.inl ⟨K, _, unhide HA, rfl, ?_, ?_, ?_⟩)
      · rw [← (unhide HJ).2.2]
        exact own_set (own_set Q1 _ _ hno) _ _ hno
      · exact ⟨fun k h1 h2 => ((heap_setCell_other _ _ _ _ (by show k ≠ w.heap.size; omega)).trans (heap_setCell_other _ _ _ _ (by show k ≠ w.heap.size; omega))).trans (KP2.1 k h1 h2), KP2.2.1, by have := KP2.2.2; simpa using this⟩
      · exact (((B0.mono hBw).trans D1).setCell (p := ⟨w.heap.size, 0, none⟩) hBw _).setCell (p := ⟨w.heap.size, 1, none⟩) hBw _

end Go.Proofs.YtddpcehgopeklaaGreatDoor

namespace Go.Proofs.YtddpcehgopeklaaGreatDoor
open Go.RowKit
set_option linter.unusedVariables false

/-- nodes, statements and types, or a fault -/
abbrev CkR := Except (Int × Int) (List Nd × List St × List Int)

def ckP (Es : List Ex) (L : List St) : CkR := match allX (attD, [], []) (sxL Es 0 L) with
  | .error f => .error f
  | .ok st => .ok (numN 0 ((sxL Es 0 L).map (rbS st.1)), numT 0 ((sxL Es 0 L).map (rbS st.1)), st.2.2)

/-- what is said of a policy -/
def IsCk (N : List Nd) (L : List St) (r : CkR) : Prop :=
  (wellI N L = false ∧ r = .error (10, 0)) ∨ (wellI N L = true ∧ ∃ Es : List Ex, Es.length = N.length ∧ (∀ j, (h : j < Es.length) → IsT N j Es[j]) ∧ r = ckP Es L)

/-- what the program's check hands back -/
def CkO (aX aT aN aA : Addr) (r : CkR) (w : World) (e : Ending) (w' : World) : Prop :=
  (r = .error (10, 0) ∧ e = .returned (.tuple #[.agg #[.slice none 0 0, .slice none 0 0, .slice none 0 0], .iface 224 (.pointer (some aX))])) ∨
  (∃ f g, r = .error f ∧ (7 ≤ f.1 ∧ f.1 ≤ 9) ∧ e = .returned (.tuple #[.agg #[.slice none 0 0, .slice none 0 0, .slice none 0 0], .iface 97 (.pointer (some ⟨g, 0, none⟩))]) ∧ ErO aT aN aA f g w') ∨
  (∃ N L T x n cx y m cy z p cz nv kv, r = .ok (N, L, T) ∧ e = .returned (.tuple #[.agg #[.slice x n cx, .slice y m cy, .slice z p cz], .nilIface]) ∧ OwnTy w' w.heap.size w'.heap.size x n cx y m cy z p cz N nv kv L T)

/-- the statements so far made anew -/
def mixS (D : List Dc) (S : List Sx) (k : Nat) : List Sx := (S.take k).map (rbS D) ++ S.drop k

theorem mixS_len (D : List Dc) (S : List Sx) (k : Nat) : (mixS D S k).length = S.length := by simp [mixS]; omega

theorem mixS_at (D : List Dc) (S : List Sx) (k : Nat) (h : k < S.length) : (mixS D S k)[k]? = some S[k] := by
  rw [mixS, List.getElem?_append_right (by simp; omega)]
  simp [List.getElem?_drop, Nat.min_eq_left (Nat.le_of_lt h), List.getElem?_eq_getElem h]

theorem mixS_succ (D : List Dc) (S : List Sx) (k : Nat) (h : k < S.length) : mixS D S (k + 1) = (mixS D S k).set k (rbS D S[k]) := by
  unfold mixS
  rw [List.take_succ_eq_append_getElem h, List.map_append, List.set_append_right _ _ (by simp; omega)]
  have e : S.drop k = S[k] :: S.drop (k + 1) := by rw [List.getElem_cons_drop]
  have l : k - ((S.take k).map (rbS D)).length = 0 := by simp; omega
  rw [l, e, List.set_cons_zero]
  simp

theorem sxC_set : ∀ (S : List Sx) (j : Nat) (h : j < S.length) (y : Sx), sxC (S.set j y) = (((((sxC S).set (j * 5) (.int .i64 y.at')).set (j * 5 + 1) (.int .i64 y.kind)).set (j * 5 + 2) (.string y.name)).set (j * 5 + 3) (optX y.cond)).set (j * 5 + 4) (optX y.grant)
  | x :: S, 0, h, y => by simp [sxC, sxV]
  | x :: S, j + 1, h, y => by
    have ih := sxC_set S j (by simpa using h) y
    have e : ∀ (r : Nat) (A : List Value) (v : Value), (sxV x ++ A).set ((j + 1) * 5 + r) v = sxV x ++ A.set (j * 5 + r) v := fun r A v => by
      rw [List.set_append_right _ _ (by simp [sxV]; omega)]
      congr 2
      simp [sxV]; omega
    have e0 : ∀ (A : List Value) (v : Value), (sxV x ++ A).set ((j + 1) * 5) v = sxV x ++ A.set (j * 5) v := fun A v => e 0 A v
    have c1 : sxC (x :: S) = sxV x ++ sxC S := by simp [sxC]
    have c2 : sxC ((x :: S).set (j + 1) y) = sxV x ++ sxC (S.set j y) := by simp [sxC]
    rw [c1, c2, ih, e0, e 1, e 2, e 3, e 4]
  | [], _, h, _ => absurd h (by simp)

def agree (A : List Value) (cur : Array Value) : Prop := ∀ (r : Nat) (u : Value), A[r]? = some u → cur[r]? = some u

theorem agree.set {A : List Value} {cur : Array Value} (h : agree A cur) (i : Nat) (v : Value) : agree (A.set i v) (cur.setIfInBounds i v) := fun r u hu => by
  by_cases e : i = r
  · subst e
    by_cases hl : i < A.length
    · rw [List.getElem?_set_self hl] at hu
      have := (Array.getElem?_eq_some_iff.1 (h i A[i] (List.getElem?_eq_getElem hl))).1
      simpa [Array.getElem?_setIfInBounds, this] using hu
    · rw [List.getElem?_eq_none (by simp; omega)] at hu
      cases hu
  · rw [List.getElem?_set_ne e] at hu
    have := h r u hu
    simpa [Array.getElem?_setIfInBounds, e] using this

/-- the row, with the statements so far -/
theorem agree_succ {D : List Dc} {S : List Sx} {k : Nat} {cur : Array Value} (h : agree (sxC (mixS D S k)) cur) (hk : k < S.length) :
    agree (sxC (mixS D S (k + 1))) (((((cur.setIfInBounds (k * 5) (.int .i64 S[k].at')).setIfInBounds (k * 5 + 1) (.int .i64 S[k].kind)).setIfInBounds (k * 5 + 2) (.string S[k].name)).setIfInBounds (k * 5 + 3) (optX (rbO D S[k].cond))).setIfInBounds (k * 5 + 4) (optX (rbO D S[k].grant))) := by
  rw [mixS_succ D S k hk, sxC_set _ k (by rw [mixS_len]; exact hk)]
  exact ((((h.set _ _).set _ _).set _ _).set _ _).set _ _

theorem ofO_code {f : Int × Int} {o : Option Int} {g : Int × Int} (h : ofO f o = .error g) : g = f := by
  cases o with
  | none => cases h; rfl
  | some t => cases h

theorem cd_ok {c i : Int} (h : 7 ≤ c ∧ c ≤ 9) : 7 ≤ (c, i).1 ∧ (c, i).1 ≤ 9 := h

theorem tyX_code {K : List Dc} : ∀ (e : Ex) {f : Int × Int}, tyX K e = .error f → 7 ≤ f.1 ∧ f.1 ≤ 9
  | .int .., f, h => by cases h
  | .text .., f, h => by cases h
  | .bool .., f, h => by cases h
  | .set .., f, h => by cases h
  | .name i s, f, h => by rw [ofO_code h]; exact cd_ok (by decide)
  | .attr .., f, h => by cases h; exact cd_ok (by decide)
  | .lett .., f, h => by cases h; exact cd_ok (by decide)
  | .un i op k, f, h => by
    rw [tyX] at h
    cases hk : tyX K k with
    | error g => rw [hk] at h; cases h; exact tyX_code k hk
    | ok a => rw [hk] at h; rw [ofO_code h]; exact cd_ok (by decide)
  | .bin i op k l, f, h => by
    rw [tyX] at h
    cases hk : tyX K k with
    | error g => rw [hk] at h; cases h; exact tyX_code k hk
    | ok a =>
      rw [hk] at h
      cases hl : tyX K l with
      | error g => rw [hl] at h; cases h; exact tyX_code l hl
      | ok b => rw [hl] at h; rw [ofO_code h]; exact cd_ok (by decide)
  | .ite i k l m, f, h => by
    rw [tyX] at h
    cases hk : tyX K k with
    | error g => rw [hk] at h; cases h; exact tyX_code k hk
    | ok a =>
      rw [hk] at h
      cases hl : tyX K l with
      | error g => rw [hl] at h; cases h; exact tyX_code l hl
      | ok b =>
        rw [hl] at h
        cases hm : tyX K m with
        | error g => rw [hm] at h; cases h; exact tyX_code m hm
        | ok d => rw [hm] at h; rw [ofO_code h]; exact cd_ok (by decide)

theorem whenX_code {c : Int} {D : List Dc} {ts tt ys : List Int} {i : Int} {e : Ex} {f : Int × Int} (h : whenX c D ts tt i (tyX D e) ys = .error f) : 7 ≤ f.1 ∧ f.1 ≤ 9 := by
  cases ht : tyX D e with
  | error g => rw [ht] at h; cases h; exact tyX_code e ht
  | ok t =>
    rw [ht] at h
    simp only [whenX] at h
    split at h
    · cases h
    · cases h; exact cd_ok (by decide)

theorem letX_code {D : List Dc} {ts tt ys : List Int} {nm : ByteArray} {i : Int} {e : Ex} {f : Int × Int} (h : letX D ts tt nm i (tyX D e) ys = .error f) : 7 ≤ f.1 ∧ f.1 ≤ 9 := by
  cases ht : tyX D e with
  | error g => rw [ht] at h; cases h; exact tyX_code e ht
  | ok t =>
    rw [ht] at h
    simp only [letX] at h
    split at h
    · cases h; exact cd_ok (by decide)
    · cases h

theorem stepX_code {st : Cs} {x : Sx} {f : Int × Int} (h : stepX st x = .error f) : 7 ≤ f.1 ∧ f.1 ≤ 9 := by
  obtain ⟨j, kd, nm, co, gr⟩ := x
  rw [stepX] at h
  cases hc : condX st ⟨j, kd, nm, co, gr⟩ with
  | error g =>
    rw [hc] at h
    cases h
    cases co with
    | none => cases hc
    | some e =>
      simp only [condX, treeC] at hc
      split at hc
      · exact letX_code hc
      · exact whenX_code hc
  | ok s1 =>
    rw [hc] at h
    change grantX s1 ⟨j, kd, nm, co, gr⟩ = .error f at h
    cases gr with
    | none => cases h
    | some e => exact whenX_code h

theorem allX_code : ∀ {L : List Sx} {st : Cs} {f : Int × Int}, allX st L = .error f → 7 ≤ f.1 ∧ f.1 ≤ 9
  | [], st, f, h => by cases h
  | x :: L, st, f, h => by
    rw [allX] at h
    cases hs : stepX st x with
    | error g => rw [hs] at h; cases h; exact stepX_code hs
    | ok s1 => rw [hs] at h; exact allX_code (show allX s1 L = .error f from h)

theorem Sn9.eok {w : World} {aX a1 a2 a3 a4 a5 a6 a7 a8 a9 : Addr} (h : Sn9 w aX a1 a2 a3 a4 a5 a6 a7 a8 a9) : Eok w a7 a8 :=
  ⟨by have := h.big; omega, h.g7, by have := h.big; omega, h.g8⟩

theorem attD_wst : Wst (attD, [], []) := fun d hd => by
  simp only [attD, List.mem_cons, List.not_mem_nil, or_false] at hd
  rcases hd with rfl | rfl | rfl | rfl | rfl | rfl <;> decide

end Go.Proofs.YtddpcehgopeklaaGreatDoor
