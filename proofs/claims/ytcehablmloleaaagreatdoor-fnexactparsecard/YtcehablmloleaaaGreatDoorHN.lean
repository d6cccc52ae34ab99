/-
  Parse, the model: a node is added (written by mkhn.py). Own work.
-/
import Derived.Test.YtcehablmloleaaaGreatDoorMXAX
namespace Go.Proofs.YtcehablmloleaaaGreatDoor
open Go.RowKit
set_option linter.unusedVariables false

theorem TkM.of {w w' : World} {B nb ga c : Nat} {T : List Tok} {N : List Nd} {P : List Int} {nd pl : Value} {nv kv : List Value} (hT : TkM w nb ga c T) (hC : LuO w' B nb (.slice (some ⟨ga, 0, none⟩) T.length c) N P nd pl nv kv) (hb : Below B w w') (hg : ga < B) : TkM w' nb ga c T :=
  ⟨hC.row.cell 0, fun j u hu => (hb.cell (p := ⟨ga, j, none⟩) hg).trans (hT.cells j u hu), hC.row.lt, by have := hC.row.lt; have := hC.low; omega⟩

/-- what is said of a node that is added -/
def L2A (B nb : Nat) (tv : Value) (N M : List Nd) (P Q : List Int) (nd pl : Value) (nv kv : List Value) (w : World) (r : Ending) (w' : World) : Prop :=
  r = .returned (.int .i64 ((N.length + M.length - 1 : Nat) : Int)) ∧ ∃ nd' pl' nv' kv', LuO w' B nb tv (N ++ M) (P ++ Q) nd' pl' (nv ++ nv') (kv ++ kv') ∧ Nk B nb nd pl w nd' pl' w' ∧ ∀ j, (hj : j < kv'.length) → ∀ q, kv'[j].ownBlock = some q → w.heap.size ≤ q

set_option maxRecDepth 100000 in
set_option maxHeartbeats 6400000 in
theorem l2add_any {w : World} {B nb ga c : Nat} {T : List Tok} {N : List Nd} {P : List Int} {nd pl : Value} {nv kv : List Value} (hT : TkM w nb ga c T) (hg : ga < B) (hC : LuO w B nb (.slice (some ⟨ga, 0, none⟩) T.length c) N P nd pl nv kv) (hn : N.length + 1 ≤ 65535) (hpn : P.length + 1 ≤ 65535)
    (x : Nd) (a : Option Addr) (cu : Nat) (b : Option Addr) (ck lo : Nat) (hlo : B ≤ lo) (hu : w.ownsRow B 9 1 (.slice a x.names.length cu) x.names.length (x.names.map Value.string)) (hk : w.ownsRow lo 3 1 (.slice b x.kids.length ck) x.kids.length (intsV x.kids))
    (hua : ∀ j, (hj : j < nv.length) → ∀ q, nv[j].ownBlock = some q → (Value.slice a x.names.length cu).ownBlock ≠ some q) (hka : ∀ j, (hj : j < kv.length) → ∀ q, kv[j].ownBlock = some q → (Value.slice b x.kids.length ck).ownBlock ≠ some q) (hpk : ∀ q, (Value.slice b x.kids.length ck).ownBlock = some q → pl.ownBlock ≠ some q) (i : Nat) (hi : i < T.length) :
    Calls Tryz.prog 56 #[.pointer (some ⟨nb, 0, none⟩), .agg #[.int .i64 x.op, .int .i64 x.num, .string x.text, .slice a x.names.length cu, .slice b x.kids.length ck], .int .i64 (i : Int)] w fun r w' => r = .returned (.int .i64 (N.length : Int)) ∧ ∃ nd' pl', LuO w' B nb (.slice (some ⟨ga, 0, none⟩) T.length c) (N ++ [x]) (P ++ [(T[i].at_ : Int)]) nd' pl' (nv ++ [.slice a x.names.length cu]) (kv ++ [.slice b x.kids.length ck]) ∧ Nk B nb nd pl w nd' pl' w' := by
  obtain ⟨av, hav⟩ : ∃ av : Int, av = (T[i].at_ : Int) := ⟨_, rfl⟩
  rw [← hav]
  have HAV := hide hav
  clear hav
  have hcb := hC.row.lt
  have hBw : B ≤ w.heap.size := by have := hC.low; omega
  obtain ⟨ti, hti, hz0, hz1, hzb⟩ := info_parts infoND
  obtain ⟨tj, htj, hy0, hy1, hyb⟩ := info_parts infoIN
  have HTT := hide hT
  have HAP := hide (And.intro hua (And.intro hka hpk))
  have A3 := (Below.refl w.heap.size w).alloc (Nat.le_refl _) (.cells #[.int .i64 x.op, .int .i64 x.num, .string x.text, .slice a x.names.length cu, .slice b x.kids.length ck] 91)
  have RV := Row.new w #[.int .i64 x.op, .int .i64 x.num, .string x.text, .slice a x.names.length cu, .slice b x.kids.length ck] 91
  have C3 := hC.below A3
  have K3 : Nk B nb nd pl w nd pl (w.alloc (.cells #[.int .i64 x.op, .int .i64 x.num, .string x.text, .slice a x.names.length cu, .slice b x.kids.length ck] 91)) := Nk.of_all A3 hBw
  have OU3 := owns_blocksN (w' := w.alloc (.cells #[.int .i64 x.op, .int .i64 x.num, .string x.text, .slice a x.names.length cu, .slice b x.kids.length ck] 91)) hu (fun q hq => A3.block q (hu.lt q hq).2)
  have OK3 := owns_blocksN (w' := w.alloc (.cells #[.int .i64 x.op, .int .i64 x.num, .string x.text, .slice a x.names.length cu, .slice b x.kids.length ck] 91)) hk (fun q hq => A3.block q (hk.lt q hq).2)
  have hz3 : w.heap.size < (w.alloc (.cells #[.int .i64 x.op, .int .i64 x.num, .string x.text, .slice a x.names.length cu, .slice b x.kids.length ck] 91)).heap.size := by simp
  clear hT hua hka hpk hu hk A3
  go_enter Tryz.func56, Tryz.ntmps56
  go_wp2_with fail
  generalize w.alloc (.cells #[.int .i64 x.op, .int .i64 x.num, .string x.text, .slice a x.names.length cu, .slice b x.kids.length ck] 91) = w3 at C3 K3 OU3 OK3 RV hz3 ⊢
  generalize w.heap.size = vb at RV hz3 hcb hBw ⊢
  obtain ⟨xn, cn, hnd, _⟩ := owns_form2 C3.nodes.own
  have HND := hide hnd
  clear hnd
  apply cutC
  · intro HBX
    have hnd := unhide HND
    obtain ⟨e0, e1, e2, e3, e4⟩ := row5N RV
    have u0 : w3.cell? ⟨nb, 1, none⟩ = some (nd) := C3.row.cell 1
    rw [hnd] at u0
    have uf := C3.row.frozen 1
    have NW := World.news_of_block (heap_alloc_new w3 (.cells #[.int .i64 x.op, .int .i64 x.num, .string x.text, .slice a x.names.length cu, .slice b x.kids.length ck] 91))
    have d0 : w3.drew.cell? ⟨nb, 1, none⟩ = some (.slice xn (N).length cn) ∧ w3.drew.frozen? ⟨nb, 1, none⟩ = false := ⟨u0, uf⟩
    have d1 : w3.drew.cell? ⟨vb, 0, none⟩ = some (.int .i64 x.op) := e0
    have d2 : w3.drew.cell? ⟨vb, 1, none⟩ = some (.int .i64 x.num) := e1
    have d3 : w3.drew.cell? ⟨vb, 2, none⟩ = some (.string x.text) := e2
    have d4 : w3.drew.cell? ⟨vb, 3, none⟩ = some (.slice a x.names.length cu) := e3
    have d5 : w3.drew.cell? ⟨vb, 4, none⟩ = some (.slice b x.kids.length ck) := e4
    have ow : (w3.alloc (.cells #[.int .i64 x.op, .int .i64 x.num, .string x.text, .slice a x.names.length cu, .slice b x.kids.length ck] 91)).drew.ownsRow B 91 5 (.slice xn (N).length cn) (N).length (ndC (N) (nv) (kv)) := by
      have := C3.nodes.own
      rw [hnd] at this
      exact (World.ownsRow.alloc this _).drew
    have RCd : Row (w3.alloc (.cells #[.int .i64 x.op, .int .i64 x.num, .string x.text, .slice a x.names.length cu, .slice b x.kids.length ck] 91)).drew nb #[.slice (some ⟨ga, 0, none⟩) T.length c, nd, pl] 45 := ⟨(C3.row.alloc (.cells #[.int .i64 x.op, .int .i64 x.num, .string x.text, .slice a x.names.length cu, .slice b x.kids.length ck] 91)).out⟩
    have dd : (w3.alloc (.cells #[.int .i64 x.op, .int .i64 x.num, .string x.text, .slice a x.names.length cu, .slice b x.kids.length ck] 91)).drew.cell? ⟨nb, 1, none⟩ = some (.slice xn (N).length cn) := by
      have := RCd.cell 1
      rw [hnd] at this
      exact this
    have hne : (Value.slice xn (N).length cn).ownBlock ≠ some nb := by rw [← hnd]; exact own_ne_row C3.row C3.nodes.own (by decide)
    have hBz : B ≤ w3.heap.size := by have := C3.row.lt; have := C3.low; omega
    clear e0 e1 e2 e3 e4 u0 uf hnd
    go_region_law (refine step_append_lies _ rfl _ _ 22 rfl B 91 ti (.agg #[.int .i64 0, .int .i64 0, .string ByteArray.empty, .slice none 0 0, .slice none 0 0]) 5 80 Tryz.underlying22 hti hz0 hz1 hzb rfl (by decide) (.slice xn (N).length cn) (N).length (ndC (N) (nv) (kv)) rfl ow ⟨w3.heap.size, 0, none⟩ 1 1 [.int .i64 x.op, .int .i64 x.num, .string x.text, .slice a x.names.length cu, .slice b x.kids.length ck] rfl rfl NW (by intro u hu; simp at hu; rcases hu with rfl | rfl | rfl | rfl | rfl <;> rfl) (by decide) (by unfold maxLen; omega) (by omega) (by simp; omega) _ rfl ?_; intro g7 c7 w7 O7 hgrow hat hlt; have R7 : Row w7 nb #[.slice (some ⟨ga, 0, none⟩) T.length c, nd, pl] 45 := ⟨(hgrow.block nb RCd.lt (fun e => hne e.symm)).trans RCd.out⟩; have t0 := R7.cell 1; have tf := R7.frozen 1)
    all_goals
      have hg2 : (w3.alloc (.cells #[.int .i64 x.op, .int .i64 x.num, .string x.text, .slice a x.names.length cu, .slice b x.kids.length ck] 91)).grownBy w7 (nd).ownBlock := by rw [unhide HND]; exact ⟨hgrow.os, hgrow.tape, hgrow.output, hgrow.size, hgrow.block⟩
      obtain ⟨C7, K7⟩ := C3.pushN (g7 := g7) (c7 := c7) (x := x) (u := .slice a x.names.length cu) (k := .slice b x.kids.length ck) _ hBz OU3 (own_lowC OK3 hlo) (unhide HAP).1 (unhide HAP).2.1 (unhide HAP).2.2 hg2 O7 (by rw [unhide HND]; exact hat.imp id (fun e => by rw [e]; show (w3.alloc _).heap.size = _; simp))
      have K8 := K3.trans K7
      clear O7 hgrow hat hlt R7 RCd dd d0 d1 d2 d3 d4 d5 NW ow hg2 K7
      clear t0 tf
      generalize w7.setCell ⟨nb, 1, none⟩ (.slice (some ⟨g7, 0, none⟩) ((N).length + 1) c7) = w8 at C7 K8 ⊢
      clear hne
      revert K8
      revert C7
      revert w8
      revert c7
      revert g7
      exact HBX.out
  intro g7 c7 w8 C7 K8
  clear RV C3 K3 OU3 OK3
  go_wp2_with fail
  have T8 := (unhide HTT).of C7 K8.low hg
  obtain ⟨_, _, _, v3⟩ := T8.at4 i hi
  have ii : (i : Int) < (T.length : Int) := by omega
  have hBz8 : B ≤ w8.heap.size := by have := C7.row.lt; have := C7.low; omega
  rw [← unhide HAV] at v3
  obtain ⟨xp, cp, hpl, _⟩ := owns_form2 C7.places
  have HPL := hide hpl
  have d0 : w8.drew.cell? ⟨nb, 2, none⟩ = some (.slice xp (P).length cp) ∧ w8.drew.frozen? ⟨nb, 2, none⟩ = false := ⟨by have := C7.row.cell 2; rw [hpl] at this; exact this, C7.row.frozen 2⟩
  have d1 : w8.drew.cell? ⟨nb, 0, none⟩ = some (.slice (some ⟨ga, 0, none⟩) T.length c) := T8.at0
  have d2 : w8.drew.cell? ⟨ga, i * 4 + 3, none⟩ = some (.int .i64 av) := v3
  have NW := World.news_of_block (heap_alloc_new w8 (.cells #[.int .i64 av] 3))
  have ow : (w8.alloc (.cells #[.int .i64 av] 3)).drew.ownsRow B 3 1 (.slice xp (P).length cp) (P).length (intsV P) := by
    have := C7.places
    rw [hpl] at this
    exact (World.ownsRow.alloc this _).drew
  have RCd : Row (w8.alloc (.cells #[.int .i64 av] 3)).drew nb #[.slice (some ⟨ga, 0, none⟩) T.length c, .slice (some ⟨g7, 0, none⟩) (N.length + 1) c7, pl] 45 := ⟨(C7.row.alloc (.cells #[.int .i64 av] 3)).out⟩
  have dd : (w8.alloc (.cells #[.int .i64 av] 3)).drew.cell? ⟨nb, 2, none⟩ = some (.slice xp (P).length cp) := by
    have := RCd.cell 2
    rw [hpl] at this
    exact this
  have hne : (Value.slice xp (P).length cp).ownBlock ≠ some nb := by rw [← hpl]; exact own_ne_row C7.row C7.places (by decide)
  clear hpl v3 T8 hcb hBw hz3
  go_region_law (refine step_append_lies _ rfl _ _ 26 rfl B 3 tj (.int .i64 0) 1 8 Tryz.underlying26 htj hy0 hy1 hyb rfl (by decide) (.slice xp (P).length cp) (P).length (intsV P) rfl ow ⟨w8.heap.size, 0, none⟩ 1 1 [.int .i64 av] rfl rfl NW (by intro u hu; simp at hu; rcases hu with rfl; rfl) (by decide) (by unfold maxLen; omega) (by omega) (by simp; omega) _ rfl ?_; intro g6 c6 w6 O6 hgrow6 hat6 hlt6; have R6 : Row w6 nb #[.slice (some ⟨ga, 0, none⟩) T.length c, .slice (some ⟨g7, 0, none⟩) (N.length + 1) c7, pl] 45 := ⟨(hgrow6.block nb RCd.lt (fun e => hne e.symm)).trans RCd.out⟩; have t0 := R6.cell 2; have tf := R6.frozen 2)
  all_goals
    have hg3 : (w8.alloc (.cells #[.int .i64 av] 3)).grownBy w6 (pl).ownBlock := by rw [unhide HPL]; exact ⟨hgrow6.os, hgrow6.tape, hgrow6.output, hgrow6.size, hgrow6.block⟩
    obtain ⟨C6, K6⟩ := C7.pushP (g7 := g6) (c7 := c6) _ av hBz8 hg3 O6 (by rw [unhide HPL]; exact hat6.imp id (fun e => by rw [e]; show (w8.alloc _).heap.size = _; simp))
    have K7 := K8.trans K6
    clear O6 hgrow6 hat6 hlt6 hg3 t0 tf R6 RCd NW ow K6 d0 d1 d2 dd
    generalize w6.setCell ⟨nb, 2, none⟩ (.slice (some ⟨g6, 0, none⟩) ((P).length + 1) c6) = w5 at C6 K7 ⊢
    have t0 : w5.cell? ⟨nb, 1, none⟩ = some (.slice (some ⟨g7, 0, none⟩) ((N).length + 1) c7) := C6.row.cell 1
    go_wp2_with fail
    go_ret
    exact ⟨by simp, _, _, C6, K7⟩

end Go.Proofs.YtcehablmloleaaaGreatDoor
