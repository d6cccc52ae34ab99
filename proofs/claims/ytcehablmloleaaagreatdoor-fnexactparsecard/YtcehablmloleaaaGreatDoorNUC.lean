/-
  Numbering: a tree is added. Own work.
-/
import Derived.Test.YtcehablmloleaaaGreatDoorMXAK
import Derived.Test.YtcehablmloleaaaGreatDoorMXAE
namespace Go.Proofs.YtcehablmloleaaaGreatDoor
open Go.RowKit
set_option linter.unusedVariables false

/-- a tree's nodes, the first at a place -/
def flE : Ex → Nat → List Nd
  | .un i op k, b => flE k b ++ [⟨op, 0, ⟨#[]⟩, [], [((b + k.cnt - 1 : Nat) : Int)]⟩]
  | .bin i op l r, b => flE l b ++ flE r (b + l.cnt) ++ [⟨op, 0, ⟨#[]⟩, [], [((b + l.cnt - 1 : Nat) : Int), ((b + l.cnt + r.cnt - 1 : Nat) : Int)]⟩]
  | .ite i c t e, b => flE c b ++ flE t (b + c.cnt) ++ flE e (b + c.cnt + t.cnt) ++ [⟨27, 0, ⟨#[]⟩, [], [((b + c.cnt - 1 : Nat) : Int), ((b + c.cnt + t.cnt - 1 : Nat) : Int), ((b + c.cnt + t.cnt + e.cnt - 1 : Nat) : Int)]⟩]
  | e, _ => [exN e]

/-- their places -/
def plE : Ex → List Int
  | .int i _ => [i] | .text i _ => [i] | .bool i _ => [i] | .set i .. => [i] | .name i _ => [i] | .attr i _ => [i] | .lett i _ => [i]
  | .un i _ k => plE k ++ [i]
  | .bin i _ l r => plE l ++ plE r ++ [i]
  | .ite i c t e => plE c ++ plE t ++ plE e ++ [i]

theorem infoND : (Tryz.prog.info? 91).map (fun i => (i.zero, i.size, i.bytes)) = some (some (.agg #[.int .i64 0, .int .i64 0, .string ByteArray.empty, .slice none 0 0, .slice none 0 0]), 5, 80) := by kernel_rfl

theorem infoIN : (Tryz.prog.info? 3).map (fun i => (i.zero, i.size, i.bytes)) = some (some (.int .i64 0), 1, 8) := by kernel_rfl

theorem drewB (w : World) : Below w.heap.size w w.drew := ⟨rfl, rfl, rfl, Nat.le_refl _, fun _ _ => rfl⟩

/-- what is said of a tree that is added -/
def AdO (B nb : Nat) (N : List Nd) (P : List Int) (nd pl : Value) (nv kv : List Value) (M : List Nd) (Q : List Int) (w : World) (r : Ending) (w' : World) : Prop :=
  r = .returned (.int .i64 ((N.length + M.length - 1 : Nat) : Int)) ∧ ∃ nd' pl' nv' kv', NuO w' B nb (N ++ M) (P ++ Q) nd' pl' (nv ++ nv') (kv ++ kv') ∧ Nk B nb nd pl w nd' pl' w' ∧ ∀ j, (hj : j < kv'.length) → ∀ q, kv'[j].ownBlock = some q → w.heap.size ≤ q

def AdV (B nb : Nat) (w0 : World) (v : Value) (fl : Nat → List Nd) (Q : List Int) (n : Nat) : Prop :=
  ∀ (N : List Nd) (P : List Int) (nd pl : Value) (nv kv : List Value) (w : World), Below B w0 w → NuO w B nb N P nd pl nv kv → N.length + n ≤ 65535 → P.length + n ≤ 65535 → Calls Tryz.prog 63 #[.pointer (some ⟨nb, 0, none⟩), v] w (AdO B nb N P nd pl nv kv (fl N.length) Q w)

set_option maxHeartbeats 1600000 in
set_option maxRecDepth 100000 in
theorem add_leaf (B nb : Nat) (w0 : World) (T : TypeId) (v : Value) (i : Int) (x : Nd) (hx : x.kids = [])
    (hk : ∀ w, (method 378 T v "loop.example/s01308/impl.kids").run Tryz.prog w = .ok (196, .int .i64 i) w)
    (hp : ∀ w, (method 378 T v "loop.example/s01308/impl.place").run Tryz.prog w = .ok (197, .int .i64 i) w)
    (HA : Hid (∀ w, Below B w0 w → Calls Tryz.prog 84 #[.iface T v] w (NdA x w))) :
    AdV B nb w0 (.iface T v) (fun _ => [x]) [i] 1 := by
  intro N P nd pl nv kv w hw hC hn hpn
  have Hw := hide hw
  have hcb := hC.row.lt
  have hBw : B ≤ w.heap.size := by have := hC.low; omega
  clear hw
  go_enter Tryz.func63, Tryz.ntmps63
  go_wp2_with fail
  refine (kids_leaf i _).mono ?_
  rintro r w1 ⟨rfl, hw1⟩
  rw [hw1]
  clear hw1
  dsimp only
  go_wp2_with fail
  refine wp_loop_rounds 1 ?_
  rw [rounds_succ]
  go_wp2_with fail
  have K1 := Nk.refl B nb nd pl w
  have OK : w.ownsRow w.heap.size 3 1 (.slice none 0 0) 0 (intsV []) := World.ownsRow_nil _ _ _ _
  have AP : ∀ q, (Value.slice none 0 0).ownBlock = some q → pl.ownBlock ≠ some q ∧ ∀ j, (hj : j < kv.length) → kv[j].ownBlock ≠ some q := fun q hq => by cases hq
  have HwT := Hw
  have hBW := hBw
  obtain ⟨ti, hti, hz0, hz1, hzb⟩ := info_parts infoND
  obtain ⟨tj, htj, hy0, hy1, hyb⟩ := info_parts infoIN
  have hfn := Tryz.func197
  have hnm : (Tryz.f197.name == "runtime.NumGoroutine") = false := by kernel_rfl
  have hbd : Tryz.f197.body.isNone = false := by kernel_rfl
  have HP := hide (fun w => (place_leaf i w).mono (R' := fun r w' => r = .returned (.int .i64 i) ∧ Below w.heap.size w w') (fun r w' ⟨h1, h2⟩ => ⟨h1, by rw [h2]; exact Below.refl _ _⟩))
  have hfu : Tryz.prog.types.size + Made.depth = 378 := by kernel_rfl
  refine (unhide HA _ (unhide HwT)).mono ?_
  rintro r w2 ⟨⟨u, cu, rfl, OU⟩, hb2⟩
  have C2 := hC.below hb2
  have K2 := K1.trans (Nk.of_all hb2 hBW)
  have OK2 := owns_blocksN (w' := w2) OK (fun q hq => hb2.block q (OK.lt q hq).2)
  have hz2 := hb2.size
  have A3 := (Below.refl w2.heap.size w2).alloc (Nat.le_refl _) (.cells #[.int .i64 x.op, .int .i64 x.num, .string x.text, .slice u x.names.length cu, .slice none 0 0] 91)
  have RV := Row.new w2 #[.int .i64 x.op, .int .i64 x.num, .string x.text, .slice u x.names.length cu, .slice none 0 0] 91
  have C3 := C2.below A3
  have K3 := K2.trans (Nk.of_all A3 (Nat.le_trans hBW hz2))
  have OU3 := owns_blocksN (w' := w2.alloc (.cells #[.int .i64 x.op, .int .i64 x.num, .string x.text, .slice u x.names.length cu, .slice none 0 0] 91)) OU (fun q hq => A3.block q (OU.lt q hq).2)
  have OK3 := owns_blocksN (w' := w2.alloc (.cells #[.int .i64 x.op, .int .i64 x.num, .string x.text, .slice u x.names.length cu, .slice none 0 0] 91)) OK2 (fun q hq => A3.block q (OK2.lt q hq).2)
  have hz3 : w2.heap.size < (w2.alloc (.cells #[.int .i64 x.op, .int .i64 x.num, .string x.text, .slice u x.names.length cu, .slice none 0 0] 91)).heap.size := by simp
  have HUA := hide (show ∀ j, (hj : j < (nv).length) → ∀ q, (nv)[j].ownBlock = some q → (Value.slice u x.names.length cu).ownBlock ≠ some q from fun j hj q hq e => by have := (OU.lt q e).1; have := (hC.nodes.lts.2.1 j hj q hq).2; omega)
  clear OU OK2 C2 K2 hb2 A3
  dsimp only
  go_wp2_with fail
  generalize w2.alloc (.cells #[.int .i64 x.op, .int .i64 x.num, .string x.text, .slice u x.names.length cu, .slice none 0 0] 91) = w3 at C3 K3 OU3 OK3 RV hz3 ⊢
  generalize w2.heap.size = vb at RV ⊢
  obtain ⟨xn, cn, hnd, _⟩ := owns_form2 C3.nodes.own
  have HND := hide hnd
  clear hnd
  apply cutC
  · intro HBX
    have hnd := unhide HND
    obtain ⟨e0, e1, e2, e3, e4⟩ := row5N RV
    have u0 : w3.cell? ⟨nb, 0, none⟩ = some (nd) := C3.row.cell 0
    rw [hnd] at u0
    have uf := C3.row.frozen 0
    have NW := World.news_of_block (heap_alloc_new w3 (.cells #[.int .i64 x.op, .int .i64 x.num, .string x.text, .slice u x.names.length cu, .slice none 0 0] 91))
    have d0 : w3.drew.cell? ⟨nb, 0, none⟩ = some (.slice xn (N).length cn) ∧ w3.drew.frozen? ⟨nb, 0, none⟩ = false := ⟨u0, uf⟩
    have d1 : w3.drew.cell? ⟨vb, 0, none⟩ = some (.int .i64 x.op) := e0
    have d2 : w3.drew.cell? ⟨vb, 1, none⟩ = some (.int .i64 x.num) := e1
    have d3 : w3.drew.cell? ⟨vb, 2, none⟩ = some (.string x.text) := e2
    have d4 : w3.drew.cell? ⟨vb, 3, none⟩ = some (.slice u x.names.length cu) := e3
    have d5 : w3.drew.cell? ⟨vb, 4, none⟩ = some (.slice none 0 0) := e4
    have ow : (w3.alloc (.cells #[.int .i64 x.op, .int .i64 x.num, .string x.text, .slice u x.names.length cu, .slice none 0 0] 91)).drew.ownsRow B 91 5 (.slice xn (N).length cn) (N).length (ndC (N) (nv) (kv)) := by
      have := C3.nodes.own
      rw [hnd] at this
      exact (World.ownsRow.alloc this _).drew
    have RCd : Row (w3.alloc (.cells #[.int .i64 x.op, .int .i64 x.num, .string x.text, .slice u x.names.length cu, .slice none 0 0] 91)).drew nb #[nd, pl] 116 := ⟨(C3.row.alloc (.cells #[.int .i64 x.op, .int .i64 x.num, .string x.text, .slice u x.names.length cu, .slice none 0 0] 91)).out⟩
    have dd : (w3.alloc (.cells #[.int .i64 x.op, .int .i64 x.num, .string x.text, .slice u x.names.length cu, .slice none 0 0] 91)).drew.cell? ⟨nb, 0, none⟩ = some (.slice xn (N).length cn) := by
      have := RCd.cell 0
      rw [hnd] at this
      exact this
    have hne : (Value.slice xn (N).length cn).ownBlock ≠ some nb := by rw [← hnd]; exact own_ne_row C3.row C3.nodes.own (by decide)
    have hBz : B ≤ w3.heap.size := by have := C3.row.lt; have := C3.low; omega
    clear e0 e1 e2 e3 e4 u0 uf hnd
    go_region_law (refine step_append_lies _ rfl _ _ 22 rfl B 91 ti (.agg #[.int .i64 0, .int .i64 0, .string ByteArray.empty, .slice none 0 0, .slice none 0 0]) 5 80 Tryz.underlying22 hti hz0 hz1 hzb rfl (by decide) (.slice xn (N).length cn) (N).length (ndC (N) (nv) (kv)) rfl ow ⟨w3.heap.size, 0, none⟩ 1 1 [.int .i64 x.op, .int .i64 x.num, .string x.text, .slice u x.names.length cu, .slice none 0 0] rfl rfl NW (by intro u hu; simp at hu; rcases hu with rfl | rfl | rfl | rfl | rfl <;> rfl) (by decide) (by unfold maxLen; omega) (by omega) (by simp; omega) _ rfl ?_; intro g7 c7 w7 O7 hgrow hat hlt; have R7 : Row w7 nb #[nd, pl] 116 := ⟨(hgrow.block nb RCd.lt (fun e => hne e.symm)).trans RCd.out⟩; have t0 := R7.cell 0; have tf := R7.frozen 0)
    all_goals
      have hg2 : (w3.alloc (.cells #[.int .i64 x.op, .int .i64 x.num, .string x.text, .slice u x.names.length cu, .slice none 0 0] 91)).grownBy w7 (nd).ownBlock := by rw [unhide HND]; exact ⟨hgrow.os, hgrow.tape, hgrow.output, hgrow.size, hgrow.block⟩
      obtain ⟨C7, K7⟩ := C3.pushN (g7 := g7) (c7 := c7) (x := x) (u := .slice u x.names.length cu) (k := .slice none 0 0) _ hBz (own_lowC OU3 (by omega)) (by rw [hx]; exact own_lowC OK3 (by omega)) (unhide HUA) (fun j hj q hq e => (AP q e).2 j hj hq) (fun q hq => (AP q hq).1) hg2 O7 (by rw [unhide HND]; exact hat.imp id (fun e => by rw [e]; show (w3.alloc _).heap.size = _; simp))
      have K8 := K3.trans K7
      have KV8 := hide (show ∀ q, (.slice none 0 0 : Value).ownBlock = some q → w.heap.size ≤ q from fun q hq => (OK3.lt q hq).1)
      clear O7 hgrow hat hlt R7 RCd dd d0 d1 d2 d3 d4 d5 NW ow hg2 K7
      clear t0 tf
      generalize w7.setCell ⟨nb, 0, none⟩ (.slice (some ⟨g7, 0, none⟩) ((N).length + 1) c7) = w8 at C7 K8 ⊢
      clear hne
      revert KV8
      revert K8
      revert C7
      revert w8
      revert c7
      revert g7
      exact HBX.out
  intro g7 c7 w8 C7 K8 KV8
  clear RV C3 K3 OU3 OK3
  go_wp2_with fail
  obtain ⟨xp, cp, hpl, _⟩ := owns_form2 C7.places
  have HPL := hide hpl
  have C8 := C7.below (drewB w8)
  have K9 := K8.trans (Nk.of_all (drewB w8) (Nat.le_trans hBw K8.low.size))
  have s1 : w8.drew.cell? ⟨nb, 1, none⟩ = some (.slice xp (P).length cp) := by have := C8.row.cell 1; rw [hpl] at this; exact this
  have s2 := C8.row.frozen 1
  have hne2 : (Value.slice xp (P).length cp).ownBlock ≠ some nb := by rw [← hpl]; exact own_ne_row C8.row C8.places (by decide)
  have HC := hide (unhide HP w8.drew)
  have hBz8 : B ≤ w8.drew.heap.size := by have := C8.row.lt; have := C8.low; omega
  clear hpl C7 K8
  go_region_law (first
    | (refine step_invR rfl _ _ _ rfl T (v) rfl _ hfu _ _ hp _ hfn hnm hbd (fun v' w' => v' = .int .i64 i ∧ Below w8.heap.size w8.drew w') ((unhide HC).mono (fun r w' h => ⟨_, h.1, rfl, h.2⟩)) ?_; rintro v9 w9 ⟨rfl, hb9⟩; have C9 := C8.below hb9; have K10 := K9.trans (Nk.of_all hb9 hBz8); have hBz9 : B ≤ w9.heap.size := Nat.le_trans hBz8 hb9.size; have s3 : w9.cell? ⟨nb, 1, none⟩ = some (.slice xp (P).length cp) := (by have := C9.row.cell 1; rw [unhide HPL] at this; exact this); have s4 := C9.row.frozen 1; have ow9 : (w9.alloc (.cells #[.int .i64 i] 3)).ownsRow B 3 1 (.slice xp (P).length cp) (P).length (intsV (P)) := (by have := C9.places; rw [unhide HPL] at this; exact World.ownsRow.alloc this _); have s5 : (w9.alloc (.cells #[.int .i64 i] 3)).cell? ⟨nb, 1, none⟩ = some (.slice xp (P).length cp) := (by have := (C9.row.alloc (.cells #[.int .i64 i] 3)).cell 1; rw [unhide HPL] at this; exact this); have NW9 := World.news_of_block (heap_alloc_new w9 (.cells #[.int .i64 i] 3)); have RC9 : Row (w9.alloc (.cells #[.int .i64 i] 3)) nb #[_, _] 116 := C9.row.alloc (.cells #[.int .i64 i] 3))
    | (refine step_append_lies _ rfl _ _ 26 rfl B 3 tj (.int .i64 0) 1 8 Tryz.underlying26 htj hy0 hy1 hyb rfl (by decide) (.slice xp (P).length cp) (P).length (intsV (P)) rfl ow9 ⟨w9.heap.size, 0, none⟩ 1 1 [.int .i64 i] rfl rfl NW9 (by intro u hu; simp at hu; rcases hu with rfl; rfl) (by decide) (by unfold maxLen; omega) (by omega) (by simp; omega) _ rfl ?_; intro g6 c6 w6 O6 hgrow6 hat6 hlt6; have R6 : Row w6 nb #[_, _] 116 := ⟨(hgrow6.block nb RC9.lt (fun e => hne2 e.symm)).trans RC9.out⟩; have t0 := R6.cell 1; have tf := R6.frozen 1))
  all_goals
    have hg3 : (w9.alloc (.cells #[.int .i64 i] 3)).grownBy w6 (pl).ownBlock := by rw [unhide HPL]; exact hgrow6
    obtain ⟨C6, K6⟩ := C9.pushP (g7 := g6) (c7 := c6) _ i hBz9 hg3 O6 (by rw [unhide HPL]; exact hat6.imp id (fun e => by rw [e]; simp))
    have K7 := K10.trans K6
    clear O6 hgrow6 hat6 hlt6 hg3 s1 s2 s3 s4 s5 t0 tf R6 RC9 NW9 ow9 C8 C9 K9 K10 K6
    generalize w6.setCell ⟨nb, 1, none⟩ (.slice (some ⟨g6, 0, none⟩) ((P).length + 1) c6) = w5 at C6 K7 ⊢
    have t0 : w5.cell? ⟨nb, 0, none⟩ = some (.slice (some ⟨g7, 0, none⟩) ((N).length + 1) c7) := C6.row.cell 0
    go_wp2_with fail
    go_ret
    refine ⟨by simp, _, _, [_], [_], C6, K7, ?_⟩
    intro j hj q hq
    have hj0 : j = 0 := by simp at hj; exact hj
    subst hj0
    exact unhide KV8 q hq

end Go.Proofs.YtcehablmloleaaaGreatDoor
