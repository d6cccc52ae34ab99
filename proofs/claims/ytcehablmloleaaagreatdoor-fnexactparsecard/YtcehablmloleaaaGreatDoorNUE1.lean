/-
  Numbering: a tree with kids is added (written by mknue.py). Own work.
-/
import Derived.Test.YtcehablmloleaaaGreatDoorNUC
import Derived.Test.YtcehablmloleaaaGreatDoorMXAI
namespace Go.Proofs.YtcehablmloleaaaGreatDoor
open Go.RowKit
set_option linter.unusedVariables false

set_option maxHeartbeats 1600000 in
set_option maxRecDepth 100000 in
theorem add_un (B nb : Nat) (w0 : World) (i op : Int) (t1 : TypeId) (u1 : Value) (n1 : Nat) (f1 : Nat → List Nd) (Q1 : List Int) (l1 : ∀ b, (f1 b).length = n1) (V1 : Hid (AdV B nb w0 (.iface t1 u1) f1 Q1 n1)) (p1 : Q1.length = n1)
    (HA : Hid (∀ ks w, Below B w0 w → Calls Tryz.prog 84 #[.iface 176 (.agg #[.int .i64 i, .int .i64 op, .iface t1 u1])] w (NdA ⟨op, 0, ⟨#[]⟩, [], ks⟩ w))) :
    AdV B nb w0 (.iface 176 (.agg #[.int .i64 i, .int .i64 op, .iface t1 u1])) (fun b => f1 (b) ++ [⟨op, 0, ⟨#[]⟩, [], [((b + n1 - 1 : Nat) : Int)]⟩]) (Q1 ++ [i]) (n1 + 1) := by
  intro N P nd pl nv kv w hw hC hn hpn
  have hk := kids_un i op t1 u1
  have hp := place_un i op t1 u1
  have Hk := hide (kids_of_un i op t1 u1)
  have HP := hide (place_of_un i op t1 u1)
  have Hw := hide hw
  have hcb := hC.row.lt
  have hBw : B ≤ w.heap.size := by have := hC.low; omega
  obtain ⟨ti, hti, hz0, hz1, hzb⟩ := info_parts infoND
  obtain ⟨tj, htj, hy0, hy1, hyb⟩ := info_parts infoIN
  have hfn := Tryz.func199
  have hnm : (Tryz.f199.name == "runtime.NumGoroutine") = false := by kernel_rfl
  have hbd : Tryz.f199.body.isNone = false := by kernel_rfl
  have hfu : Tryz.prog.types.size + Made.depth = 378 := by kernel_rfl
  have HLV := hide (And.intro l1 p1)
  have hq0 : P.length + (n1) + 1 ≤ 65535 := by omega
  clear hw
  go_enter Tryz.func63, Tryz.ntmps63
  go_wp2_with fail
  refine (unhide Hk _).mono ?_
  rintro r w1 ⟨g, rfl, hg, R1, hb1⟩
  have X0 : Kn B nb g w nd pl N P nd pl nv kv (.slice none 0 0) [] #[.iface t1 u1] w1 := ⟨hC.below hb1, Nk.of_all hb1 hBw, R1, World.ownsRow_nil _ _ _ _, fun q hq => by cases hq⟩
  have N0 := hide (rfl : N = N)
  have hv0 : ∀ j, (hj : j < ([] : List Value).length) → ∀ q, ([] : List Value)[j].ownBlock = some q → w.heap.size ≤ q := fun j hj => absurd hj (by simp)
  clear hb1
  dsimp only
  go_wp2_with fail
  refine wp_loop_rounds 2 ?_
  rw [rounds_succ]
  have c1 : w1.cell? ⟨g, 0, none⟩ = some (.iface t1 u1) := X0.R.cell 0
  go_wp2_with fail
  refine (unhide V1 _ _ _ _ _ _ _ ((unhide Hw).trans X0.K.low) X0.C (by omega) (by omega)).mono ?_
  rintro r wa1 ⟨rfl, nd1, pl1, nx1, kx1, Cz1, Kz1, hv1⟩
  have Y1 := X0.call Cz1 Kz1 hv1
  have zw1 := X0.K.low.size
  obtain ⟨a1, ha1⟩ : ∃ a : Int, a = (((N).length + (f1 (N).length).length - 1 : Nat) : Int) := ⟨_, rfl⟩
  obtain ⟨N1, hN1⟩ : ∃ M, M = N ++ f1 (N).length := ⟨_, rfl⟩
  obtain ⟨P1, hP1⟩ : ∃ M, M = P ++ Q1 := ⟨_, rfl⟩
  obtain ⟨nv1, hnv1⟩ : ∃ M, M = nv ++ nx1 := ⟨_, rfl⟩
  obtain ⟨kv1, hkv1⟩ : ∃ M, M = kv ++ kx1 := ⟨_, rfl⟩
  rw [← hN1, ← hP1, ← hnv1, ← hkv1] at Y1
  rw [← ha1]
  have hln1 : N1.length = (N).length + n1 := by rw [hN1, List.length_append, l1]
  have hlp1 : P1.length = (P).length + n1 := by rw [hP1, List.length_append, p1]
  have hb1 : N1.length + (1) ≤ 65535 := by omega
  have hc1 : P1.length + (1) ≤ 65535 := by omega
  have HL1 := hide (And.intro hln1 hlp1)
  clear hln1 hlp1
  have HE1 := hide (And.intro ha1 (And.intro hN1 (And.intro hP1 (And.intro hnv1 hkv1))))
  have HV1 := hide hv1
  clear ha1 hN1 hP1 hnv1 hkv1 hv1 Cz1 Kz1 c1 X0
  dsimp only
  go_wp2_with (at_builtin; refine wpList_append_lies _ rfl _ _ 26 rfl w.heap.size 3 tj (.int .i64 0) 1 8 Tryz.underlying26 htj hy0 hy1 hyb rfl (by decide) _ _ _ rfl (World.ownsRow.alloc Y1.O _) ⟨wa1.heap.size, 0, none⟩ 1 1 [.int .i64 a1] rfl rfl ?c1 ?c2 (by decide) ?c3 ?c4 ?c5 (wa1.heap.size + 1) (by simp) ?_)
  case c1 => exact one_cell _ _ _ _ (by simp)
  case c2 => intro u hu; simp at hu; subst hu; rfl
  case c3 => unfold maxLen; simp
  case c4 => simp
  case c5 => have := Y1.K.low.size; simp; omega
  intro gk1 cap1 wb1 Ok1 hgrow1 hat1 hgl1
  have X1 := Y1.app hBw Ok1 hgrow1 hat1
  clear Y1 Ok1 hgrow1 hat1 hgl1
  dsimp only [List.length_nil, List.length_cons, List.nil_append, List.cons_append, Nat.zero_add, Nat.reduceAdd] at X1 ⊢
  go_wp2_with fail
  rw [rounds_succ]
  go_wp2_with fail
  obtain ⟨x, hxe⟩ : ∃ x : Nd, x = ⟨op, 0, ⟨#[]⟩, [], [a1]⟩ := ⟨_, rfl⟩
  have HAx := hide (show ∀ w, Below B w0 w → Calls Tryz.prog 84 #[.iface 176 (.agg #[.int .i64 i, .int .i64 op, .iface t1 u1])] w (NdA x w) from fun w h => by rw [hxe]; exact unhide HA _ w h)
  have hx : x.kids = [a1] := by rw [hxe]
  have HXE := hide hxe
  clear hxe HA
  have HwT := hide ((unhide Hw).trans X1.K.low)
  have hBW : B ≤ wb1.heap.size := Nat.le_trans hBw X1.K.low.size
  refine (unhide HAx _ (unhide HwT)).mono ?_
  rintro r w2 ⟨⟨u, cu, rfl, OU⟩, hb2⟩
  have C2 := X1.C.below hb2
  have K2 := X1.K.trans (Nk.of_all hb2 hBW)
  have OK2 := owns_blocksN (w' := w2) X1.O (fun q hq => hb2.block q (X1.O.lt q hq).2)
  have hz2 := hb2.size
  have A3 := (Below.refl w2.heap.size w2).alloc (Nat.le_refl _) (.cells #[.int .i64 x.op, .int .i64 x.num, .string x.text, .slice u x.names.length cu, .slice (some ⟨gk1, 0, none⟩) 1 cap1] 91)
  have RV := Row.new w2 #[.int .i64 x.op, .int .i64 x.num, .string x.text, .slice u x.names.length cu, .slice (some ⟨gk1, 0, none⟩) 1 cap1] 91
  have C3 := C2.below A3
  have K3 := K2.trans (Nk.of_all A3 (Nat.le_trans hBW hz2))
  have OU3 := owns_blocksN (w' := w2.alloc (.cells #[.int .i64 x.op, .int .i64 x.num, .string x.text, .slice u x.names.length cu, .slice (some ⟨gk1, 0, none⟩) 1 cap1] 91)) OU (fun q hq => A3.block q (OU.lt q hq).2)
  have OK3 := owns_blocksN (w' := w2.alloc (.cells #[.int .i64 x.op, .int .i64 x.num, .string x.text, .slice u x.names.length cu, .slice (some ⟨gk1, 0, none⟩) 1 cap1] 91)) OK2 (fun q hq => A3.block q (OK2.lt q hq).2)
  have hz3 : w2.heap.size < (w2.alloc (.cells #[.int .i64 x.op, .int .i64 x.num, .string x.text, .slice u x.names.length cu, .slice (some ⟨gk1, 0, none⟩) 1 cap1] 91)).heap.size := by simp
  have HUA := hide (show ∀ j, (hj : j < (nv1).length) → ∀ q, (nv1)[j].ownBlock = some q → (Value.slice u x.names.length cu).ownBlock ≠ some q from fun j hj q hq e => by have := (OU.lt q e).1; have := (X1.C.nodes.lts.2.1 j hj q hq).2; omega)
  clear OU OK2 C2 K2 hb2 A3
  dsimp only
  go_wp2_with fail
  generalize w2.alloc (.cells #[.int .i64 x.op, .int .i64 x.num, .string x.text, .slice u x.names.length cu, .slice (some ⟨gk1, 0, none⟩) 1 cap1] 91) = w3 at C3 K3 OU3 OK3 RV hz3 ⊢
  generalize w2.heap.size = vb at RV ⊢
  obtain ⟨xn, cn, hnd, _⟩ := owns_form2 C3.nodes.own
  have HND := hide hnd
  clear hnd
  apply cutC
  · intro HBX
    have hnd := unhide HND
    obtain ⟨e0, e1, e2, e3, e4⟩ := row5N RV
    have u0 : w3.cell? ⟨nb, 0, none⟩ = some (nd1) := C3.row.cell 0
    rw [hnd] at u0
    have uf := C3.row.frozen 0
    have NW := World.news_of_block (heap_alloc_new w3 (.cells #[.int .i64 x.op, .int .i64 x.num, .string x.text, .slice u x.names.length cu, .slice (some ⟨gk1, 0, none⟩) 1 cap1] 91))
    have d0 : w3.drew.cell? ⟨nb, 0, none⟩ = some (.slice xn (N1).length cn) ∧ w3.drew.frozen? ⟨nb, 0, none⟩ = false := ⟨u0, uf⟩
    have d1 : w3.drew.cell? ⟨vb, 0, none⟩ = some (.int .i64 x.op) := e0
    have d2 : w3.drew.cell? ⟨vb, 1, none⟩ = some (.int .i64 x.num) := e1
    have d3 : w3.drew.cell? ⟨vb, 2, none⟩ = some (.string x.text) := e2
    have d4 : w3.drew.cell? ⟨vb, 3, none⟩ = some (.slice u x.names.length cu) := e3
    have d5 : w3.drew.cell? ⟨vb, 4, none⟩ = some (.slice (some ⟨gk1, 0, none⟩) 1 cap1) := e4
    have ow : (w3.alloc (.cells #[.int .i64 x.op, .int .i64 x.num, .string x.text, .slice u x.names.length cu, .slice (some ⟨gk1, 0, none⟩) 1 cap1] 91)).drew.ownsRow B 91 5 (.slice xn (N1).length cn) (N1).length (ndC (N1) (nv1) (kv1)) := by
      have := C3.nodes.own
      rw [hnd] at this
      exact (World.ownsRow.alloc this _).drew
    have RCd : Row (w3.alloc (.cells #[.int .i64 x.op, .int .i64 x.num, .string x.text, .slice u x.names.length cu, .slice (some ⟨gk1, 0, none⟩) 1 cap1] 91)).drew nb #[nd1, pl1] 116 := ⟨(C3.row.alloc (.cells #[.int .i64 x.op, .int .i64 x.num, .string x.text, .slice u x.names.length cu, .slice (some ⟨gk1, 0, none⟩) 1 cap1] 91)).out⟩
    have dd : (w3.alloc (.cells #[.int .i64 x.op, .int .i64 x.num, .string x.text, .slice u x.names.length cu, .slice (some ⟨gk1, 0, none⟩) 1 cap1] 91)).drew.cell? ⟨nb, 0, none⟩ = some (.slice xn (N1).length cn) := by
      have := RCd.cell 0
      rw [hnd] at this
      exact this
    have hne : (Value.slice xn (N1).length cn).ownBlock ≠ some nb := by rw [← hnd]; exact own_ne_row C3.row C3.nodes.own (by decide)
    have hBz : B ≤ w3.heap.size := by have := C3.row.lt; have := C3.low; omega
    clear e0 e1 e2 e3 e4 u0 uf hnd
    go_region_law (refine step_append_lies _ rfl _ _ 22 rfl B 91 ti (.agg #[.int .i64 0, .int .i64 0, .string ByteArray.empty, .slice none 0 0, .slice none 0 0]) 5 80 Tryz.underlying22 hti hz0 hz1 hzb rfl (by decide) (.slice xn (N1).length cn) (N1).length (ndC (N1) (nv1) (kv1)) rfl ow ⟨w3.heap.size, 0, none⟩ 1 1 [.int .i64 x.op, .int .i64 x.num, .string x.text, .slice u x.names.length cu, .slice (some ⟨gk1, 0, none⟩) 1 cap1] rfl rfl NW (by intro u hu; simp at hu; rcases hu with rfl | rfl | rfl | rfl | rfl <;> rfl) (by decide) (by unfold maxLen; omega) (by omega) (by simp; omega) _ rfl ?_; intro g7 c7 w7 O7 hgrow hat hlt; have R7 : Row w7 nb #[nd1, pl1] 116 := ⟨(hgrow.block nb RCd.lt (fun e => hne e.symm)).trans RCd.out⟩; have t0 := R7.cell 0; have tf := R7.frozen 0)
    all_goals
      have hg2 : (w3.alloc (.cells #[.int .i64 x.op, .int .i64 x.num, .string x.text, .slice u x.names.length cu, .slice (some ⟨gk1, 0, none⟩) 1 cap1] 91)).grownBy w7 (nd1).ownBlock := by rw [unhide HND]; exact ⟨hgrow.os, hgrow.tape, hgrow.output, hgrow.size, hgrow.block⟩
      obtain ⟨C7, K7⟩ := C3.pushN (g7 := g7) (c7 := c7) (x := x) (u := .slice u x.names.length cu) (k := .slice (some ⟨gk1, 0, none⟩) 1 cap1) _ hBz (own_lowC OU3 (by omega)) (by rw [hx]; exact own_lowC OK3 (by omega)) (unhide HUA) (fun j hj q hq e => (X1.ap q e).2 j hj hq) (fun q hq => (X1.ap q hq).1) hg2 O7 (by rw [unhide HND]; exact hat.imp id (fun e => by rw [e]; show (w3.alloc _).heap.size = _; simp))
      have K8 := K3.trans K7
      have KV8 := hide (show ∀ q, (.slice (some ⟨gk1, 0, none⟩) 1 cap1 : Value).ownBlock = some q → w.heap.size ≤ q from fun q hq => (OK3.lt q hq).1)
      clear O7 hgrow hat hlt R7 RCd dd d0 d1 d2 d3 d4 d5 NW ow hg2 K7
      clear t0 tf
      generalize w7.setCell ⟨nb, 0, none⟩ (.slice (some ⟨g7, 0, none⟩) ((N1).length + 1) c7) = w8 at C7 K8 ⊢
      clear hne
      revert KV8
      revert K8
      revert C7
      revert w8
      revert c7
      revert g7
      exact HBX.out
  intro g7 c7 w8 C7 K8 KV8
  clear RV C3 K3 OU3 OK3
  go_wp2_with fail
  obtain ⟨xp, cp, hpl, _⟩ := owns_form2 C7.places
  have HPL := hide hpl
  have C8 := C7.below (drewB w8)
  have K9 := K8.trans (Nk.of_all (drewB w8) (Nat.le_trans hBw K8.low.size))
  have s1 : w8.drew.cell? ⟨nb, 1, none⟩ = some (.slice xp (P1).length cp) := by have := C8.row.cell 1; rw [hpl] at this; exact this
  have s2 := C8.row.frozen 1
  have hne2 : (Value.slice xp (P1).length cp).ownBlock ≠ some nb := by rw [← hpl]; exact own_ne_row C8.row C8.places (by decide)
  have HC := hide (unhide HP w8.drew)
  have hBz8 : B ≤ w8.drew.heap.size := by have := C8.row.lt; have := C8.low; omega
  clear hpl C7 K8
  go_region_law (first
    | (refine step_invR rfl _ _ _ rfl 176 (.agg #[.int .i64 i, .int .i64 op, .iface t1 u1]) rfl _ hfu _ _ hp _ hfn hnm hbd (fun v' w' => v' = .int .i64 i ∧ Below w8.heap.size w8.drew w') ((unhide HC).mono (fun r w' h => ⟨_, h.1, rfl, h.2⟩)) ?_; rintro v9 w9 ⟨rfl, hb9⟩; have C9 := C8.below hb9; have K10 := K9.trans (Nk.of_all hb9 hBz8); have hBz9 : B ≤ w9.heap.size := Nat.le_trans hBz8 hb9.size; have s3 : w9.cell? ⟨nb, 1, none⟩ = some (.slice xp (P1).length cp) := (by have := C9.row.cell 1; rw [unhide HPL] at this; exact this); have s4 := C9.row.frozen 1; have ow9 : (w9.alloc (.cells #[.int .i64 i] 3)).ownsRow B 3 1 (.slice xp (P1).length cp) (P1).length (intsV (P1)) := (by have := C9.places; rw [unhide HPL] at this; exact World.ownsRow.alloc this _); have s5 : (w9.alloc (.cells #[.int .i64 i] 3)).cell? ⟨nb, 1, none⟩ = some (.slice xp (P1).length cp) := (by have := (C9.row.alloc (.cells #[.int .i64 i] 3)).cell 1; rw [unhide HPL] at this; exact this); have NW9 := World.news_of_block (heap_alloc_new w9 (.cells #[.int .i64 i] 3)); have RC9 : Row (w9.alloc (.cells #[.int .i64 i] 3)) nb #[_, _] 116 := C9.row.alloc (.cells #[.int .i64 i] 3))
    | (refine step_append_lies _ rfl _ _ 26 rfl B 3 tj (.int .i64 0) 1 8 Tryz.underlying26 htj hy0 hy1 hyb rfl (by decide) (.slice xp (P1).length cp) (P1).length (intsV (P1)) rfl ow9 ⟨w9.heap.size, 0, none⟩ 1 1 [.int .i64 i] rfl rfl NW9 (by intro u hu; simp at hu; rcases hu with rfl; rfl) (by decide) (by unfold maxLen; omega) (by omega) (by simp; omega) _ rfl ?_; intro g6 c6 w6 O6 hgrow6 hat6 hlt6; have R6 : Row w6 nb #[_, _] 116 := ⟨(hgrow6.block nb RC9.lt (fun e => hne2 e.symm)).trans RC9.out⟩; have t0 := R6.cell 1; have tf := R6.frozen 1))
  all_goals
    have hg3 : (w9.alloc (.cells #[.int .i64 i] 3)).grownBy w6 (pl1).ownBlock := by rw [unhide HPL]; exact hgrow6
    obtain ⟨C6, K6⟩ := C9.pushP (g7 := g6) (c7 := c6) _ i hBz9 hg3 O6 (by rw [unhide HPL]; exact hat6.imp id (fun e => by rw [e]; simp))
    have K7 := K10.trans K6
    clear O6 hgrow6 hat6 hlt6 hg3 s1 s2 s3 s4 s5 t0 tf R6 RC9 NW9 ow9 C8 C9 K9 K10 K6
    generalize w6.setCell ⟨nb, 1, none⟩ (.slice (some ⟨g6, 0, none⟩) ((P1).length + 1) c6) = w5 at C6 K7 ⊢
    have t0 : w5.cell? ⟨nb, 0, none⟩ = some (.slice (some ⟨g7, 0, none⟩) ((N1).length + 1) c7) := C6.row.cell 0
    go_wp2_with fail
    go_ret
    obtain ⟨hln1, hlp1⟩ := unhide HL1
    obtain ⟨ha1, hN1, hP1, hnv1, hkv1⟩ := unhide HE1
    have ex : x = ⟨op, 0, ⟨#[]⟩, [], [((N.length + n1 - 1 : Nat) : Int)]⟩ := by rw [unhide HXE, ha1, l1]
    have eN : N1 ++ [x] = N ++ (f1 (N.length) ++ [⟨op, 0, ⟨#[]⟩, [], [((N.length + n1 - 1 : Nat) : Int)]⟩]) := by rw [ex, hN1]; simp only [List.append_assoc]
    have eP : P1 ++ [i] = P ++ (Q1 ++ [i]) := by rw [hP1]; simp only [List.append_assoc]
    have eV : nv1 ++ [.slice u x.names.length cu] = nv ++ (nx1 ++ [.slice u x.names.length cu]) := by rw [hnv1]; simp only [List.append_assoc]
    have eK : kv1 ++ [.slice (some ⟨gk1, 0, none⟩) 1 cap1] = kv ++ (kx1 ++ [.slice (some ⟨gk1, 0, none⟩) 1 cap1]) := by rw [hkv1]; simp only [List.append_assoc]
    refine ⟨congrArg (fun m : Nat => Ending.returned (.int .i64 (m : Int))) ?_, _, _, nx1 ++ [.slice u x.names.length cu], kx1 ++ [.slice (some ⟨gk1, 0, none⟩) 1 cap1], ?_, K7, ?_⟩
    · simp only [List.length_append, List.length_cons, List.length_nil, l1]
      omega
    · rw [← eN, ← eP, ← eV, ← eK]
      exact C6
    · exact lowV_app (lowV_mono (unhide HV1) zw1) (lowV_one (unhide KV8))

end Go.Proofs.YtcehablmloleaaaGreatDoor
