/-
  Parse, the model: a statement is written down (written by mkhu.py). Own work.
-/
import Derived.Test.YtcehablmloleaaaGreatDoorMXAY
namespace Go.Proofs.YtcehablmloleaaaGreatDoor
open Go.RowKit
set_option linter.unusedVariables false

/-- what is said of a statement that is written down -/
def StM (B nb : Nat) (tv : Value) (s : Sx) (N : List Nd) (P : List Int) (nd pl : Value) (w : World) (r : Ending) (w' : World) : Prop :=
  r = .returned (.tuple #[.agg #[.int .i64 s.kind, .string s.name, .int .i64 (ixO s.cond N.length), .int .i64 (ixO s.grant (N.length + cntO s.cond))], .int .i64 (mx (dpO s.cond) (dpO s.grant))]) ∧ ∃ nd' pl' nv' kv', LuO w' B nb tv (N ++ flO s.cond N.length ++ flO s.grant (N.length + cntO s.cond)) (P ++ plO s.cond ++ plO s.grant) nd' pl' nv' kv' ∧ Nk B nb nd pl w nd' pl' w'

/-- how far the arrow is -/
def FrI (f n : Nat) (w4 : World) (vf : Value) (wr : World) : Prop :=
  ∃ k : Nat, f ≤ k ∧ k ≤ n ∧ vf = .int .i64 (k : Int) ∧ Below w4.heap.size w4 wr

set_option maxRecDepth 100000 in
set_option maxHeartbeats 6400000 in
theorem stmtM_else_deny {w : World} {B nb ga c : Nat} {T : List Tok} {N : List Nd} {P : List Int} {nd pl : Value} {nv kv : List Value} (hT : TkM w nb ga c T) (hg : ga < B) (hl : T.length ≤ 4000) (htx : ∀ t ∈ T, t.text.size ≤ maxLen) (hC : LuO w B nb (.slice (some ⟨ga, 0, none⟩) T.length c) N P nd pl nv kv) {lo hi : Nat} (hh : hi ≤ T.length) {t u : Tok} (hs : spn T lo hi = [t, u]) (ht : see kElse t = true) (hu : see kDeny u = true) :
    Calls Tryz.prog 18 #[.pointer (some ⟨nb, 0, none⟩), .int .i64 (lo : Int), .int .i64 (hi : Int)] w (StM B nb (.slice (some ⟨ga, 0, none⟩) T.length c) ⟨(t.at_ : Int), 3, ofL [], none, none⟩ N P nd pl w) := by
  obtain ⟨hlt, f5, f6, f7⟩ := spn_cons hh hs
  obtain ⟨hlt2, g5, g6, g7⟩ := spn_cons hh f6
  have HTT := hide hT
  have H1 := hide (show see kLet T[lo] = false from by rw [f5]; exact see_ne ht (by decide))
  have H2 := hide (show see kWhen T[lo] = false from by rw [f5]; exact see_ne ht (by decide))
  have H3 := hide (show see kGrant T[lo + 1] = false from by rw [g5]; exact see_ne hu (by decide))
  clear hT f5 f6 g5 g6 hs ht hu htx
  have hB : B ≤ w.heap.size := by have := hC.row.lt; have := hC.low; omega
  have S0 := Smt.start hC
  have A1 : Below w.heap.size w ((w.alloc (.cells #[.int .i64 0, .string ⟨#[]⟩, .int .i64 0, .int .i64 0] 51)).alloc (.cells #[.int .i64 0, .string ⟨#[]⟩, .int .i64 (-1), .int .i64 (-1)] 51)) := ((Below.refl w.heap.size w).alloc (Nat.le_refl _) _).alloc (by simp) _
  go_enter Tryz.func18, Tryz.ntmps18
  go_wp2_with fail
  refine (is_atI (unhide HTT) A1 (lo) _ (by omega) hlt kLet false (unhide H1)).mono ?_
  rintro r w2 ⟨rfl, hb2⟩
  have A2 := A1.trans (hb2.mono A1.size)
  dsimp only
  go_wp2_with fail
  refine (is_atI (unhide HTT) A2 (lo) _ (by omega) hlt kWhen false (unhide H2)).mono ?_
  rintro r w3 ⟨rfl, hb3⟩
  have A3 := A2.trans (hb3.mono A2.size)
  dsimp only
  have S3 := (S0.below hb2).below hb3
  obtain ⟨s0, s1, s2, s3, sf, rf, sn, r0, r1, r2, r3⟩ := S3.row4
  have sf0 := sf 0
  clear s1 s2 s3 sf rf sn r0 r1 r2 r3
  clear S0 hb2 hb3 A1 A2
  go_wp2_with fail
  have S4 := S3.set hB 0 (.int .i64 3) rfl
  have A4 := A3.setCell (p := ⟨w.heap.size + 1, 0, none⟩) (Nat.le_succ _) (.int .i64 3)
  generalize w3.setCell ⟨w.heap.size + 1, 0, none⟩ (.int .i64 3) = w4 at S4 A4 ⊢
  clear S3 s0 sf0 A3
  refine (is_atI (unhide HTT) A4 (lo + 1) _ (by omega) hlt2 kGrant false (unhide H3)).mono ?_
  rintro r w5 ⟨rfl, hb5⟩
  have A5 := A4.trans (hb5.mono A4.size)
  dsimp only
  have S5 := S4.below hb5
  clear S4 hb5 A4
  obtain ⟨s0, s1, s2, s3, sf, rf, sn, r0, r1, r2, r3⟩ := S5.row4
  have rf0 := rf 0
  have rf1 := rf 1
  have rf2 := rf 2
  have rf3 := rf 3
  clear sf rf sn
  obtain ⟨RD, CD, KD⟩ := S5.done hB
  have HD := hide (And.intro CD KD)
  have HRD := hide RD
  clear CD KD RD
  go_wp2_with fail
  refine bodyPost_ret (res_sn Tryz.results18 rfl rfl (unhide HRD)) rfl ?_
  exact ⟨rfl, _, _, _, _, by simp only [flO, plO, List.append_nil]; exact (unhide HD).1, (unhide HD).2⟩

set_option maxRecDepth 100000 in
set_option maxHeartbeats 6400000 in
theorem stmtM_else_grant {w : World} {B nb ga c : Nat} {T : List Tok} {N : List Nd} {P : List Int} {nd pl : Value} {nv kv : List Value} (hT : TkM w nb ga c T) (hg : ga < B) (hl : T.length ≤ 4000) (htx : ∀ t ∈ T, t.text.size ≤ maxLen) (hC : LuO w B nb (.slice (some ⟨ga, 0, none⟩) T.length c) N P nd pl nv kv) {lo hi : Nat} (hh : hi ≤ T.length) (hn : N.length + 4001 ≤ 65535) (hp : P.length + 4001 ≤ 65535) {t u : Tok} {d : List Tok} {q : Pt} (hs : spn T lo hi = t :: u :: d) (ht : see kElse t = true) (hu : see kGrant u = true) (gq : G 0 d q) :
    Calls Tryz.prog 18 #[.pointer (some ⟨nb, 0, none⟩), .int .i64 (lo : Int), .int .i64 (hi : Int)] w (StM B nb (.slice (some ⟨ga, 0, none⟩) T.length c) ⟨(t.at_ : Int), 3, ofL [], none, some q.ex⟩ N P nd pl w) := by
  obtain ⟨hlt, f5, f6, f7⟩ := spn_cons hh hs
  obtain ⟨hlt2, g5, g6, g7⟩ := spn_cons hh f6
  have HTT := hide hT
  have H1 := hide (show see kLet T[lo] = false from by rw [f5]; exact see_ne ht (by decide))
  have H2 := hide (show see kWhen T[lo] = false from by rw [f5]; exact see_ne ht (by decide))
  have H3 := hide (show see kGrant T[lo + 1] = true from by rw [g5]; exact hu)
  have hq : q.ex.cnt ≤ 4000 := by have h1 := gq.cnt; have h2 := spn_len (lo := lo + 1 + 1) hh; rw [g6] at h2; omega
  have hd := dpE_cnt q.ex
  have HA := hide (tree_any hg hl htx _ (lo + 1 + 1) hi q (Nat.le_refl _) (by omega) (by omega) (by rw [g6]; exact gq) : TrS B nb ga c T (lo + 1 + 1) hi q)
  unfold TrS at HA
  rw [show (((lo + 1 + 1 : Nat)) : Int) = (lo : Int) + 1 + 1 from by omega] at HA
  clear hT f5 f6 g5 g6 hs ht hu htx
  have hB : B ≤ w.heap.size := by have := hC.row.lt; have := hC.low; omega
  have S0 := Smt.start hC
  have A1 : Below w.heap.size w ((w.alloc (.cells #[.int .i64 0, .string ⟨#[]⟩, .int .i64 0, .int .i64 0] 51)).alloc (.cells #[.int .i64 0, .string ⟨#[]⟩, .int .i64 (-1), .int .i64 (-1)] 51)) := ((Below.refl w.heap.size w).alloc (Nat.le_refl _) _).alloc (by simp) _
  go_enter Tryz.func18, Tryz.ntmps18
  go_wp2_with fail
  refine (is_atI (unhide HTT) A1 (lo) _ (by omega) hlt kLet false (unhide H1)).mono ?_
  rintro r w2 ⟨rfl, hb2⟩
  have A2 := A1.trans (hb2.mono A1.size)
  dsimp only
  go_wp2_with fail
  refine (is_atI (unhide HTT) A2 (lo) _ (by omega) hlt kWhen false (unhide H2)).mono ?_
  rintro r w3 ⟨rfl, hb3⟩
  have A3 := A2.trans (hb3.mono A2.size)
  dsimp only
  have S3 := (S0.below hb2).below hb3
  obtain ⟨s0, s1, s2, s3, sf, rf, sn, r0, r1, r2, r3⟩ := S3.row4
  have sf0 := sf 0
  clear s1 s2 s3 sf rf sn r0 r1 r2 r3
  clear S0 hb2 hb3 A1 A2
  go_wp2_with fail
  have S4 := S3.set hB 0 (.int .i64 3) rfl
  have A4 := A3.setCell (p := ⟨w.heap.size + 1, 0, none⟩) (Nat.le_succ _) (.int .i64 3)
  generalize w3.setCell ⟨w.heap.size + 1, 0, none⟩ (.int .i64 3) = w4 at S4 A4 ⊢
  clear S3 s0 sf0 A3
  refine (is_atI (unhide HTT) A4 (lo + 1) _ (by omega) hlt2 kGrant true (unhide H3)).mono ?_
  rintro r w5 ⟨rfl, hb5⟩
  have A5 := A4.trans (hb5.mono A4.size)
  dsimp only
  have S5 := S4.below hb5
  clear S4 hb5 A4
  go_wp2_with fail
  have T6 := (unhide HTT).of S5.C S5.K.low hg
  refine (unhide HA N P nd pl nv kv w5 T6 S5.C (by omega) (by omega)).mono ?_
  rintro r w6 ⟨rfl, nd6, pl6, nv6, kv6, C6, K6, _⟩
  rw [flE_len]
  have S6 := S5.call C6 K6
  obtain ⟨x6, hx6⟩ : ∃ x : Int, x = ((N.length + q.ex.cnt - 1 : Nat) : Int) := ⟨_, rfl⟩
  rw [← hx6]
  have HX6 := hide hx6
  have S6' := S6.set hB 3 (.int .i64 x6) rfl
  clear T6 C6 K6 hx6 S5 A5
  obtain ⟨s0, s1, s2, s3, sf, rf, sn, r0, r1, r2, r3⟩ := S6.row4
  have sf3 := sf 3
  clear s0 s1 s2 sf rf sn r0 r1 r2 r3
  have S6d := S6'.below (drewB _)
  obtain ⟨t0, t1, t2, t3, _, _, tn, _, _, _, _⟩ := S6d.row4
  have HD6 := hide (dep_top q.ex N S6d.C.nodes (by omega))
  rw [← unhide HX6] at HD6
  dsimp only
  have hr6 : (w6.setCell ⟨w.heap.size + 1, 3, none⟩ (.int .i64 x6)).drew.cell? ⟨nb, 1, none⟩ = some nd6 ∧ (w6.setCell ⟨w.heap.size + 1, 3, none⟩ (.int .i64 x6)).drew.cell? ⟨w.heap.size + 1, 3, none⟩ = some (.int .i64 x6) := ⟨tn, t3⟩
  clear t0 t1 t2 t3 tn
  go_wp2_with fail
  go_region_held3 (fun w' => w'.cell? ⟨nb, 1, none⟩ = some nd6 ∧ w'.cell? ⟨w.heap.size + 1, 3, none⟩ = some (.int .i64 x6)) (first | assumption | go_keep) ((go_at_call 33; refine (unhide HD6).mono ?_; rintro r w7 ⟨rfl, hb7⟩; have S7 := S6d.below hb7; have hr7 : w7.cell? ⟨nb, 1, none⟩ = some nd6 ∧ w7.cell? ⟨w.heap.size + 1, 3, none⟩ = some (.int .i64 x6) := ⟨S7.row4.2.2.2.2.2.2.1, S7.row4.2.2.2.1⟩))
  clear hb7 S6' S6 S6d sf3 s3 HD6 hr6 hr7
  have hgt : (0 : Int) < dpE q.ex := by omega
  generalize hdq : dpE q.ex = dq at hd hgt ⊢
  have HDQ := hide hdq
  clear hdq
  obtain ⟨s0, s1, s2, s3, sf, rf, sn, r0, r1, r2, r3⟩ := S7.row4
  have rf0 := rf 0
  have rf1 := rf 1
  have rf2 := rf 2
  have rf3 := rf 3
  clear sf rf sn
  obtain ⟨RD, CD, KD⟩ := S7.done hB
  have HD := hide (And.intro CD KD)
  have HRD := hide RD
  clear CD KD RD
  go_wp2_with fail
  refine bodyPost_ret (res_sn Tryz.results18 rfl rfl (unhide HRD)) rfl ?_
  exact ⟨by rw [unhide HX6]; simp only [ixO, cntO, dpO, unhide HDQ, Nat.add_zero]; rw [show mx 0 dq = dq from if_pos hgt]; rfl, _, _, _, _, by simp only [flO, plO, cntO, List.append_nil, Nat.add_zero]; exact (unhide HD).1, (unhide HD).2⟩

set_option maxRecDepth 100000 in
set_option maxHeartbeats 6400000 in
theorem stmtM_let {w : World} {B nb ga c : Nat} {T : List Tok} {N : List Nd} {P : List Int} {nd pl : Value} {nv kv : List Value} (hT : TkM w nb ga c T) (hg : ga < B) (hl : T.length ≤ 4000) (htx : ∀ t ∈ T, t.text.size ≤ maxLen) (hC : LuO w B nb (.slice (some ⟨ga, 0, none⟩) T.length c) N P nd pl nv kv) {lo hi : Nat} (hh : hi ≤ T.length) (hn : N.length + 4001 ≤ 65535) (hp : P.length + 4001 ≤ 65535) {t n e : Tok} {d : List Tok} {q : Pt} (hs : spn T lo hi = t :: n :: e :: d) (ht : see kLet t = true) (gq : G 0 d q) :
    Calls Tryz.prog 18 #[.pointer (some ⟨nb, 0, none⟩), .int .i64 (lo : Int), .int .i64 (hi : Int)] w (StM B nb (.slice (some ⟨ga, 0, none⟩) T.length c) ⟨(t.at_ : Int), 1, n.text, some q.ex, none⟩ N P nd pl w) := by
  obtain ⟨hlt, f5, f6, f7⟩ := spn_cons hh hs
  obtain ⟨hlt2, g5, g6, g7⟩ := spn_cons hh f6
  obtain ⟨hlt3, k5, k6, k7⟩ := spn_cons hh g6
  have HTT := hide hT
  have H1 := hide (show see kLet T[lo] = true from by rw [f5]; exact ht)
  have HN1 := hide g5
  have hq : q.ex.cnt ≤ 4000 := by have h1 := gq.cnt; have h2 := spn_len (lo := lo + 1 + 1 + 1) hh; rw [k6] at h2; omega
  have hd := dpE_cnt q.ex
  have HA := hide (tree_any hg hl htx _ (lo + 1 + 1 + 1) hi q (Nat.le_refl _) (by omega) (by omega) (by rw [k6]; exact gq) : TrS B nb ga c T (lo + 1 + 1 + 1) hi q)
  unfold TrS at HA
  rw [show (((lo + 1 + 1 + 1 : Nat)) : Int) = (lo : Int) + 3 from by omega] at HA
  clear hT f5 f6 g5 g6 k5 k6 hs ht htx
  have hB : B ≤ w.heap.size := by have := hC.row.lt; have := hC.low; omega
  have S0 := Smt.start hC
  have A1 : Below w.heap.size w ((w.alloc (.cells #[.int .i64 0, .string ⟨#[]⟩, .int .i64 0, .int .i64 0] 51)).alloc (.cells #[.int .i64 0, .string ⟨#[]⟩, .int .i64 (-1), .int .i64 (-1)] 51)) := ((Below.refl w.heap.size w).alloc (Nat.le_refl _) _).alloc (by simp) _
  go_enter Tryz.func18, Tryz.ntmps18
  go_wp2_with fail
  refine (is_atI (unhide HTT) A1 (lo) _ (by omega) hlt kLet true (unhide H1)).mono ?_
  rintro r w2 ⟨rfl, hb2⟩
  have A2 := A1.trans (hb2.mono A1.size)
  dsimp only
  have S3 := S0.below hb2
  have S4 := S3.set hB 0 (.int .i64 1) rfl
  have S5 := S4.set hB 1 (.string n.text) rfl
  have T5 := (unhide HTT).of S4.C S4.K.low hg
  obtain ⟨_, _, q2, _⟩ := T5.at4 (lo + 1) hlt2
  rw [unhide HN1] at q2
  have a0 := T5.at0
  have ii : (lo : Int) + 1 < (T.length : Int) := by omega
  obtain ⟨s0, s1, s2, s3, sf, rf, sn, r0, r1, r2, r3⟩ := S3.row4
  have sf0 := sf 0
  clear s1 s2 s3 sf rf sn r0 r1 r2 r3
  obtain ⟨u0, u1, u2, u3, uf, _, _, _, _, _, _⟩ := S4.row4
  have uf1 := uf 1
  clear S0 hb2 uf A1
  go_wp2_with fail
  clear s0 sf0 u0 u1 u2 u3 uf1 q2 a0 T5 S4 S3
  generalize (w2.setCell ⟨w.heap.size + 1, 0, none⟩ (.int .i64 1)).setCell ⟨w.heap.size + 1, 1, none⟩ (.string n.text) = w5 at S5 ⊢
  have T6 := (unhide HTT).of S5.C S5.K.low hg
  refine (unhide HA N P nd pl nv kv w5 T6 S5.C (by omega) (by omega)).mono ?_
  rintro r w6 ⟨rfl, nd6, pl6, nv6, kv6, C6, K6, _⟩
  rw [flE_len]
  have S6 := S5.call C6 K6
  obtain ⟨x6, hx6⟩ : ∃ x : Int, x = ((N.length + q.ex.cnt - 1 : Nat) : Int) := ⟨_, rfl⟩
  rw [← hx6]
  have HX6 := hide hx6
  have S6' := S6.set hB 2 (.int .i64 x6) rfl
  clear T6 C6 K6 hx6 S5 A2
  obtain ⟨s0, s1, s2, s3, sf, rf, sn, r0, r1, r2, r3⟩ := S6.row4
  have sf2 := sf 2
  clear s0 s1 s3 sf rf sn r0 r1 r2 r3
  have S6d := S6'.below (drewB _)
  obtain ⟨t0, t1, t2, t3, _, _, tn, _, _, _, _⟩ := S6d.row4
  have HD6 := hide (dep_top q.ex N S6d.C.nodes (by omega))
  rw [← unhide HX6] at HD6
  dsimp only
  have hnm : (Tryz.f33.name == "runtime.NumGoroutine") = false := by kernel_rfl
  have hbd : Tryz.f33.body.isNone = false := by kernel_rfl
  generalize hdq : dpE q.ex = dq at hd HD6
  have HDQ := hide hdq
  clear hdq
  have HC := hide ((unhide HD6).mono (R' := fun e w' => ∃ v, e = .returned v ∧ (v = .int .i64 dq ∧ Below (w6.setCell ⟨w.heap.size + 1, 2, none⟩ (.int .i64 x6)).drew.heap.size (w6.setCell ⟨w.heap.size + 1, 2, none⟩ (.int .i64 x6)).drew w')) (fun r w' h => ⟨_, h.1, rfl, h.2⟩))
  clear HD6
  go_wp2_with fail
  go_region_law (refine step_callR2 rfl 33 _ Tryz.func33 hnm hbd _ _ _ rfl nd6 (.int .i64 x6) rfl rfl _ (unhide HC) ?_; rintro v7 w7 ⟨rfl, hb7⟩; have S7 := S6d.below hb7; obtain ⟨s0, s1, s2, s3, sf, rf, sn, r0, r1, r2, r3⟩ := S7.row4; have rf0 := rf 0; have rf1 := rf 1; have rf2 := rf 2; have rf3 := rf 3; clear sf rf sn)
  all_goals
    obtain ⟨RD, CD, KD⟩ := S7.done hB
    have HD := hide (And.intro CD KD)
    have HRD := hide RD
    clear CD KD RD S7 hb7 s0 s1 s2 s3 r0 r1 r2 r3 rf0 rf1 rf2 rf3
    go_wp2_with fail
    refine bodyPost_ret (res_sn Tryz.results18 rfl rfl (unhide HRD)) rfl ?_
    exact ⟨by rw [unhide HX6]; simp only [ixO, dpO, unhide HDQ]; rw [show mx dq 0 = dq from if_neg (by omega)]; rfl, _, _, _, _, by simp only [flO, plO, List.append_nil]; exact (unhide HD).1, (unhide HD).2⟩

set_option maxRecDepth 100000 in
set_option maxHeartbeats 6400000 in
theorem stmtM_when_deny {w : World} {B nb ga c : Nat} {T : List Tok} {N : List Nd} {P : List Int} {nd pl : Value} {nv kv : List Value} (hT : TkM w nb ga c T) (hg : ga < B) (hl : T.length ≤ 4000) (htx : ∀ t ∈ T, t.text.size ≤ maxLen) (hC : LuO w B nb (.slice (some ⟨ga, 0, none⟩) T.length c) N P nd pl nv kv) {lo hi : Nat} (hh : hi ≤ T.length) (hn : N.length + 8001 ≤ 65535) (hp : P.length + 8001 ≤ 65535) {t a : Tok} {cs : List Tok} {q : Pt} {u : Tok} (hs : spn T lo hi = t :: (cs ++ a :: [u])) (hu : see kDeny u = true) (ht : see kWhen t = true) (gc : G 0 cs q) (ha : see kArrow a = true) :
    Calls Tryz.prog 18 #[.pointer (some ⟨nb, 0, none⟩), .int .i64 (lo : Int), .int .i64 (hi : Int)] w (StM B nb (.slice (some ⟨ga, 0, none⟩) T.length c) ⟨(t.at_ : Int), 2, ofL [], some q.ex, none⟩ N P nd pl w) := by
  obtain ⟨hlt, f5, f6, f7⟩ := spn_cons hh hs
  obtain ⟨g1, g2, g3⟩ := spn_app hh f6 (by omega)
  obtain ⟨hlt2, g5, g6, g7⟩ := spn_cons hh g2
  have HTT := hide hT
  have H1 := hide (show see kLet T[lo] = false from by rw [f5]; exact see_ne ht (by decide))
  have H2 := hide (show see kWhen T[lo] = true from by rw [f5]; exact ht)
  have HAR := hide (show ∀ k, (h1 : lo + 1 ≤ k) → (h2 : k < lo + 1 + cs.length) → ∃ h : k < T.length, see kArrow T[k] = false from fun k h1 h2 => ⟨by omega, by
    have := spn_mem (T := T) (lo := lo + 1) (hi := lo + 1 + cs.length) (k := k) (by omega) h1 h2
    rw [g1] at this
    exact (gc.free _ this).2⟩)
  have HAT := hide (show ∃ h : lo + 1 + cs.length < T.length, see kArrow T[lo + 1 + cs.length] = true from ⟨hlt2, by rw [g5]; exact ha⟩)
  have hqc : q.ex.cnt ≤ 4000 := by have h1 := gc.cnt; have h2 := spn_len (lo := lo + 1) (hi := lo + 1 + cs.length) (T := T) (by omega); rw [g1] at h2; omega
  have hdc := dpE_cnt q.ex
  obtain ⟨ar, har⟩ : ∃ ar, ar = lo + 1 + cs.length := ⟨_, rfl⟩
  clear g5
  rw [← har] at g1 g2 g3 g6 g7 hlt2 HAR HAT
  have hlar : lo + 1 ≤ ar := by omega
  clear har
  have HC0 := hide (tree_any hg hl htx _ (lo + 1) ar q (Nat.le_refl _) (by omega) (by omega) (by rw [g1]; exact gc) : TrS B nb ga c T (lo + 1) ar q)
  unfold TrS at HC0
  rw [show (((lo + 1 : Nat)) : Int) = (lo : Int) + 1 from by omega] at HC0
  obtain ⟨hlt4, y5, y6, y7⟩ := spn_cons hh g6
  have H3 := hide (show see kGrant T[ar + 1] = false from by rw [y5]; exact see_ne hu (by decide))
  clear y5 y6 hu
  clear hT f5 f6 g1 g2 g6 hs ht htx gc ha
  have hB : B ≤ w.heap.size := by have := hC.row.lt; have := hC.low; omega
  have S0 := Smt.start hC
  have A1 : Below w.heap.size w ((w.alloc (.cells #[.int .i64 0, .string ⟨#[]⟩, .int .i64 0, .int .i64 0] 51)).alloc (.cells #[.int .i64 0, .string ⟨#[]⟩, .int .i64 (-1), .int .i64 (-1)] 51)) := ((Below.refl w.heap.size w).alloc (Nat.le_refl _) _).alloc (by simp) _
  go_enter Tryz.func18, Tryz.ntmps18
  go_wp2_with fail
  refine (is_atI (unhide HTT) A1 (lo) _ (by omega) hlt kLet false (unhide H1)).mono ?_
  rintro r w2 ⟨rfl, hb2⟩
  have A2 := A1.trans (hb2.mono A1.size)
  dsimp only
  go_wp2_with fail
  refine (is_atI (unhide HTT) A2 (lo) _ (by omega) hlt kWhen true (unhide H2)).mono ?_
  rintro r w3 ⟨rfl, hb3⟩
  have A3 := A2.trans (hb3.mono A2.size)
  dsimp only
  have S3 := (S0.below hb2).below hb3
  obtain ⟨s0, s1, s2, s3, sf, rf, sn, r0, r1, r2, r3⟩ := S3.row4
  have sf0 := sf 0
  clear s1 s2 s3 sf rf sn r0 r1 r2 r3
  clear S0 hb2 hb3 A1 A2
  go_wp2_with fail
  have S4 := S3.set hB 0 (.int .i64 2) rfl
  generalize w3.setCell ⟨w.heap.size + 1, 0, none⟩ (.int .i64 2) = w4 at S4  ⊢
  clear S3 s0 sf0 A3
  have HS := hide (show FrI (lo + 1) ar w4 (.int .i64 ((lo : Int) + 1)) w4 from ⟨lo + 1, Nat.le_refl _, by omega, by rw [Int.natCast_add]; rfl, Below.refl _ _⟩)
  have HS4 := hide S4
  have HT4 := hide ((unhide HTT).of S4.C S4.K.low hg)
  clear S4
  go_loopw [10] (fun vf wr => FrI (lo + 1) ar w4 vf wr) (fun vf _ => ar - (intOf vf).toNat)
  case atStart => exact unhide HS
  case round =>
    clear HS
    obtain ⟨k, h1, h2, rfl, B1⟩ := hrel
    by_cases hk : k < ar
    · obtain ⟨hkt, hka⟩ := unhide HAR k h1 hk
      have HKA := hide hka
      have HM := hide (lt_step ar k hk)
      have HN := hide (fun (w' : World) (hb : Below w4.heap.size w4 w') => show FrI (lo + 1) ar w4 (.int .i64 ((k : Int) + 1)) w' from ⟨k + 1, by omega, by omega, by rw [Int.natCast_add]; rfl, hb⟩)
      clear hka hk
      go_wp2_with fail
      refine (is_at (unhide HT4) B1 k hkt kArrow false (unhide HKA)).mono ?_
      rintro r w5 ⟨rfl, hb5⟩
      dsimp only
      go_wp2_with fail
      exact ⟨unhide HN _ (B1.trans (hb5.mono B1.size)), unhide HM⟩
    · have e : k = ar := by omega
      subst e
      obtain ⟨hkt, hka⟩ := unhide HAT
      have HKA := hide hka
      have S4 := (unhide HS4).below B1
      clear hka hk HAR HAT HS4
      go_wp2_with fail
      refine (is_at (unhide HT4) B1 k hkt kArrow true (unhide HKA)).mono ?_
      rintro r w5 ⟨rfl, hb5⟩
      have S5 := S4.below hb5
      clear S4 hb5 HT4 B1
      dsimp only
      go_wp2_with fail
      have T6 := (unhide HTT).of S5.C S5.K.low hg
      refine (unhide HC0 N P nd pl nv kv w5 T6 S5.C (by omega) (by omega)).mono ?_
      rintro r w6 ⟨rfl, nd6, pl6, nv6, kv6, C6, K6, _⟩
      rw [flE_len]
      have S6 := S5.call C6 K6
      obtain ⟨x6, hx6⟩ : ∃ x : Int, x = ((N.length + q.ex.cnt - 1 : Nat) : Int) := ⟨_, rfl⟩
      rw [← hx6]
      have HX6 := hide hx6
      have S6' := S6.set hB 2 (.int .i64 x6) rfl
      clear T6 C6 K6 hx6 S5 
      obtain ⟨s0, s1, s2, s3, sf, rf, sn, r0, r1, r2, r3⟩ := S6.row4
      have sf2 := sf 2
      clear s0 s1 s3 sf rf sn r0 r1 r2 r3
      have S6d := S6'.below (drewB _)
      obtain ⟨t0, t1, t2, t3, _, _, tn, _, _, _, _⟩ := S6d.row4
      have HD6 := hide (dep_top q.ex N S6d.C.nodes (by omega))
      rw [← unhide HX6] at HD6
      dsimp only
      have hr6 : (w6.setCell ⟨w.heap.size + 1, 2, none⟩ (.int .i64 x6)).drew.cell? ⟨nb, 1, none⟩ = some nd6 ∧ (w6.setCell ⟨w.heap.size + 1, 2, none⟩ (.int .i64 x6)).drew.cell? ⟨w.heap.size + 1, 2, none⟩ = some (.int .i64 x6) := ⟨tn, t2⟩
      clear t0 t1 t2 t3 tn
      go_wp2_with fail
      go_region_held3 (fun w' => w'.cell? ⟨nb, 1, none⟩ = some nd6 ∧ w'.cell? ⟨w.heap.size + 1, 2, none⟩ = some (.int .i64 x6)) (first | assumption | go_keep) ((go_at_call 33; refine (unhide HD6).mono ?_; rintro r w7 ⟨rfl, hb7⟩; have S7 := S6d.below hb7; have hr7 : w7.cell? ⟨nb, 1, none⟩ = some nd6 ∧ w7.cell? ⟨w.heap.size + 1, 2, none⟩ = some (.int .i64 x6) := ⟨S7.row4.2.2.2.2.2.2.1, S7.row4.2.2.1⟩))
      clear hb7 S6' S6 S6d sf2 s2 HD6 hr6 hr7
      generalize hdq : dpE q.ex = dq at hdc ⊢
      have HDQ := hide hdq
      clear hdq
      have T7 := (unhide HTT).of S7.C S7.K.low hg
      have B7 := Below.refl w7.heap.size w7
      go_wp2_with fail
      refine (is_atI T7 B7 (k + 1) _ (by omega) hlt4 kGrant false (unhide H3)).mono ?_
      rintro r w8 ⟨rfl, hb8⟩
      have S8 := S7.below hb8
      clear T7 B7 S7 hb8
      dsimp only
      obtain ⟨s0, s1, s2, s3, sf, rf, sn, r0, r1, r2, r3⟩ := S8.row4
      have rf0 := rf 0
      have rf1 := rf 1
      have rf2 := rf 2
      have rf3 := rf 3
      clear sf rf sn
      obtain ⟨RD, CD, KD⟩ := S8.done hB
      have HD := hide (And.intro CD KD)
      have HRD := hide RD
      clear CD KD RD
      go_wp2_with fail
      refine bodyPost_ret (res_sn Tryz.results18 rfl rfl (unhide HRD)) rfl ?_
      exact ⟨by rw [unhide HX6]; simp only [ixO, dpO, unhide HDQ]; rw [show mx dq 0 = dq from if_neg (by omega)]; rfl, _, _, _, _, by simp only [flO, plO, List.append_nil]; exact (unhide HD).1, (unhide HD).2⟩

set_option maxRecDepth 100000 in
set_option maxHeartbeats 6400000 in
theorem stmtM_when_grant {w : World} {B nb ga c : Nat} {T : List Tok} {N : List Nd} {P : List Int} {nd pl : Value} {nv kv : List Value} (hT : TkM w nb ga c T) (hg : ga < B) (hl : T.length ≤ 4000) (htx : ∀ t ∈ T, t.text.size ≤ maxLen) (hC : LuO w B nb (.slice (some ⟨ga, 0, none⟩) T.length c) N P nd pl nv kv) {lo hi : Nat} (hh : hi ≤ T.length) (hn : N.length + 8001 ≤ 65535) (hp : P.length + 8001 ≤ 65535) {t a : Tok} {cs : List Tok} {q : Pt} {u : Tok} {d : List Tok} {p : Pt} (hs : spn T lo hi = t :: (cs ++ a :: u :: d)) (hu : see kGrant u = true) (gp : G 0 d p) (ht : see kWhen t = true) (gc : G 0 cs q) (ha : see kArrow a = true) :
    Calls Tryz.prog 18 #[.pointer (some ⟨nb, 0, none⟩), .int .i64 (lo : Int), .int .i64 (hi : Int)] w (StM B nb (.slice (some ⟨ga, 0, none⟩) T.length c) ⟨(t.at_ : Int), 2, ofL [], some q.ex, some p.ex⟩ N P nd pl w) := by
  obtain ⟨hlt, f5, f6, f7⟩ := spn_cons hh hs
  obtain ⟨g1, g2, g3⟩ := spn_app hh f6 (by omega)
  obtain ⟨hlt2, g5, g6, g7⟩ := spn_cons hh g2
  have HTT := hide hT
  have H1 := hide (show see kLet T[lo] = false from by rw [f5]; exact see_ne ht (by decide))
  have H2 := hide (show see kWhen T[lo] = true from by rw [f5]; exact ht)
  have HAR := hide (show ∀ k, (h1 : lo + 1 ≤ k) → (h2 : k < lo + 1 + cs.length) → ∃ h : k < T.length, see kArrow T[k] = false from fun k h1 h2 => ⟨by omega, by
    have := spn_mem (T := T) (lo := lo + 1) (hi := lo + 1 + cs.length) (k := k) (by omega) h1 h2
    rw [g1] at this
    exact (gc.free _ this).2⟩)
  have HAT := hide (show ∃ h : lo + 1 + cs.length < T.length, see kArrow T[lo + 1 + cs.length] = true from ⟨hlt2, by rw [g5]; exact ha⟩)
  have hqc : q.ex.cnt ≤ 4000 := by have h1 := gc.cnt; have h2 := spn_len (lo := lo + 1) (hi := lo + 1 + cs.length) (T := T) (by omega); rw [g1] at h2; omega
  have hdc := dpE_cnt q.ex
  obtain ⟨ar, har⟩ : ∃ ar, ar = lo + 1 + cs.length := ⟨_, rfl⟩
  clear g5
  rw [← har] at g1 g2 g3 g6 g7 hlt2 HAR HAT
  have hlar : lo + 1 ≤ ar := by omega
  clear har
  have HC0 := hide (tree_any hg hl htx _ (lo + 1) ar q (Nat.le_refl _) (by omega) (by omega) (by rw [g1]; exact gc) : TrS B nb ga c T (lo + 1) ar q)
  unfold TrS at HC0
  rw [show (((lo + 1 : Nat)) : Int) = (lo : Int) + 1 from by omega] at HC0
  obtain ⟨hlt4, y5, y6, y7⟩ := spn_cons hh g6
  have H3 := hide (show see kGrant T[ar + 1] = true from by rw [y5]; exact hu)
  have hpc : p.ex.cnt ≤ 4000 := by have h1 := gp.cnt; have h2 := spn_len (lo := ar + 1 + 1) hh; rw [y6] at h2; omega
  have hdp := dpE_cnt p.ex
  have HP0 := hide (tree_any hg hl htx _ (ar + 1 + 1) hi p (Nat.le_refl _) (by omega) (by omega) (by rw [y6]; exact gp) : TrS B nb ga c T (ar + 1 + 1) hi p)
  unfold TrS at HP0
  rw [show (((ar + 1 + 1 : Nat)) : Int) = (ar : Int) + 1 + 1 from by omega] at HP0
  clear y5 y6 hu gp
  clear hT f5 f6 g1 g2 g6 hs ht htx gc ha
  have hB : B ≤ w.heap.size := by have := hC.row.lt; have := hC.low; omega
  have S0 := Smt.start hC
  have A1 : Below w.heap.size w ((w.alloc (.cells #[.int .i64 0, .string ⟨#[]⟩, .int .i64 0, .int .i64 0] 51)).alloc (.cells #[.int .i64 0, .string ⟨#[]⟩, .int .i64 (-1), .int .i64 (-1)] 51)) := ((Below.refl w.heap.size w).alloc (Nat.le_refl _) _).alloc (by simp) _
  go_enter Tryz.func18, Tryz.ntmps18
  go_wp2_with fail
  refine (is_atI (unhide HTT) A1 (lo) _ (by omega) hlt kLet false (unhide H1)).mono ?_
  rintro r w2 ⟨rfl, hb2⟩
  have A2 := A1.trans (hb2.mono A1.size)
  dsimp only
  go_wp2_with fail
  refine (is_atI (unhide HTT) A2 (lo) _ (by omega) hlt kWhen true (unhide H2)).mono ?_
  rintro r w3 ⟨rfl, hb3⟩
  have A3 := A2.trans (hb3.mono A2.size)
  dsimp only
  have S3 := (S0.below hb2).below hb3
  obtain ⟨s0, s1, s2, s3, sf, rf, sn, r0, r1, r2, r3⟩ := S3.row4
  have sf0 := sf 0
  clear s1 s2 s3 sf rf sn r0 r1 r2 r3
  clear S0 hb2 hb3 A1 A2
  go_wp2_with fail
  have S4 := S3.set hB 0 (.int .i64 2) rfl
  generalize w3.setCell ⟨w.heap.size + 1, 0, none⟩ (.int .i64 2) = w4 at S4  ⊢
  clear S3 s0 sf0 A3
  have HS := hide (show FrI (lo + 1) ar w4 (.int .i64 ((lo : Int) + 1)) w4 from ⟨lo + 1, Nat.le_refl _, by omega, by rw [Int.natCast_add]; rfl, Below.refl _ _⟩)
  have HS4 := hide S4
  have HT4 := hide ((unhide HTT).of S4.C S4.K.low hg)
  clear S4
  go_loopw [10] (fun vf wr => FrI (lo + 1) ar w4 vf wr) (fun vf _ => ar - (intOf vf).toNat)
  case atStart => exact unhide HS
  case round =>
    clear HS
    obtain ⟨k, h1, h2, rfl, B1⟩ := hrel
    by_cases hk : k < ar
    · obtain ⟨hkt, hka⟩ := unhide HAR k h1 hk
      have HKA := hide hka
      have HM := hide (lt_step ar k hk)
      have HN := hide (fun (w' : World) (hb : Below w4.heap.size w4 w') => show FrI (lo + 1) ar w4 (.int .i64 ((k : Int) + 1)) w' from ⟨k + 1, by omega, by omega, by rw [Int.natCast_add]; rfl, hb⟩)
      clear hka hk
      go_wp2_with fail
      refine (is_at (unhide HT4) B1 k hkt kArrow false (unhide HKA)).mono ?_
      rintro r w5 ⟨rfl, hb5⟩
      dsimp only
      go_wp2_with fail
      exact ⟨unhide HN _ (B1.trans (hb5.mono B1.size)), unhide HM⟩
    · have e : k = ar := by omega
      subst e
      obtain ⟨hkt, hka⟩ := unhide HAT
      have HKA := hide hka
      have S4 := (unhide HS4).below B1
      clear hka hk HAR HAT HS4
      go_wp2_with fail
      refine (is_at (unhide HT4) B1 k hkt kArrow true (unhide HKA)).mono ?_
      rintro r w5 ⟨rfl, hb5⟩
      have S5 := S4.below hb5
      clear S4 hb5 HT4 B1
      dsimp only
      go_wp2_with fail
      have T6 := (unhide HTT).of S5.C S5.K.low hg
      refine (unhide HC0 N P nd pl nv kv w5 T6 S5.C (by omega) (by omega)).mono ?_
      rintro r w6 ⟨rfl, nd6, pl6, nv6, kv6, C6, K6, _⟩
      rw [flE_len]
      have S6 := S5.call C6 K6
      obtain ⟨x6, hx6⟩ : ∃ x : Int, x = ((N.length + q.ex.cnt - 1 : Nat) : Int) := ⟨_, rfl⟩
      rw [← hx6]
      have HX6 := hide hx6
      have S6' := S6.set hB 2 (.int .i64 x6) rfl
      clear T6 C6 K6 hx6 S5 
      obtain ⟨s0, s1, s2, s3, sf, rf, sn, r0, r1, r2, r3⟩ := S6.row4
      have sf2 := sf 2
      clear s0 s1 s3 sf rf sn r0 r1 r2 r3
      have S6d := S6'.below (drewB _)
      obtain ⟨t0, t1, t2, t3, _, _, tn, _, _, _, _⟩ := S6d.row4
      have HD6 := hide (dep_top q.ex N S6d.C.nodes (by omega))
      rw [← unhide HX6] at HD6
      dsimp only
      have hr6 : (w6.setCell ⟨w.heap.size + 1, 2, none⟩ (.int .i64 x6)).drew.cell? ⟨nb, 1, none⟩ = some nd6 ∧ (w6.setCell ⟨w.heap.size + 1, 2, none⟩ (.int .i64 x6)).drew.cell? ⟨w.heap.size + 1, 2, none⟩ = some (.int .i64 x6) := ⟨tn, t2⟩
      clear t0 t1 t2 t3 tn
      go_wp2_with fail
      go_region_held3 (fun w' => w'.cell? ⟨nb, 1, none⟩ = some nd6 ∧ w'.cell? ⟨w.heap.size + 1, 2, none⟩ = some (.int .i64 x6)) (first | assumption | go_keep) ((go_at_call 33; refine (unhide HD6).mono ?_; rintro r w7 ⟨rfl, hb7⟩; have S7 := S6d.below hb7; have hr7 : w7.cell? ⟨nb, 1, none⟩ = some nd6 ∧ w7.cell? ⟨w.heap.size + 1, 2, none⟩ = some (.int .i64 x6) := ⟨S7.row4.2.2.2.2.2.2.1, S7.row4.2.2.1⟩))
      clear hb7 S6' S6 S6d sf2 s2 HD6 hr6 hr7
      generalize hdq : dpE q.ex = dq at hdc ⊢
      have HDQ := hide hdq
      clear hdq
      have T7 := (unhide HTT).of S7.C S7.K.low hg
      have B7 := Below.refl w7.heap.size w7
      go_wp2_with fail
      refine (is_atI T7 B7 (k + 1) _ (by omega) hlt4 kGrant true (unhide H3)).mono ?_
      rintro r w8 ⟨rfl, hb8⟩
      have S8 := S7.below hb8
      clear T7 B7 S7 hb8
      obtain ⟨N2, hN2⟩ : ∃ M, M = N ++ flE q.ex N.length := ⟨_, rfl⟩
      obtain ⟨P2, hP2⟩ : ∃ M, M = P ++ plE q.ex := ⟨_, rfl⟩
      rw [← hN2, ← hP2] at S8
      have l2 : N2.length = N.length + q.ex.cnt := by rw [hN2, List.length_append, flE_len]
      have l3 : P2.length = P.length + q.ex.cnt := by rw [hP2, List.length_append, plE_len]
      have HE := hide (And.intro hN2 (And.intro hP2 l2))
      clear hN2 hP2
      dsimp only
      go_wp2_with fail
      have T9 := (unhide HTT).of S8.C S8.K.low hg
      refine (unhide HP0 N2 P2 nd6 pl6 (nv ++ nv6) (kv ++ kv6) w8 T9 S8.C (by omega) (by omega)).mono ?_
      rintro r w9 ⟨rfl, nd9, pl9, nv9, kv9, C9, K9, _⟩
      rw [flE_len]
      have S9 := S8.call C9 K9
      obtain ⟨x9, hx9⟩ : ∃ x : Int, x = ((N2.length + p.ex.cnt - 1 : Nat) : Int) := ⟨_, rfl⟩
      rw [← hx9]
      have HX9 := hide hx9
      have S9' := S9.set hB 3 (.int .i64 x9) rfl
      clear T9 C9 K9 hx9 S8 
      obtain ⟨s0, s1, s2, s3, sf, rf, sn, r0, r1, r2, r3⟩ := S9.row4
      have sf3 := sf 3
      clear s0 s1 s2 sf rf sn r0 r1 r2 r3
      have S9d := S9'.below (drewB _)
      obtain ⟨t0, t1, t2, t3, _, _, tn, _, _, _, _⟩ := S9d.row4
      have HD9 := hide (dep_top p.ex N2 S9d.C.nodes (by omega))
      rw [← unhide HX9] at HD9
      dsimp only
      have hr9 : (w9.setCell ⟨w.heap.size + 1, 3, none⟩ (.int .i64 x9)).drew.cell? ⟨nb, 1, none⟩ = some nd9 ∧ (w9.setCell ⟨w.heap.size + 1, 3, none⟩ (.int .i64 x9)).drew.cell? ⟨w.heap.size + 1, 3, none⟩ = some (.int .i64 x9) := ⟨tn, t3⟩
      clear t0 t1 t2 t3 tn
      go_wp2_with fail
      go_region_held3 (fun w' => w'.cell? ⟨nb, 1, none⟩ = some nd9 ∧ w'.cell? ⟨w.heap.size + 1, 3, none⟩ = some (.int .i64 x9)) (first | assumption | go_keep) ((go_at_call 33; refine (unhide HD9).mono ?_; rintro r w10 ⟨rfl, hb10⟩; have S10 := S9d.below hb10; have hr10 : w10.cell? ⟨nb, 1, none⟩ = some nd9 ∧ w10.cell? ⟨w.heap.size + 1, 3, none⟩ = some (.int .i64 x9) := ⟨S10.row4.2.2.2.2.2.2.1, S10.row4.2.2.2.1⟩))
      clear hb10 S9' S9 S9d sf3 s3 HD9 hr9 hr10
      clear l2 l3
      generalize hdp2 : dpE p.ex = dp at hdp ⊢
      have HDP := hide hdp2
      clear hdp2
      by_cases hgt : dq < dp
      · have HMX := hide (show mx dq dp = dp from if_pos hgt)
        obtain ⟨s0, s1, s2, s3, sf, rf, sn, r0, r1, r2, r3⟩ := S10.row4
        have rf0 := rf 0
        have rf1 := rf 1
        have rf2 := rf 2
        have rf3 := rf 3
        clear sf rf sn
        obtain ⟨RD, CD, KD⟩ := S10.done hB
        have HD := hide (And.intro CD KD)
        have HRD := hide RD
        clear CD KD RD
        go_wp2_with fail
        refine bodyPost_ret (res_sn Tryz.results18 rfl rfl (unhide HRD)) rfl ?_
        obtain ⟨hN2, hP2, l2⟩ := unhide HE
        exact ⟨by rw [unhide HX6, unhide HX9, l2]; simp only [ixO, cntO, dpO, unhide HDQ, unhide HDP]; rw [unhide HMX]; rfl, _, _, _, _, by simp only [flO, plO, cntO]; rw [← hN2, ← hP2, ← l2]; exact (unhide HD).1, (unhide HD).2⟩
      · have HMX := hide (show mx dq dp = dq from if_neg hgt)
        obtain ⟨s0, s1, s2, s3, sf, rf, sn, r0, r1, r2, r3⟩ := S10.row4
        have rf0 := rf 0
        have rf1 := rf 1
        have rf2 := rf 2
        have rf3 := rf 3
        clear sf rf sn
        obtain ⟨RD, CD, KD⟩ := S10.done hB
        have HD := hide (And.intro CD KD)
        have HRD := hide RD
        clear CD KD RD
        go_wp2_with fail
        refine bodyPost_ret (res_sn Tryz.results18 rfl rfl (unhide HRD)) rfl ?_
        obtain ⟨hN2, hP2, l2⟩ := unhide HE
        exact ⟨by rw [unhide HX6, unhide HX9, l2]; simp only [ixO, cntO, dpO, unhide HDQ, unhide HDP]; rw [unhide HMX]; rfl, _, _, _, _, by simp only [flO, plO, cntO]; rw [← hN2, ← hP2, ← l2]; exact (unhide HD).1, (unhide HD).2⟩

theorem stmtM_any {w : World} {B nb ga c : Nat} {T : List Tok} {N : List Nd} {P : List Int} {nd pl : Value} {nv kv : List Value} (hT : TkM w nb ga c T) (hg : ga < B) (hl : T.length ≤ 4000) (htx : ∀ t ∈ T, t.text.size ≤ maxLen) (hC : LuO w B nb (.slice (some ⟨ga, 0, none⟩) T.length c) N P nd pl nv kv) {lo hi : Nat} (hh : hi ≤ T.length) (hn : N.length + 8001 ≤ 65535) (hp : P.length + 8001 ≤ 65535) {s : Ps} (sc : SC (spn T lo hi) s) :
    Calls Tryz.prog 18 #[.pointer (some ⟨nb, 0, none⟩), .int .i64 (lo : Int), .int .i64 (hi : Int)] w (StM B nb (.slice (some ⟨ga, 0, none⟩) T.length c) s.sx N P nd pl w) := by
  generalize hsp : spn T lo hi = sp at sc
  cases sc with
  | let_ h hn' he g => exact stmtM_let hT hg hl htx hC hh (by omega) (by omega) hsp h g
  | when h gc ha gd =>
    cases gd with
    | deny hd => exact stmtM_when_deny hT hg hl htx hC hh hn hp hsp hd h gc ha
    | grant hd g => exact stmtM_when_grant hT hg hl htx hC hh hn hp hsp hd g h gc ha
  | else_ h gd =>
    cases gd with
    | deny hd => exact stmtM_else_deny hT hg hl htx hC hh hsp h hd
    | grant hd g => exact stmtM_else_grant hT hg hl htx hC hh (by omega) (by omega) hsp h hd g

end Go.Proofs.YtcehablmloleaaaGreatDoor
