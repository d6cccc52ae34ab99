/-
  The model's reader. Own work.
-/
import Derived.Test.YtmkoidbpkhiohaaKI
namespace Go.Proofs.Ytmkoidbpkhiohaa
open Go.RowKit
set_option linter.unusedVariables false

/-- the model's reader -/
def SRs (w : World) (g : Nat) (s : Rs) : Prop := ∃ a n c, Row w g #[.slice a n c, .bool s.2] 37 ∧ Bys w g a n c s.1

theorem row2' {w : World} {b : Nat} {v0 v1 : Value} {t : TypeId} (R : Row w b #[v0, v1] t) : w.cell? ⟨b, 0, none⟩ = some v0 ∧ w.cell? ⟨b, 1, none⟩ = some v1 :=
  ⟨by simpa using R.cell 0, by simpa using R.cell 1⟩

def STk (w : World) (g : Nat) (r : List Int × Rs) (e : Ending) (w' : World) : Prop := ∃ a n c, e = .returned (.slice a n c) ∧ Bys w' g a n c r.1 ∧ SRs w' g r.2 ∧ Touch g (g + 1) w w'

set_option maxHeartbeats 1600000 in
theorem stake_any (g : Nat) (s : Rs) (k : Nat) (w : World) (h : SRs w g s) (hk : k ≤ 65535) :
    Calls Try.prog 12 #[.pointer (some ⟨g, 0, none⟩), .int .i64 k] w fun e w' => STk w g (takeS k s) e w' := by
  obtain ⟨a, n, c, R, hb⟩ := h
  obtain ⟨L, bk⟩ := s
  have hl := hb.len
  simp only at hl R hb
  have hc1 := hb.cap
  have hc2 := hb.small
  obtain ⟨q0, q1⟩ := row2' R
  have qf := fun j => R.frozen j
  by_cases hlt : n < k
  · have ilt : (n : Int) < (k : Int) := by omega
    have HX := hide (show takeS k (L, bk) = ([], [], true) by unfold takeS; rw [if_pos (by show L.length < k; omega)])
    have Hl := hide hl
    clear hl
    go_enter Try.func12, Try.ntmps12
    go_wp2
    go_ret
    rw [unhide HX]
    have T1 := (Touch.setCell (lo := g) (hi := g + 1) w ⟨g, 1, none⟩ (.bool true) (Nat.le_refl _) (Nat.lt_succ_self _)).trans (Touch.setCell (lo := g) (hi := g + 1) _ ⟨g, 0, none⟩ (.slice none 0 0) (Nat.le_refl _) (Nat.lt_succ_self _))
    exact ⟨_, _, _, rfl, Bys.nil _ _, ⟨none, 0, 0, (R.set 1 (.bool true)).set 0 (.slice none 0 0), Bys.nil _ _⟩, T1⟩
  · have ilt : ¬ ((n : Int) < (k : Int)) := by omega
    have HX := hide (show takeS k (L, bk) = (L.take k, L.drop k, bk) by unfold takeS; rw [if_neg (by show ¬ L.length < k; omega)])
    have Hl := hide hl
    clear hl
    go_enter Try.func12, Try.ntmps12
    go_wp2
    · have hb' : Bys w g a n k L := by
        have e : c = k := by assumption
        rw [← e]; exact hb
      go_ret
      rw [unhide HX]
      have T1 := Touch.setCell (lo := g) (hi := g + 1) w ⟨g, 0, none⟩ (.slice a (n - k) 0) (Nat.le_refl _) (Nat.lt_succ_self _)
      exact ⟨_, _, _, rfl, (hb'.take k (by omega)).touch T1 (Nat.le_refl _), ⟨a, n - k, 0, R.set 0 (.slice a (n - k) 0), (hb'.dropAll k (by omega)).touch T1 (Nat.le_refl _)⟩, T1⟩
    · go_ret
      rw [unhide HX]
      have T1 := Touch.setCell (lo := g) (hi := g + 1) w ⟨g, 0, none⟩ (.slice (a.map fun x => x.add k) (n - k) (c - k)) (Nat.le_refl _) (Nat.lt_succ_self _)
      exact ⟨_, _, _, rfl, (hb.take k (by omega)).touch T1 (Nat.le_refl _), ⟨_, n - k, c - k, R.set 0 (.slice (a.map fun x => x.add k) (n - k) (c - k)), (hb.drop k (by omega)).touch T1 (Nat.le_refl _)⟩, T1⟩

/-- a call with two arguments, as one step of a region that draws its order -/
theorem step_callR2 {P : Program} {ops : Array Oper} {o : Oper} {a : Act} {w : World} {K : Act → World → Prop} {Q : Exit → Act → World → Prop} {E : Prop} (hgd : o.guard = none) (f : FuncId) (fn : Func) (hf : P.funcs[f]? = some fn) (hname : (fn.name == "runtime.NumGoroutine") = false) (hb : fn.body.isNone = false) (x y : Operand) (tys : Array TypeId)
    (ho : o.op = .call { callee := .value (.func f), args := #[x, y], argTypes := tys }) (v0 v1 : Value) (hx : a.eval x = v0) (hy : a.eval y = v1)
    (R : Value → World → Prop) (hc : Calls P f #[v0, v1] w fun e w' => ∃ v, e = .returned v ∧ R v w') (h : ∀ v w', R v w' → K (a.put o.dst v) w') :
    if Region.wanted o (yielded ops a.tmps) = true then Oper.wp P o a w K Q else E := by
  have hw : Region.wanted o (yielded ops a.tmps) = true := by simp [Region.wanted, hgd]
  rw [if_pos hw]
  unfold Oper.wp
  have hrun : (execOp a.eval o).run P w = .ok (.enter f #[v0, v1]) w := by
    subst hx hy
    have h1 : fn.name ≠ "runtime.NumGoroutine" := by simpa using hname
    have h2 : (callFunc f #[a.eval x, a.eval y]).run P w = .ok (.enter f #[a.eval x, a.eval y]) w := by
      have h3 : fn.body ≠ none := fun e => by rw [e] at hb; cases hb
      simp [callFunc, hf, h1, h3]
    simpa [execOp, ho, resolve, invoke, Act.eval, Result.andThen, go_sem] using h2
  rw [hrun, Oper.upon_enter]
  refine hc.mono ?_
  rintro e w' ⟨v, rfl, hr⟩
  exact h v w' hr

theorem manyS_step {α : Type} (f : Rs → α × Rs) (k : Nat) (s : Rs) (acc : List α) : (acc ++ (manyS f (k + 1) s).1, (manyS f (k + 1) s).2) = ((acc ++ [(f s).1]) ++ (manyS f k (f s).2).1, (manyS f k (f s).2).2) := by
  rw [manyS]; simp

def SNm (w : World) (g : Nat) (r : Int × Rs) (e : Ending) (w' : World) : Prop := e = .returned (.int .i64 r.1) ∧ SRs w' g r.2 ∧ Touch g (g + 1) w w'

set_option maxHeartbeats 1600000 in
theorem snum_any (g : Nat) (s : Rs) (k : Nat) (w : World) (h : SRs w g s) (hk : k ≤ 65535) :
    Calls Try.prog 13 #[.pointer (some ⟨g, 0, none⟩), .int .i64 k] w fun e w' => SNm w g (numS k s) e w' := by
  have HT := hide (stake_any g s k w h hk)
  have HX := hide (show numS k s = (numF (takeS k s).1, (takeS k s).2) from rfl)
  generalize takeS k s = r at HT HX
  obtain ⟨L, s2⟩ := r
  clear h
  go_enter Try.func13, Try.ntmps13
  go_wp2_with (go_at_call 12; refine (unhide HT).mono ?_; rintro e w1 ⟨a, n, c, rfl, hb, hR, hT⟩)
  have hl := hb.len
  have hn1 := hb.cap
  have hn2 := hb.small
  have Hl := hide hl
  clear hl
  go_loopw [5, 12] (fun v i wr => ∃ j : Nat, j ≤ n ∧ i = .int .i64 j ∧ v = .int .i64 (numF (L.take j)) ∧ wr = w1) (fun _ i _ => n - (intOf i).toNat)
  case atStart => exact ⟨0, Nat.zero_le _, rfl, rfl, rfl⟩
  case round =>
    obtain ⟨j, hj, rfl, rfl, rfl⟩ := hrel
    by_cases hlt : j < n
    · have hjl : j < L.length := by rw [unhide Hl]; exact hlt
      obtain ⟨b, off, rfl, _, _, hc⟩ := hb.cells j hjl
      have hx := hb.ok L[j] (List.getElem_mem hjl)
      have ilt : (j : Int) < (n : Int) := by omega
      have HS := hide (numF_take_succ L j hjl)
      have hor := or_byte (numF (L.take j)) L[j] hx.1 hx.2
      generalize L[j] = x at hc hx HS hor
      generalize numF (L.take j) = v at HS hor
      have Hlt := hide hlt
      have hx0 := hx.1
      have hx1 := hx.2
      go_wp2_with fail
      go_roundw
      case rel => exact ⟨j + 1, unhide Hlt, by go_num, by rw [unhide HS, ← hor], (by first | rfl | trivial)⟩
      case measure => have := unhide Hlt; simp [intOf]; omega
    · have e : j = n := by omega
      subst e
      have HS := hide (show L.take j = L from List.take_of_length_le (by rw [unhide Hl]; exact Nat.le_refl _))
      rw [unhide HS]
      go_wp2_with fail
      go_ret
      rw [unhide HX]
      exact ⟨rfl, hR, hT⟩

theorem SRs.ok {w : World} {g : Nat} {s : Rs} (h : SRs w g s) : okB s.1 := by
  obtain ⟨a, n, c, _, hb⟩ := h; exact hb.ok

theorem SRs.lt {w : World} {g : Nat} {s : Rs} (h : SRs w g s) : g < w.heap.size := by
  obtain ⟨a, n, c, R, hB⟩ := h
  exact R.lt

theorem SRs.blocks {w w' : World} {g : Nat} {s : Rs} (h : SRs w g s) (hb : ∀ k, k ≤ g → w'.heap[k]? = w.heap[k]?) (hs : w.heap.size ≤ w'.heap.size) : SRs w' g s := by
  obtain ⟨a, n, c, R, hB⟩ := h
  exact ⟨a, n, c, ⟨(hb g (Nat.le_refl _)).trans R.out⟩, hB.blocks (fun k hk _ => hb k (Nat.le_of_lt hk)) hs⟩

theorem SRs.grown {w w' : World} {g : Nat} {s : Rs} {row : Option Nat} (h : SRs w g s) (hg : w.grownBy w' row) (hr : ∀ k, row = some k → g < k) : SRs w' g s :=
  h.blocks (fun k hk => hg.block k (Nat.lt_of_le_of_lt hk h.lt) (fun e => by have := hr k e.symm; omega)) hg.size

theorem SRs.alloc {w : World} {g : Nat} {s : Rs} (h : SRs w g s) (o : Obj) : SRs (w.alloc o) g s :=
  h.blocks (fun k hk => Below.heap_alloc w o k (Nat.lt_of_le_of_lt hk h.lt)) (by simp)

theorem SRs.setFar {w : World} {g : Nat} {s : Rs} (h : SRs w g s) (p : Addr) (u : Value) (hp : g < p.block) : SRs (w.setCell p u) g s :=
  h.blocks (fun k hk => heap_setCell_other w p k u (by omega)) (by simp)

theorem SRs.cells {w : World} {g : Nat} {s : Rs} (h : SRs w g s) : w.cell? ⟨g, 1, none⟩ = some (.bool s.2) := by
  obtain ⟨a, n, c, R, hB⟩ := h
  exact (row2' R).2

theorem takeS_len (k : Nat) (s : Rs) : (takeS k s).1.length ≤ k := by
  unfold takeS; split <;> simp; omega

theorem takeS_ok (k : Nat) (s : Rs) (h : okB s.1) : okB (takeS k s).1 ∧ okB (takeS k s).2.1 := by
  unfold takeS; split
  · exact ⟨(fun x hx => by cases hx), (fun x hx => by cases hx)⟩
  · exact ⟨h.take k, h.drop k⟩

theorem numS1_range (s : Rs) (h : okB s.1) : 0 ≤ (numS 1 s).1 ∧ (numS 1 s).1 < 256 := numF_short _ (takeS_ok 1 s h).1 (takeS_len 1 s)
theorem numS2_range (s : Rs) (h : okB s.1) : 0 ≤ (numS 2 s).1 ∧ (numS 2 s).1 < 65536 := numF_short2 _ (takeS_ok 2 s h).1 (takeS_len 2 s)

theorem stake_int (g : Nat) (s : Rs) (x : Int) (w : World) (h : SRs w g s) (hx : 0 ≤ x) (hk : x ≤ 65535) :
    Calls Try.prog 12 #[.pointer (some ⟨g, 0, none⟩), .int .i64 x] w fun e w' => STk w g (takeS x.toNat s) e w' := by
  obtain ⟨k, rfl⟩ := Int.eq_ofNat_of_zero_le hx
  exact stake_any g s k w h (by omega)

theorem snum_1 (g : Nat) (s : Rs) (w : World) (h : SRs w g s) :
    Calls Try.prog 13 #[.pointer (some ⟨g, 0, none⟩), .int .i64 1] w fun e w' => SNm w g (numS 1 s) e w' := snum_any g s 1 w h (by omega)
theorem snum_2 (g : Nat) (s : Rs) (w : World) (h : SRs w g s) :
    Calls Try.prog 13 #[.pointer (some ⟨g, 0, none⟩), .int .i64 2] w fun e w' => SNm w g (numS 2 s) e w' := snum_any g s 2 w h (by omega)
theorem snum_8 (g : Nat) (s : Rs) (w : World) (h : SRs w g s) :
    Calls Try.prog 13 #[.pointer (some ⟨g, 0, none⟩), .int .i64 8] w fun e w' => SNm w g (numS 8 s) e w' := snum_any g s 8 w h (by omega)

def STx (w : World) (g : Nat) (r : ByteArray × Rs) (e : Ending) (w' : World) : Prop := e = .returned (.string r.1) ∧ SRs w' g r.2 ∧ Touch g (g + 1) w w'

set_option maxHeartbeats 800000 in
theorem stext_any (g : Nat) (s : Rs) (w : World) (h : SRs w g s) :
    Calls Try.prog 14 #[.pointer (some ⟨g, 0, none⟩)] w fun e w' => STx w g (textS s) e w' := by
  have HN := hide (snum_1 g s w h)
  have hr := numS1_range s h.ok
  have hr0 := hr.1
  have hr1 := hr.2
  have HX := hide (show textS s = (bstr (takeS (numS 1 s).1.toNat (numS 1 s).2).1, (takeS (numS 1 s).1.toNat (numS 1 s).2).2) from rfl)
  generalize numS 1 s = r at HN HX hr0 hr1
  obtain ⟨k, s1⟩ := r
  simp only at hr0 hr1
  clear hr h
  go_enter Try.func14, Try.ntmps14
  go_wp2_with (first
    | (go_at_call 13; refine (unhide HN).mono ?_; rintro e w1 ⟨rfl, hR, hT⟩; simp only at hR)
    | (go_at_call 12; refine (stake_int g s1 k w1 hR (by omega) (by omega)).mono ?_; rintro e w2 ⟨a, n, c, rfl, hb, hR2, hT2⟩; have cv := conv_bys hb))
  go_ret
  rw [unhide HX]
  exact ⟨rfl, hR2, hT.trans hT2⟩

theorem textS_ok (s : Rs) (h : okB s.1) : (textS s).1.size ≤ 255 ∧ okB (textS s).2.1 := by
  have h1 := numS1_range s h
  have h2 := takeS_len (numS 1 s).1.toNat (numS 1 s).2
  have h3 := takeS_ok (numS 1 s).1.toNat (numS 1 s).2 (takeS_ok 1 s h).2
  refine ⟨?_, h3.2⟩
  show (bstr (takeS (numS 1 s).1.toNat (numS 1 s).2).1).size ≤ 255
  rw [bstr_size]; omega

theorem manyS_all {α : Type} {f : Rs → α × Rs} {p : α → Prop} (hf : ∀ s : Rs, okB s.1 → p (f s).1 ∧ okB (f s).2.1) : ∀ (k : Nat) (s : Rs), okB s.1 → (∀ x ∈ (manyS f k s).1, p x) ∧ okB (manyS f k s).2.1 ∧ (manyS f k s).1.length = k
  | 0, s, h => ⟨(fun x hx => by cases hx), h, rfl⟩
  | k + 1, s, h => by
    rw [manyS]
    obtain ⟨h1, h2⟩ := hf s h
    obtain ⟨h3, h4, h5⟩ := manyS_all hf k (f s).2 h2
    refine ⟨fun x hx => ?_, h4, by simp [h5]⟩
    rcases List.mem_cons.1 hx with rfl | hx
    · exact h1
    · exact h3 x hx

theorem valS_ok (s : Rs) (h : okB s.1) : okV (valS s).1 ∧ okB (valS s).2.1 := by
  show okV (valKS (numS 1 s).1 (numS 1 s).2).1 ∧ okB (valKS (numS 1 s).1 (numS 1 s).2).2.1
  have h1 : okB (numS 1 s).2.1 := (takeS_ok 1 s h).2
  generalize numS 1 s = r at h1
  obtain ⟨k, s1⟩ := r
  simp only at h1 ⊢
  have nl : okV ⟨k, 0, ⟨#[]⟩, []⟩ := ⟨by simp [ByteArray.size], by simp, fun x hx => by cases hx⟩
  unfold valKS
  split
  · exact ⟨⟨nl.1, nl.2⟩, (takeS_ok 1 s1 h1).2⟩
  split
  · exact ⟨⟨nl.1, nl.2⟩, (takeS_ok 8 s1 h1).2⟩
  split
  · have := textS_ok s1 h1
    exact ⟨⟨this.1, nl.2⟩, this.2⟩
  split
  · have a1 := numS1_range s1 h1
    obtain ⟨b1, b2, b3⟩ := manyS_all (f := textS) (p := fun t => t.size ≤ 255) (fun s hs => textS_ok s hs) (numS 1 s1).1.toNat (numS 1 s1).2 (takeS_ok 1 s1 h1).2
    exact ⟨⟨nl.1, (by show (manyS textS (numS 1 s1).1.toNat (numS 1 s1).2).1.length ≤ 255; omega), b1⟩, b2⟩
  · exact ⟨nl, h1⟩

theorem insS_ok (s : Rs) (h : okB s.1) : True ∧ okB (insS s).2.1 := ⟨trivial, (takeS_ok 2 _ (takeS_ok 1 s h).2).2⟩

end Go.Proofs.Ytmkoidbpkhiohaa
