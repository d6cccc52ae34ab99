/-
  The program's reader: a code. Own work.
-/
import Derived.Test.YtmkoidbpkhiohaaKG
namespace Go.Proofs.Ytmkoidbpkhiohaa
open Go.RowKit
set_option linter.unusedVariables false

/-- the bytes are the mark's -/
def markB (t : List Int) : Bool := (bstr t).toList == [80, 76, 49]

theorem markB_iff (t : List Int) (ok : okB t) : markB t = true ↔ t = [80, 76, 49] := by
  unfold markB
  rw [beq_iff_eq, ByteArray.toList_eq]
  show (t.map fun x => UInt8.ofNat x.toNat) = _ ↔ _
  constructor
  · intro h
    have hs : strB (bstr t) = [80, 76, 49] := by
      rw [strB]
      show (t.map fun x => UInt8.ofNat x.toNat).map _ = _
      rw [h]; rfl
    rw [strB_bstr t ok] at hs
    exact hs
  · rintro rfl; rfl

/-- the reader behind the mark -/
def markI (s : Rs) : Rs := if markB (takeI 3 s).1 then (takeI 3 s).2 else ((takeI 3 s).2.1, true)

theorem IRs.setBroken {w : World} {g : Nat} {h0 h1 h2 : Int} {s : Rs} (h : IRs w g h0 h1 h2 s) (b : Bool) : IRs (w.setCell ⟨g, 4, none⟩ (.bool b)) g h0 h1 h2 (s.1, b) := by
  obtain ⟨a, n, c, R, hB⟩ := h
  refine ⟨a, n, c, ⟨?_, hB.blocks (fun k hk _ => heap_setCell_other w ⟨g, 4, none⟩ k _ (by show k ≠ g; omega)) (by simp)⟩⟩
  exact R.set 4 (.bool b)

theorem IRs.set0 {w : World} {g : Nat} {h0 h1 h2 : Int} {s : Rs} (h : IRs w g h0 h1 h2 s) (x : Int) : IRs (w.setCell ⟨g, 0, none⟩ (.int .i64 x)) g x h1 h2 s := by
  obtain ⟨a, n, c, R, hB⟩ := h
  exact ⟨a, n, c, ⟨R.set 0 (.int .i64 x), hB.blocks (fun k hk _ => heap_setCell_other w ⟨g, 0, none⟩ k _ (by show k ≠ g; omega)) (by simp)⟩⟩

theorem IRs.set1 {w : World} {g : Nat} {h0 h1 h2 : Int} {s : Rs} (h : IRs w g h0 h1 h2 s) (x : Int) : IRs (w.setCell ⟨g, 1, none⟩ (.int .i64 x)) g h0 x h2 s := by
  obtain ⟨a, n, c, R, hB⟩ := h
  exact ⟨a, n, c, ⟨R.set 1 (.int .i64 x), hB.blocks (fun k hk _ => heap_setCell_other w ⟨g, 1, none⟩ k _ (by show k ≠ g; omega)) (by simp)⟩⟩

theorem IRs.set2 {w : World} {g : Nat} {h0 h1 h2 : Int} {s : Rs} (h : IRs w g h0 h1 h2 s) (x : Int) : IRs (w.setCell ⟨g, 2, none⟩ (.int .i64 x)) g h0 h1 x s := by
  obtain ⟨a, n, c, R, hB⟩ := h
  exact ⟨a, n, c, ⟨R.set 2 (.int .i64 x), hB.blocks (fun k hk _ => heap_setCell_other w ⟨g, 2, none⟩ k _ (by show k ≠ g; omega)) (by simp)⟩⟩

/-- the reader's five cells -/
theorem IRs.cells {w : World} {g : Nat} {h0 h1 h2 : Int} {s : Rs} (h : IRs w g h0 h1 h2 s) : w.cell? ⟨g, 0, none⟩ = some (.int .i64 h0) ∧ w.cell? ⟨g, 1, none⟩ = some (.int .i64 h1) ∧ w.cell? ⟨g, 2, none⟩ = some (.int .i64 h2) ∧ w.cell? ⟨g, 4, none⟩ = some (.bool s.2) ∧ ∀ j, w.frozen? ⟨g, j, none⟩ = false := by
  obtain ⟨a, n, c, R, hB⟩ := h
  obtain ⟨q0, q1, q2, q3, q4⟩ := row5 R
  exact ⟨q0, q1, q2, q4, fun j => R.frozen j⟩

theorem Touch.drew {lo hi : Nat} {w w' : World} (T : Touch lo hi w w') : Touch lo hi w w'.drew := ⟨T.os, T.tape, T.output, T.size, T.block⟩

theorem Touch.undrew {lo hi : Nat} {w w' : World} (T : Touch lo hi w.drew w') : Touch lo hi w w' := ⟨T.os, T.tape, T.output, T.size, T.block⟩

theorem Row.touchD {w w' : World} {b lo hi : Nat} {cs : Array Value} {t : TypeId} (h : Row w b cs t) (T : Touch lo hi w.drew w') (hd : b < lo ∨ hi ≤ b) : Row w' b cs t := h.touch' T.undrew hd

/-- a call, as one step of a region that draws its order -/
theorem step_callR {P : Program} {ops : Array Oper} {o : Oper} {a : Act} {w : World} {K : Act → World → Prop} {Q : Exit → Act → World → Prop} {E : Prop} (hgd : o.guard = none) (f : FuncId) (fn : Func) (hf : P.funcs[f]? = some fn) (hname : (fn.name == "runtime.NumGoroutine") = false) (hb : fn.body.isNone = false) (x : Operand) (tys : Array TypeId)
    (ho : o.op = .call { callee := .value (.func f), args := #[x], argTypes := tys }) (v0 : Value) (hx : a.eval x = v0)
    (R : Value → World → Prop) (hc : Calls P f #[v0] w fun e w' => ∃ v, e = .returned v ∧ R v w') (h : ∀ v w', R v w' → K (a.put o.dst v) w') :
    if Region.wanted o (yielded ops a.tmps) = true then Oper.wp P o a w K Q else E := by
  have hw : Region.wanted o (yielded ops a.tmps) = true := by simp [Region.wanted, hgd]
  rw [if_pos hw]
  unfold Oper.wp
  have hrun : (execOp a.eval o).run P w = .ok (.enter f #[v0]) w := by
    subst hx
    have h1 : fn.name ≠ "runtime.NumGoroutine" := by simpa using hname
    have h2 : (callFunc f #[a.eval x]).run P w = .ok (.enter f #[a.eval x]) w := by
      have h3 : fn.body ≠ none := fun e => by rw [e] at hb; cases hb
      simp [callFunc, hf, h1, h3]
    simpa [execOp, ho, resolve, invoke, Act.eval, Result.andThen, go_sem] using h2
  rw [hrun, Oper.upon_enter]
  refine hc.mono ?_
  rintro e w' ⟨v, rfl, hr⟩
  exact h v w' hr

theorem retOf {P : Program} {f : FuncId} {args : Array Value} {w : World} {A : Ending → World → Prop} (h : Calls P f args w A) (hr : ∀ e w', A e w' → ∃ v, e = .returned v) : Calls P f args w fun e w' => ∃ v, e = .returned v ∧ A (.returned v) w' :=
  h.mono fun e w' ha => by
    obtain ⟨v, rfl⟩ := hr e w' ha
    exact ⟨v, rfl, ha⟩

theorem ending_inj {v u : Value} (h : Ending.returned v = .returned u) : v = u := by cases h; rfl

def cellLen (w : World) (b o : Nat) : Nat := match w.cell? ⟨b, o, none⟩ with | some v => slLen v | none => 0

theorem cellLen_row {w : World} {b n c : Nat} {x : Option Addr} {v1 v2 : Value} {t : TypeId} (h : Row w b #[.slice x n c, v1, v2] t) : cellLen w b 0 = n := by
  rw [cellLen, (rowC h).1]; rfl

theorem cellLen_row2 {w : World} {b n c : Nat} {x : Option Addr} {v0 v1 : Value} {t : TypeId} (h : Row w b #[v0, v1, .slice x n c] t) : cellLen w b 2 = n := by
  rw [cellLen, (rowC h).2.2]; rfl

theorem infoV : (Try.prog.info? 42).map (fun i => (i.zero, i.size, i.bytes)) = some (some (.agg #[.int .i64 0, .int .i64 0, .string ByteArray.empty, .slice none 0 0]), 4, 56) := by kernel_rfl
theorem infoIn : (Try.prog.info? 45).map (fun i => (i.zero, i.size, i.bytes)) = some (some (.agg #[.int .i64 0, .int .i64 0]), 2, 16) := by kernel_rfl

/-- a code out of its block -/
theorem res_code {fn : Func} {a : Tmp} (h : fn.results = #[.cell a 26]) {tmps : Array Value} {w : World} {b : Nat} {v0 v1 v2 : Value} (ha : tmps.getD a undef = .pointer (some ⟨b, 0, none⟩))
    (g0 : w.cell? ⟨b, 0, none⟩ = some v0) (g1 : w.cell? ⟨b, 1, none⟩ = some v1) (g2 : w.cell? ⟨b, 2, none⟩ = some v2) :
    (results fn tmps).run Try.prog w = .ok (.agg #[v0, v1, v2]) w := by
  rw [Array.getD_eq_getD_getElem?] at ha
  simp [results, h, ha, go_sem, g0, g1, g2]

/-- a code of the call's own, and the reader behind it -/
def CdAns (w : World) (g : Nat) (r : Cd × Rs) (e : Ending) (w' : World) : Prop := ∃ x cx y cy nv, e = .returned (.agg #[.slice x r.1.pool.length cx, .int .i64 r.1.slots, .slice y r.1.ins.length cy]) ∧ OwnP w' w.heap.size (.slice x r.1.pool.length cx) r.1.pool nv ∧ w'.ownsRow w.heap.size 45 2 (.slice y r.1.ins.length cy) r.1.ins.length (inC r.1.ins) ∧
  (∀ q, (Value.slice y r.1.ins.length cy).ownBlock = some q → (Value.slice x r.1.pool.length cx).ownBlock ≠ some q ∧ ∀ j, (hj : j < nv.length) → nv[j].ownBlock ≠ some q) ∧ (∃ h0 h1 h2, IRs w' g h0 h1 h2 r.2) ∧ Touch g (g + 1) w w'

set_option maxRecDepth 100000 in
set_option maxHeartbeats 6400000 in
theorem rcode_any (g : Nat) (h0 h1 h2 : Int) (s : Rs) (w : World) (h : IRs w g h0 h1 h2 s) :
    Calls Try.prog 16 #[.pointer (some ⟨g, 0, none⟩)] w fun e w' => CdAns w g (bodyI (markI s)) e w' := by
  obtain ⟨iv, hiv, hv0, hv1, hv2⟩ := info_parts infoV
  obtain ⟨ii, hii, hi0, hi1, hi2⟩ := info_parts infoIn
  have hg := h.lt
  have hok := h.ok
  have hA := (h.alloc (.cells #[.slice none 0 0, .int .i64 0, .slice none 0 0] 26)).alloc (.cells #[.slice none 0 0, .int .i64 0, .slice none 0 0] 26)
  have RR := (Row.new w #[.slice none 0 0, .int .i64 0, .slice none 0 0] 26).alloc (.cells #[.slice none 0 0, .int .i64 0, .slice none 0 0] 26)
  have RC := Row.new (w.alloc (.cells #[.slice none 0 0, .int .i64 0, .slice none 0 0] 26)) #[.slice none 0 0, .int .i64 0, .slice none 0 0] 26
  simp only [World.size_alloc] at RC
  have TT := ((Touch.refl g (g + 1) w).alloc (.cells #[.slice none 0 0, .int .i64 0, .slice none 0 0] 26)).alloc (.cells #[.slice none 0 0, .int .i64 0, .slice none 0 0] 26)
  have HM := hide (show markI s = if markB (takeI 3 s).1 then (takeI 3 s).2 else ((takeI 3 s).2.1, true) from rfl)
  have HT := hide (take_any g h0 h1 h2 s 3 _ hA (by omega))
  have Hmk := hide (show markB (takeI 3 s).1 = ((bstr (takeI 3 s).1).toList == [80, 76, 49]) from rfl)
  generalize takeI 3 s = r at HM HT Hmk
  obtain ⟨t3, L3, b3⟩ := r
  simp only at HM Hmk
  go_enter Try.func16, Try.ntmps16
  go_wp2_with fail
  refine (unhide HT).mono ?_
  rintro e w1 ⟨a, n, c, rfl, hb, hR, hT⟩
  have cv := conv_bys hb
  simp only at cv hR
  obtain ⟨q0, q1, q2, q4, qf⟩ := hR.cells
  have RR1 := RR.touch' hT (.inr (by omega))
  have RC1 := RC.touch' hT (.inr (by omega))
  have T1 := TT.trans hT
  have z1 := hT.size
  simp only [World.size_alloc] at z1
  clear RR RC TT hT hA hb
  have hsplit : ∃ W s1, (markB t3 = true ∧ W = w1 ∨ markB t3 = false ∧ W = w1.setCell ⟨g, 4, none⟩ (.bool true)) ∧ s1 = markI s ∧ IRs W g h0 h1 h2 s1 ∧ Row W w.heap.size #[.slice none 0 0, .int .i64 0, .slice none 0 0] 26 ∧ Row W (w.heap.size + 1) #[.slice none 0 0, .int .i64 0, .slice none 0 0] 26 ∧ Touch g (g + 1) w W ∧ w.heap.size + 2 ≤ W.heap.size := by
    cases hm : markB t3 with
    | true =>
      refine ⟨w1, markI s, .inl ⟨rfl, rfl⟩, rfl, ?_, RR1, RC1, T1, z1⟩
      rw [unhide HM, hm]; exact hR
    | false =>
      refine ⟨w1.setCell ⟨g, 4, none⟩ (.bool true), markI s, .inr ⟨rfl, rfl⟩, rfl, ?_, RR1.setFar (by show w.heap.size ≠ g; omega) _, RC1.setFar (by show w.heap.size + 1 ≠ g; omega) _, T1.trans (Touch.setCell _ _ _ (Nat.le_refl _) (Nat.lt_succ_self _)), by simp; exact z1⟩
      rw [unhide HM, hm]; exact hR.setBroken true
  obtain ⟨W, s1, hW, hs1, R1, RR2, RC2, T2, z2⟩ := hsplit
  have hok1 := R1.ok
  have HX := hide (show bodyI (markI s) = bodyI s1 by rw [hs1])
  clear hs1 HM
  have HN := hide (count_any' g h0 h1 h2 s1 W R1)
  have HXB := hide (show bodyI s1 = bnd (manyI valI (numI 2 s1).1.toNat) (fun p => bnd (numI 2) fun sl => bnd (numI 2) fun m => bnd (manyI insI m.toNat) fun i => rt (⟨p, sl, i⟩ : Cd)) (numI 2 s1).2 from rfl)
  have hr := num2_range s1 hok1
  have hok2 : okB (numI 2 s1).2.1 := (takeI_ok 2 s1 hok1).2
  generalize numI 2 s1 = r at HN HXB hr hok2
  obtain ⟨kv, s2⟩ := r
  simp only at hr HXB hok2
  obtain ⟨K, rfl⟩ := Int.eq_ofNat_of_zero_le hr.1
  have hK : K ≤ 65535 := by omega
  have HX := hide ((unhide HX).trans (unhide HXB))
  simp only [Int.toNat_natCast] at HX
  clear HXB hr
  rcases hW with ⟨hm, hW⟩ | ⟨hm, hW⟩
  all_goals
    have HW := hide hW
    have im := (unhide Hmk).symm.trans hm
    clear hW hm Hmk R1 hR RR1 RC1 T1 h HT
    go_wp2_with fail
    rw [← unhide HW]
    clear q0 q1 q2 q4 qf cv im
    refine (unhide HN).mono ?_
    rintro e w3 ⟨rfl, hR3, hT3⟩
    simp only at hR3
    obtain ⟨q0, q1, q2, q4, qf⟩ := hR3.cells
    have z3 := hT3.size
    have RR3 := (RR2.touch' hT3 (.inr (by omega))).setFar (p := ⟨g, 0, none⟩) (by show w.heap.size ≠ g; omega) (.int .i64 K)
    have RC3 := (RC2.touch' hT3 (.inr (by omega))).setFar (p := ⟨g, 0, none⟩) (by show w.heap.size + 1 ≠ g; omega) (.int .i64 K)
    have T3 := (T2.trans hT3).trans (Touch.setCell (lo := g) (hi := g + 1) w3 ⟨g, 0, none⟩ (.int .i64 K) (Nat.le_refl _) (Nat.lt_succ_self _))
    have hR4 := hR3.set0 K
    have z4 : w.heap.size + 2 ≤ (w3.setCell ⟨g, 0, none⟩ (.int .i64 K)).heap.size := by simp; omega
    clear RR2 RC2 T2 z2 hT3 hR3 z3
    go_wp2_with fail
    generalize w3.setCell ⟨g, 0, none⟩ (.int .i64 K) = W4 at RR3 RC3 T3 hR4 z4 ⊢
    clear q0 q1 q2 q4 qf
    go_loopw [] (fun wr => ∃ (x : Option Addr) (cx : Nat) (P : List Vl) (nv : List Value) (st : Rs) (k : Nat), Row wr (w.heap.size + 1) #[.slice x P.length cx, .int .i64 0, .slice none 0 0] 26 ∧ Row wr w.heap.size #[.slice none 0 0, .int .i64 0, .slice none 0 0] 26 ∧ OwnP wr (w.heap.size + 2) (.slice x P.length cx) P nv ∧ P.length + k = K ∧ IRs wr g K h1 h2 st ∧ Hid ((P ++ (manyI valI k st).1, (manyI valI k st).2) = manyI valI K s2) ∧ Touch g (g + 1) w wr ∧ w.heap.size + 2 ≤ wr.heap.size) (fun wr => K - cellLen wr (w.heap.size + 1) 0)
    case atStart => exact ⟨none, 0, [], [], s2, K, RC3, RR3, OwnP.nil _ _, by simp, hR4, hide (by simp), T3, z4⟩
    case round =>
      obtain ⟨x, cx, P, nv, ⟨st, bk⟩, k, RCj, RRj, OPj, hk, Rj, hM, Tj, zj⟩ := hrel
      obtain ⟨q0, q1, q2, q4, qf⟩ := Rj.cells
      obtain ⟨c0, c1, c2⟩ := rowC RCj
      simp only at q4
      clear RC3 RR3 hR4 T3 z4
      by_cases hgo : 0 < k ∧ bk = false
      · obtain ⟨hk0, rfl⟩ := hgo
        -- [ round1
        obtain ⟨k, rfl⟩ : ∃ k', k = k' + 1 := ⟨k - 1, by omega⟩
        have ilt : (P.length : Int) < (K : Int) := by omega
        have hM1 := unhide hM
        rw [manyI_step _ _ _ rfl] at hM1
        have HM := hide hM1
        have HV := hide (fun W (hW : IRs W g K h1 h2 (st, false)) => rvalue_any g K h1 h2 (st, false) W hW)
        have hlt := OPj.lts
        generalize valI (st, false) = r at HM HV
        obtain ⟨y, s5⟩ := r
        simp only at HM
        have Hk := hide hk
        have hP : P.length ≤ 65534 := by omega
        clear hM1 hM hk hk0
        go_wp2_with fail
        go_region
        go_wp2_with fail
        have HCL := hide (cellLen_row RCj)
        have Rd := Rj.blocks (w' := wr.drew) (fun _ _ => rfl) (Nat.le_refl _)
        have RCd : Row wr.drew (w.heap.size + 1) _ _ := ⟨RCj.out⟩
        have RRd : Row wr.drew w.heap.size _ _ := ⟨RRj.out⟩
        have OPd := OPj.blocks (w' := wr.drew) (fun _ _ _ => rfl)
        have Td := Tj.drew
        have zd : w.heap.size + 2 ≤ wr.drew.heap.size := zj
        have hltd : (∀ q, (Value.slice x P.length cx).ownBlock = some q → w.heap.size + 2 ≤ q ∧ q < wr.drew.heap.size) ∧ ∀ j, (hj : j < nv.length) → ∀ q, nv[j].ownBlock = some q → w.heap.size + 2 ≤ q ∧ q < wr.drew.heap.size := hlt
        obtain ⟨d0, d1, d2⟩ := rowC RCd
        clear c0 c1 c2 q0 q1 q2 q4 qf RCj RRj OPj Tj zj Rj hlt
        generalize wr.drew = wd at Rd RCd RRd OPd Td zd hltd d0 d1 d2 ⊢
        have sd : wd.drew.cell? ⟨w.heap.size + 1, 0, none⟩ = some (.slice x P.length cx) := d0
        have hnm : (Try.f29.name == "runtime.NumGoroutine") = false := by kernel_rfl
        have hbd : Try.f29.body.isNone = false := by kernel_rfl
        have HC := hide (retOf (unhide HV wd.drew (Rd.blocks (w' := wd.drew) (fun _ _ => rfl) (Nat.le_refl _))) (fun e w' ⟨a, c, h, _⟩ => ⟨_, h⟩))
        go_region_law (first
          | (refine step_callR rfl 29 _ Try.func29 hnm hbd _ _ rfl (.pointer (some ⟨g, 0, none⟩)) rfl _ (unhide HC) ?_; rintro v5 w5 ⟨au, cu, hv5, ow5, R5, T5⟩; obtain rfl := ending_inj hv5; have T5u := T5.undrew; have RC5 := RCd.touch' T5u (.inr (by omega)); obtain ⟨e0, e1, e2⟩ := rowC RC5; have ef := fun j => RC5.frozen j; have OP5 := (OPd.touch T5u (by omega)).alloc (.cells #[.int .i64 y.kind, .int .i64 y.num, .string y.text, .slice au y.names.length cu] 42); have RC6 := RC5.alloc (.cells #[.int .i64 y.kind, .int .i64 y.num, .string y.text, .slice au y.names.length cu] 42); obtain ⟨i0, i1, i2⟩ := rowC RC6; have NW := World.news_of_block (heap_alloc_new w5 (.cells #[.int .i64 y.kind, .int .i64 y.num, .string y.text, .slice au y.names.length cu] 42)); have z5 := T5u.size)
          | (refine step_append_lies _ rfl _ _ 23 rfl (w.heap.size + 2) 42 iv (.agg #[.int .i64 0, .int .i64 0, .string ByteArray.empty, .slice none 0 0]) 4 56 Try.underlying23 hiv hv0 hv1 hv2 rfl (by decide) (.slice x P.length cx) P.length (vlC P nv) rfl OP5.own ⟨w5.heap.size, 0, none⟩ 1 1 (vl4 y (.slice au y.names.length cu)) rfl rfl NW (by intro u hu; simp [vl4] at hu; rcases hu with rfl | rfl | rfl | rfl <;> rfl) (by decide) (by unfold maxLen; omega) (by omega) (by simp; omega) _ rfl ?_; intro g7 cap7 w7 O7 hgrow hat hlt7; have RC7 : Row w7 (w.heap.size + 1) _ _ := ⟨(hgrow.block (w.heap.size + 1) RC6.lt (fun e => by have := (hltd.1 _ e.symm).1; omega)).trans RC6.out⟩; have s7 : w7.cell? ⟨w.heap.size + 1, 0, none⟩ = some (.slice x P.length cx) := (rowC RC7).1; have f7 := RC7.frozen 0))
        all_goals
          have hu : (w5.alloc (.cells #[.int .i64 y.kind, .int .i64 y.num, .string y.text, .slice au y.names.length cu] 42)).ownsRow (w.heap.size + 2) 9 1 (.slice au y.names.length cu) y.names.length (y.names.map Value.string) := ownsRow_low' (World.ownsRow.alloc ow5 _) zd
          have hub : ∀ q, (Value.slice au y.names.length cu).ownBlock = some q → wd.heap.size ≤ q := fun q hq => (ow5.lt q hq).1
          have hcb : ∀ q, (Value.slice x P.length cx).ownBlock = some q → w.heap.size + 2 ≤ q ∧ q < wd.heap.size := hltd.1
          have OP7 : OwnP w7 (w.heap.size + 2) (.slice (some ⟨g7, 0, none⟩) (P.length + 1) cap7) (P ++ [y]) (nv ++ [.slice au y.names.length cu]) := OP5.snoc hu (fun j hj q hq e => by have := (hltd.2 j hj q hq).2; have := hub q e; omega) (fun q hq e => by have := (hcb q e).2; have := hub q hq; omega) O7 hgrow (fun q hq => by
            have e : g7 = q := by simpa [Value.ownBlock] using hq
            subst e
            rcases hat with e | e
            · exact .inl e
            · right; simp at e ⊢; omega)
          have T7 := ((Td.trans T5u).alloc (.cells #[.int .i64 y.kind, .int .i64 y.num, .string y.text, .slice au y.names.length cu] 42)).grown hgrow (fun q hq => by have := (hcb q hq).1; omega)
          have R7 := (R5.alloc (.cells #[.int .i64 y.kind, .int .i64 y.num, .string y.text, .slice au y.names.length cu] 42)).grown hgrow (fun q hq => by have := (hcb q hq).1; omega)
          have RR6 := (RRd.touch' T5u (.inr (by omega))).alloc (.cells #[.int .i64 y.kind, .int .i64 y.num, .string y.text, .slice au y.names.length cu] 42)
          have RR7 : Row w7 w.heap.size _ _ := ⟨(hgrow.block w.heap.size RR6.lt (fun e => by have := (hcb _ e.symm).1; omega)).trans RR6.out⟩
          have zg := hgrow.size
          simp only [World.size_alloc] at zg
          have RC8 := RC7.set 0 (.slice (some ⟨g7, 0, none⟩) (P.length + 1) cap7)
          simp only [List.setIfInBounds_toArray, List.set_cons_zero] at RC8
          have RR8 := RR7.setFar (p := ⟨w.heap.size + 1, 0, none⟩) (by show w.heap.size ≠ w.heap.size + 1; omega) (.slice (some ⟨g7, 0, none⟩) (P.length + 1) cap7)
          have R8 := R7.setFar ⟨w.heap.size + 1, 0, none⟩ (.slice (some ⟨g7, 0, none⟩) (P.length + 1) cap7) (by show g < w.heap.size + 1; omega)
          have T8 := T7.setNew ⟨w.heap.size + 1, 0, none⟩ (.slice (some ⟨g7, 0, none⟩) (P.length + 1) cap7) (by show w.heap.size ≤ w.heap.size + 1; omega)
          have OP8 := OP7.set ⟨w.heap.size + 1, 0, none⟩ (.slice (some ⟨g7, 0, none⟩) (P.length + 1) cap7) (by show w.heap.size + 1 < w.heap.size + 2; omega)
          have z8 : w.heap.size + 2 ≤ (w7.setCell ⟨w.heap.size + 1, 0, none⟩ (.slice (some ⟨g7, 0, none⟩) (P.length + 1) cap7)).heap.size := by simp; omega
          have HL := hide (show (P ++ [y]).length = P.length + 1 by simp)
          have HF : Hid (Row (w7.setCell ⟨w.heap.size + 1, 0, none⟩ (.slice (some ⟨g7, 0, none⟩) (P.length + 1) cap7)) (w.heap.size + 1) #[.slice (some ⟨g7, 0, none⟩) (P ++ [y]).length cap7, .int .i64 0, .slice none 0 0] 26 ∧ OwnP (w7.setCell ⟨w.heap.size + 1, 0, none⟩ (.slice (some ⟨g7, 0, none⟩) (P.length + 1) cap7)) (w.heap.size + 2) (.slice (some ⟨g7, 0, none⟩) (P ++ [y]).length cap7) (P ++ [y]) (nv ++ [.slice au y.names.length cu])) := hide (by rw [unhide HL]; exact ⟨RC8, OP8⟩)
          clear hgrow hat O7 OP7 T7 R7 RR6 RR7 RC8 OP8 hu OP5 RC5 RC6 RC7 NW T5 T5u R5 ow5 OPd Rd RCd RRd Td
          go_wp2_with fail
          go_roundw
          case rel => exact ⟨some ⟨g7, 0, none⟩, cap7, P ++ [y], nv ++ [.slice au y.names.length cu], s5, k, (unhide HF).1, RR8, (unhide HF).2, by rw [unhide HL]; have := unhide Hk; omega, R8, HM, T8, z8⟩
          case measure => have := unhide Hk; rw [unhide HCL, cellLen_row (unhide HF).1, unhide HL]; omega
        -- ] round1
      · have HM : Hid ((P, (st, bk)) = manyI valI K s2) := hide (by
          rw [← unhide hM]
          by_cases h0 : k = 0
          · subst h0; rw [manyI, List.append_nil]
          · have : bk = true := by
              cases bk
              · exact absurd ⟨Nat.pos_of_ne_zero h0, rfl⟩ hgo
              · rfl
            rw [manyI_stop _ _ _ this, List.append_nil])
        have hcond : K = P.length ∨ (P.length : Int) < (K : Int) ∧ bk = true := by
          by_cases h0 : k = 0
          · left; omega
          · right
            refine ⟨by omega, ?_⟩
            cases bk
            · exact absurd ⟨Nat.pos_of_ne_zero h0, rfl⟩ hgo
            · rfl
        have HX2 := hide ((unhide HX).trans (show _ = bnd (numI 2) (fun sl => bnd (numI 2) fun m => bnd (manyI insI m.toNat) fun i => rt (⟨P, sl, i⟩ : Cd)) (st, bk) by show bnd _ _ _ = _; rw [bnd, ← unhide HM]))
        have hP : P.length ≤ 65535 := by omega
        have okP : ∀ x ∈ P, okV x := by
          have := (manyI_all (f := valI) (p := okV) valI_ok K s2 hok2).1
          rw [← unhide HM] at this; exact this
        have HokP := hide okP
        clear hM hgo hk HM okP
        rcases hcond with rfl | ⟨ilt, rfl⟩
        all_goals
          go_wp2_with fail
          go_region
          go_wp2_with fail
          have Rd := Rj.blocks (w' := wr.drew) (fun _ _ => rfl) (Nat.le_refl _)
          have RCd : Row wr.drew (w.heap.size + 1) _ _ := ⟨RCj.out⟩
          have RRd : Row wr.drew w.heap.size _ _ := ⟨RRj.out⟩
          have OPd := OPj.blocks (w' := wr.drew) (fun _ _ _ => rfl)
          have Td := Tj.drew
          have zd : w.heap.size + 2 ≤ wr.drew.heap.size := zj
          clear c0 c1 c2 q0 q1 q2 q4 qf RCj RRj OPj Tj zj Rj
          generalize wr.drew = wd at Rd RCd RRd OPd Td zd ⊢
          have HN2 := hide (count_any' g _ h1 h2 _ wd Rd)
          have hr := num2_range _ Rd.ok
          have HX3 := hide ((unhide HX2).trans (show bnd (numI 2) _ _ = bnd (numI 2) (fun m => bnd (manyI insI m.toNat) fun i => rt (⟨P, (numI 2 _).1, i⟩ : Cd)) (numI 2 _).2 from rfl))
          have hok3 := (takeI_ok 2 _ Rd.ok).2
          change okB (numI 2 _).2.1 at hok3
          clear HX2
          generalize numI 2 _ = r at HN2 hr HX3 hok3
          obtain ⟨sl, s3⟩ := r
          simp only at hr HX3 hok3
          refine (unhide HN2).mono ?_
          rintro e w5 ⟨rfl, R5, T5⟩
          simp only at R5
          obtain ⟨q0, q1, q2, q4, qf⟩ := R5.cells
          have RC5 := (RCd.touch' T5 (.inr (by omega))).setFar (p := ⟨g, 1, none⟩) (by show w.heap.size + 1 ≠ g; omega) (.int .i64 sl)
          have RR5 := (RRd.touch' T5 (.inr (by omega))).setFar (p := ⟨g, 1, none⟩) (by show w.heap.size ≠ g; omega) (.int .i64 sl)
          have OP5 := (OPd.touch T5 (by omega)).set ⟨g, 1, none⟩ (.int .i64 sl) (by show g < w.heap.size + 2; omega)
          have R6 := R5.set1 sl
          have T6 := (Td.trans T5).trans (Touch.setCell (lo := g) (hi := g + 1) w5 ⟨g, 1, none⟩ (.int .i64 sl) (Nat.le_refl _) (Nat.lt_succ_self _))
          have z6 : w.heap.size + 2 ≤ (w5.setCell ⟨g, 1, none⟩ (.int .i64 sl)).heap.size := by have := T5.size; simp; omega
          clear RCd RRd OPd Td zd Rd R5 T5 HN2
          go_wp2_with fail
          generalize w5.setCell ⟨g, 1, none⟩ (.int .i64 sl) = W6 at RC5 RR5 OP5 R6 T6 z6 ⊢
          clear q0 q1 q2 q4 qf
          have HN2 := hide (count_any' g _ _ h2 s3 W6 R6)
          have hr2 := num2_range s3 R6.ok
          have HX4 := hide ((unhide HX3).trans (show bnd (numI 2) _ s3 = bnd (manyI insI (numI 2 s3).1.toNat) (fun i => rt (⟨P, sl, i⟩ : Cd)) (numI 2 s3).2 from rfl))
          have hok4 : okB (numI 2 s3).2.1 := (takeI_ok 2 _ hok3).2
          clear HX3
          generalize numI 2 s3 = r at HN2 hr2 HX4 hok4
          obtain ⟨mi, s4⟩ := r
          simp only at hr2 HX4 hok4
          obtain ⟨M, rfl⟩ := Int.eq_ofNat_of_zero_le hr2.1
          have hM : M ≤ 65535 := by omega
          have HX5 := hide (show bodyI (markI s) = bnd (manyI insI M) (fun i => rt (⟨P, sl, i⟩ : Cd)) s4 by rw [unhide HX4, Int.toNat_natCast])
          clear HX4 hr2
          refine (unhide HN2).mono ?_
          rintro e w7 ⟨rfl, R7, T7⟩
          simp only at R7
          obtain ⟨q0, q1, q2, q4, qf⟩ := R7.cells
          have RC7 := (RC5.touch' T7 (.inr (by omega))).setFar (p := ⟨g, 2, none⟩) (by show w.heap.size + 1 ≠ g; omega) (.int .i64 M)
          have RR7 := (RR5.touch' T7 (.inr (by omega))).setFar (p := ⟨g, 2, none⟩) (by show w.heap.size ≠ g; omega) (.int .i64 M)
          have OP7 := (OP5.touch T7 (by omega)).set ⟨g, 2, none⟩ (.int .i64 M) (by show g < w.heap.size + 2; omega)
          have R8 := R7.set2 M
          have T8 := (T6.trans T7).trans (Touch.setCell (lo := g) (hi := g + 1) w7 ⟨g, 2, none⟩ (.int .i64 M) (Nat.le_refl _) (Nat.lt_succ_self _))
          have z8 : w.heap.size + 2 ≤ (w7.setCell ⟨g, 2, none⟩ (.int .i64 M)).heap.size := by have := T7.size; simp; omega
          clear RC5 RR5 OP5 R6 T6 z6 R7 T7 HN2
          go_wp2_with fail
          generalize w7.setCell ⟨g, 2, none⟩ (.int .i64 M) = W8 at RC7 RR7 OP7 R8 T8 z8 ⊢
          clear q0 q1 q2 q4 qf
          obtain ⟨hh, R8⟩ : ∃ hh, IRs W8 g hh sl M s4 := ⟨_, R8⟩
          go_loopw [] (fun wr => ∃ (y : Option Addr) (cy : Nat) (I : List Is1) (st : Rs) (k : Nat), Row wr (w.heap.size + 1) #[.slice x P.length cx, .int .i64 0, .slice y I.length cy] 26 ∧ Row wr w.heap.size #[.slice none 0 0, .int .i64 0, .slice none 0 0] 26 ∧ OwnP wr (w.heap.size + 2) (.slice x P.length cx) P nv ∧ wr.ownsRow (w.heap.size + 2) 45 2 (.slice y I.length cy) I.length (inC I) ∧ (∀ q, (Value.slice y I.length cy).ownBlock = some q → (Value.slice x P.length cx).ownBlock ≠ some q ∧ ∀ j, (hj : j < nv.length) → nv[j].ownBlock ≠ some q) ∧ I.length + k = M ∧ IRs wr g hh sl M st ∧ Hid ((I ++ (manyI insI k st).1, (manyI insI k st).2) = manyI insI M s4) ∧ Touch g (g + 1) w wr ∧ w.heap.size + 2 ≤ wr.heap.size) (fun wr => M - cellLen wr (w.heap.size + 1) 2)
          case atStart => exact ⟨none, 0, [], s4, M, RC7, RR7, OP7, World.ownsRow_nil _ _ _ _, (fun q hq => by cases hq), by simp, R8, hide (by simp), T8, z8⟩
          case round =>
            clear RC7 RR7 OP7 R8 T8 z8
            obtain ⟨y, cy, I, ⟨st, bk⟩, k, RCj, RRj, OPj, OIj, apj, hk, Rj, hMM, Tj, zj⟩ := hrel
            obtain ⟨q0, q1, q2, q4, qf⟩ := Rj.cells
            obtain ⟨c0, c1, c2⟩ := rowC RCj
            simp only at q4
            by_cases hgo : 0 < k ∧ bk = false
            · obtain ⟨hk0, rfl⟩ := hgo
              -- [ round2
              obtain ⟨k, rfl⟩ : ∃ k', k = k' + 1 := ⟨k - 1, by omega⟩
              have ilt : (I.length : Int) < (M : Int) := by omega
              have hM1 := unhide hMM
              rw [manyI_step _ _ _ rfl] at hM1
              have HM := hide hM1
              have Hk := hide hk
              have hI : I.length ≤ 65534 := by omega
              have HCL := hide (cellLen_row2 RCj)
              clear hM1 hMM hk hk0
              go_wp2_with fail
              go_region
              go_wp2_with fail
              have Rd := Rj.blocks (w' := wr.drew) (fun _ _ => rfl) (Nat.le_refl _)
              have RCd : Row wr.drew (w.heap.size + 1) _ _ := ⟨RCj.out⟩
              have RRd : Row wr.drew w.heap.size _ _ := ⟨RRj.out⟩
              have OPd := OPj.blocks (w' := wr.drew) (fun _ _ _ => rfl)
              have OId := owns_blocks (w' := wr.drew) OIj (fun _ _ => rfl)
              have Td := Tj.drew
              have zd : w.heap.size + 2 ≤ wr.drew.heap.size := zj
              clear c0 c1 c2 q0 q1 q2 q4 qf RCj RRj OPj OIj Tj zj Rj
              generalize wr.drew = wd at Rd RCd RRd OPd OId Td zd ⊢
              have HN1 := hide (number_1 g _ _ _ _ wd Rd)
              have HIS := hide (show insI (st, false) = (⟨(numI 1 (st, false)).1, (numI 2 (numI 1 (st, false)).2).1⟩, (numI 2 (numI 1 (st, false)).2).2) from rfl)
              have hr1 := num1_range _ Rd.ok
              generalize numI 1 (st, false) = r at HN1 HIS hr1
              obtain ⟨op, s5⟩ := r
              simp only at HIS hr1
              have hr10 := hr1.1
              have hr11 := hr1.2
              refine (unhide HN1).mono ?_
              rintro e w5 ⟨rfl, R5, T5⟩
              simp only at R5
              have RC5 := RCd.touch' T5 (.inr (by omega))
              have RR5 := RRd.touch' T5 (.inr (by omega))
              have OP5 := OPd.touch T5 (by omega)
              have hOIb : ∀ q, (Value.slice y I.length cy).ownBlock = some q → w.heap.size + 2 ≤ q := fun q hq => (OId.lt q hq).1
              have OI5 := owns_touch OId T5 (fun q hq => .inr (by have := hOIb q hq; omega))
              have T5w := Td.trans T5
              have z5 : w.heap.size + 2 ≤ w5.heap.size := Nat.le_trans zd T5.size
              obtain ⟨d0, d1, d2⟩ := rowC RC5
              clear Rd RCd RRd OPd OId Td zd HN1 T5 hr1
              go_wp2_with fail
              have HN2 := hide (fun W (hW : IRs W g hh sl M s5) => count_any' g hh sl M s5 W hW)
              generalize numI 2 s5 = r2 at HN2 HIS
              obtain ⟨ag, s6⟩ := r2
              simp only at HIS
              have sd : w5.drew.cell? ⟨w.heap.size + 1, 2, none⟩ = some (.slice y I.length cy) := d2
              have hnm : (Try.f28.name == "runtime.NumGoroutine") = false := by kernel_rfl
              have hbd : Try.f28.body.isNone = false := by kernel_rfl
              have HC := hide (retOf (unhide HN2 w5.drew (R5.blocks (w' := w5.drew) (fun _ _ => rfl) (Nat.le_refl _))) (fun e w' ⟨h, _⟩ => ⟨_, h⟩))
              go_region_law (first
                | (refine step_callR rfl 28 _ Try.func28 hnm hbd _ _ rfl (.pointer (some ⟨g, 0, none⟩)) rfl _ (unhide HC) ?_; rintro v6 w6 ⟨hv6, R6, T6⟩; obtain rfl := ending_inj hv6; have T6u := T6.undrew; have RC6 := RC5.touch' T6u (.inr (by omega)); obtain ⟨e0, e1, e2⟩ := rowC RC6; have ef := fun j => RC6.frozen j; have OI6 := World.ownsRow.alloc (owns_touch OI5 T6u (fun q hq => .inr (by have := hOIb q hq; omega))) (.cells #[.int .i64 op, .int .i64 ag] 45); have RC7 := RC6.alloc (.cells #[.int .i64 op, .int .i64 ag] 45); obtain ⟨i0, i1, i2⟩ := rowC RC7; have NW := World.news_of_block (heap_alloc_new w6 (.cells #[.int .i64 op, .int .i64 ag] 45)); have z6 := T6u.size)
                | (refine step_append_lies _ rfl _ _ 24 rfl (w.heap.size + 2) 45 ii (.agg #[.int .i64 0, .int .i64 0]) 2 16 Try.underlying24 hii hi0 hi1 hi2 rfl (by decide) (.slice y I.length cy) I.length (inC I) rfl OI6 ⟨w6.heap.size, 0, none⟩ 1 1 [.int .i64 op, .int .i64 ag] rfl rfl NW (by intro u hu; simp at hu; rcases hu with rfl | rfl <;> rfl) (by decide) (by unfold maxLen; omega) (by omega) (by simp; omega) _ rfl ?_; intro g8 cap8 w8 O8 hgrow hat hlt8; have RC8 : Row w8 (w.heap.size + 1) _ _ := ⟨(hgrow.block (w.heap.size + 1) RC7.lt (fun e => by have := hOIb _ e.symm; omega)).trans RC7.out⟩; have s8 : w8.cell? ⟨w.heap.size + 1, 2, none⟩ = some (.slice y I.length cy) := (rowC RC8).2.2; have f8 := RC8.frozen 2))
              all_goals
                have RR7 := (RR5.touch' T6u (.inr (by omega))).alloc (.cells #[.int .i64 op, .int .i64 ag] 45)
                have RR8 : Row w8 w.heap.size _ _ := ⟨(hgrow.block w.heap.size RR7.lt (fun e => by have := hOIb _ e.symm; omega)).trans RR7.out⟩
                have OP7 := (OP5.touch T6u (by omega)).alloc (.cells #[.int .i64 op, .int .i64 ag] 45)
                have lts := OP7.lts
                have OP8 := OP7.grown hgrow (fun q hq => apj q hq)
                have T8 := ((T5w.trans T6u).alloc (.cells #[.int .i64 op, .int .i64 ag] 45)).grown hgrow (fun q hq => by have := hOIb q hq; omega)
                have R8 := (R6.alloc (.cells #[.int .i64 op, .int .i64 ag] 45)).grown hgrow (fun q hq => by have := hOIb q hq; omega)
                have zg := hgrow.size
                simp only [World.size_alloc] at zg lts
                have ap8 : ∀ q, (Value.slice (some ⟨g8, 0, none⟩) (I.length + 1) cap8).ownBlock = some q → (Value.slice x P.length cx).ownBlock ≠ some q ∧ ∀ j, (hj : j < nv.length) → nv[j].ownBlock ≠ some q := fun q hq => by
                  have e : g8 = q := by simpa [Value.ownBlock] using hq
                  subst e
                  rcases hat with e | e
                  · exact apj _ e
                  · simp at e
                    exact ⟨fun h => by have := (lts.1 _ h).2; omega, fun j hj h => by have := (lts.2 j hj _ h).2; omega⟩
                have RC9 := RC8.set 2 (.slice (some ⟨g8, 0, none⟩) (I.length + 1) cap8)
                simp only [List.setIfInBounds_toArray, List.set_cons_zero, List.set_cons_succ] at RC9
                have RR9 := RR8.setFar (p := ⟨w.heap.size + 1, 2, none⟩) (by show w.heap.size ≠ w.heap.size + 1; omega) (.slice (some ⟨g8, 0, none⟩) (I.length + 1) cap8)
                have R9 := R8.setFar ⟨w.heap.size + 1, 2, none⟩ (.slice (some ⟨g8, 0, none⟩) (I.length + 1) cap8) (by show g < w.heap.size + 1; omega)
                have T9 := T8.setNew ⟨w.heap.size + 1, 2, none⟩ (.slice (some ⟨g8, 0, none⟩) (I.length + 1) cap8) (by show w.heap.size ≤ w.heap.size + 1; omega)
                have OP9 := OP8.set ⟨w.heap.size + 1, 2, none⟩ (.slice (some ⟨g8, 0, none⟩) (I.length + 1) cap8) (by show w.heap.size + 1 < w.heap.size + 2; omega)
                have O9 := owns_setFar' O8 ⟨w.heap.size + 1, 2, none⟩ (.slice (some ⟨g8, 0, none⟩) (I.length + 1) cap8) (fun q hq => by have := (O8.lt q hq).1; show q ≠ w.heap.size + 1; omega)
                have z9 : w.heap.size + 2 ≤ (w8.setCell ⟨w.heap.size + 1, 2, none⟩ (.slice (some ⟨g8, 0, none⟩) (I.length + 1) cap8)).heap.size := by simp; omega
                have HL := hide (show (I ++ [Is1.mk op ag]).length = I.length + 1 by simp)
                have HM9 : Hid ((I ++ [Is1.mk op ag] ++ (manyI insI k s6).1, (manyI insI k s6).2) = manyI insI M s4) := hide (by have := unhide HM; rw [unhide HIS] at this; exact this)
                have HF : Hid (Row (w8.setCell ⟨w.heap.size + 1, 2, none⟩ (.slice (some ⟨g8, 0, none⟩) (I.length + 1) cap8)) (w.heap.size + 1) #[.slice x P.length cx, .int .i64 0, .slice (some ⟨g8, 0, none⟩) (I ++ [Is1.mk op ag]).length cap8] 26 ∧ (w8.setCell ⟨w.heap.size + 1, 2, none⟩ (.slice (some ⟨g8, 0, none⟩) (I.length + 1) cap8)).ownsRow (w.heap.size + 2) 45 2 (.slice (some ⟨g8, 0, none⟩) (I ++ [Is1.mk op ag]).length cap8) (I ++ [Is1.mk op ag]).length (inC (I ++ [Is1.mk op ag])) ∧ (∀ q, (Value.slice (some ⟨g8, 0, none⟩) (I ++ [Is1.mk op ag]).length cap8).ownBlock = some q → (Value.slice x P.length cx).ownBlock ≠ some q ∧ ∀ j, (hj : j < nv.length) → nv[j].ownBlock ≠ some q)) := hide (by rw [unhide HL, inC_snoc]; exact ⟨RC9, O9, ap8⟩)
                clear hgrow hat O8 O9 OP7 OP8 T8 R8 RR7 RR8 RC9 RC8 RC7 RC6 OI6 OI5 OP5 NW T6 T6u R6 R5 RC5 RR5 T5w lts ap8 apj
                go_wp2_with fail
                go_roundw
                case rel => exact ⟨some ⟨g8, 0, none⟩, cap8, I ++ [Is1.mk op ag], s6, k, (unhide HF).1, RR9, OP9, (unhide HF).2.1, (unhide HF).2.2, by rw [unhide HL]; have := unhide Hk; omega, R9, HM9, T9, z9⟩
                case measure => have := unhide Hk; rw [unhide HCL, cellLen_row2 (unhide HF).1, unhide HL]; omega
              -- ] round2
            · have HM : Hid ((I, (st, bk)) = manyI insI M s4) := hide (by
                rw [← unhide hMM]
                by_cases h0 : k = 0
                · subst h0; rw [manyI, List.append_nil]
                · have : bk = true := by
                    cases bk
                    · exact absurd ⟨Nat.pos_of_ne_zero h0, rfl⟩ hgo
                    · rfl
                  rw [manyI_stop _ _ _ this, List.append_nil])
              have hcond : M = I.length ∨ (I.length : Int) < (M : Int) ∧ bk = true := by
                by_cases h0 : k = 0
                · left; omega
                · right
                  refine ⟨by omega, ?_⟩
                  cases bk
                  · exact absurd ⟨Nat.pos_of_ne_zero h0, rfl⟩ hgo
                  · rfl
              have HX6 := hide (show bodyI (markI s) = (⟨P, sl, I⟩, (st, bk)) by rw [unhide HX5]; show bnd _ _ _ = _; rw [bnd, ← unhide HM]; rfl)
              clear hMM hgo hk HM HX5
              rcases hcond with rfl | ⟨ilt, rfl⟩
              all_goals
                go_wp2_with fail
                go_region
                have Rd := Rj.blocks (w' := wr.drew) (fun _ _ => rfl) (Nat.le_refl _)
                have RCd : Row wr.drew (w.heap.size + 1) _ _ := ⟨RCj.out⟩
                have RRd : Row wr.drew w.heap.size _ _ := ⟨RRj.out⟩
                have OPd := OPj.blocks (w' := wr.drew) (fun _ _ _ => rfl)
                have OId := owns_blocks (w' := wr.drew) OIj (fun _ _ => rfl)
                have Td := Tj.drew
                have zd : w.heap.size + 2 ≤ wr.drew.heap.size := zj
                clear c0 c1 c2 q0 q1 q2 q4 qf RCj RRj OPj OIj Tj zj Rj
                generalize wr.drew = wd at Rd RCd RRd OPd OId Td zd ⊢
                obtain ⟨q0, q1, q2, q4, qf⟩ := Rd.cells
                obtain ⟨c0, c1, c2⟩ := rowC RCd
                have cf := fun j => RCd.frozen j
                obtain ⟨e0, e1, e2⟩ := rowC RRd
                have ef := fun j => RRd.frozen j
                have hne : w.heap.size ≠ w.heap.size + 1 := by omega
                have hne2 : w.heap.size + 1 ≠ w.heap.size := by omega
                have RC9 := RCd.set 1 (.int .i64 sl)
                simp only [List.setIfInBounds_toArray, List.set_cons_zero, List.set_cons_succ] at RC9
                have RR9 := RRd.setFar (p := ⟨w.heap.size + 1, 1, none⟩) (by show w.heap.size ≠ w.heap.size + 1; omega) (.int .i64 sl)
                have R9 := Rd.setFar ⟨w.heap.size + 1, 1, none⟩ (.int .i64 sl) (by show g < w.heap.size + 1; omega)
                have T9 := Td.setNew ⟨w.heap.size + 1, 1, none⟩ (.int .i64 sl) (by show w.heap.size ≤ w.heap.size + 1; omega)
                have OP9 := OPd.set ⟨w.heap.size + 1, 1, none⟩ (.int .i64 sl) (by show w.heap.size + 1 < w.heap.size + 2; omega)
                have O9 := owns_setFar' OId ⟨w.heap.size + 1, 1, none⟩ (.int .i64 sl) (fun q hq => by have := (OId.lt q hq).1; show q ≠ w.heap.size + 1; omega)
                clear RCd RRd OPd OId Td zd Rd
                go_wp2_with fail
                generalize wd.setCell ⟨w.heap.size + 1, 1, none⟩ (.int .i64 sl) = W9 at RC9 RR9 R9 T9 OP9 O9 ⊢
                have RF := ((RR9.set 0 (.slice x P.length cx)).set 1 (.int .i64 sl)).set 2 (.slice y I.length cy)
                simp only [List.setIfInBounds_toArray, List.set_cons_zero, List.set_cons_succ] at RF
                obtain ⟨g0, g1, g2⟩ := rowC RF
                refine bodyPost_ret (res_code Try.results16 rfl g0 g1 g2) rfl ?_
                rw [unhide HX6]
                have b0 : w.heap.size < w.heap.size + 2 := by omega
                have far : ∀ q, (Value.slice y I.length cy).ownBlock = some q → q ≠ w.heap.size := fun q hq => by have := (O9.lt q hq).1; omega
                exact ⟨x, cx, y, cy, nv, rfl, (((OP9.set ⟨w.heap.size, 0, none⟩ _ b0).set ⟨w.heap.size, 1, none⟩ _ b0).set ⟨w.heap.size, 2, none⟩ _ b0).low (by omega), ownsRow_low' (owns_setFar' (owns_setFar' (owns_setFar' O9 ⟨w.heap.size, 0, none⟩ _ far) ⟨w.heap.size, 1, none⟩ _ far) ⟨w.heap.size, 2, none⟩ _ far) (by omega), apj, ⟨_, _, _, ((R9.setFar ⟨w.heap.size, 0, none⟩ _ hg).setFar ⟨w.heap.size, 1, none⟩ _ hg).setFar ⟨w.heap.size, 2, none⟩ _ hg⟩, ((T9.setNew ⟨w.heap.size, 0, none⟩ _ (Nat.le_refl _)).setNew ⟨w.heap.size, 1, none⟩ _ (Nat.le_refl _)).setNew ⟨w.heap.size, 2, none⟩ _ (Nat.le_refl _)⟩

end Go.Proofs.Ytmkoidbpkhiohaa
