/-
  Parse: policy. Own work.
-/
import Derived.Test.YtcehablmloleaaaGreatDoorGV
namespace Go.Proofs.YtcehablmloleaaaGreatDoor
open Go.RowKit
set_option linter.unusedVariables false
variable {aY : Addr} {pb g c : Nat} {T : List Tok} {tl : Nat}

theorem infoSmt : (Tryz.prog.info? 111).map (fun i => (i.zero, i.size, i.bytes)) = some (some (.agg #[.int .i64 0, .int .i64 0, .string ByteArray.empty, .nilIface, .nilIface]), 5, 64) := by kernel_rfl

/-- a statement of the program's is the statement that was read -/
def SxP (lo : Nat) (w : World) (x : Sx) (s : Ps) : Prop := x.at' = (s.at_ : Int) ∧ x.kind = s.kind ∧ x.name = s.name ∧ ErO x.cond s.cond ∧ ErO x.grant s.grant ∧ ownO lo w x.cond ∧ ownO lo w x.grant

def SxsP (lo : Nat) (w : World) : List Sx → List Ps → Prop
  | [], [] => True
  | x :: X, s :: S => SxP lo w x s ∧ SxsP lo w X S
  | _, _ => False

theorem ownO_of {lo : Nat} {w w' : World} (hk : ∀ (v : Value) (n : Nat) (xs : List Value), w.ownsRow lo 9 1 v n xs → ∀ q, v.ownBlock = some q → w'.heap[q]? = w.heap[q]?) (o : Option Ex) (h : ownO lo w o) : ownO lo w' o := by
  cases o with
  | none => trivial
  | some e => exact e.own_of hk h

theorem SxsP.of {lo : Nat} {w w' : World} (hk : ∀ (v : Value) (n : Nat) (xs : List Value), w.ownsRow lo 9 1 v n xs → ∀ q, v.ownBlock = some q → w'.heap[q]? = w.heap[q]?) : ∀ (X : List Sx) (S : List Ps), SxsP lo w X S → SxsP lo w' X S
  | [], [], _ => trivial
  | x :: X, s :: S, h => ⟨⟨h.1.1, h.1.2.1, h.1.2.2.1, h.1.2.2.2.1, h.1.2.2.2.2.1, ownO_of hk _ h.1.2.2.2.2.2.1, ownO_of hk _ h.1.2.2.2.2.2.2⟩, SxsP.of hk X S h.2⟩
  | [], _ :: _, h => h
  | _ :: _, [], h => h

theorem SxsP.snoc {lo : Nat} {w : World} {x : Sx} {s : Ps} (hx : SxP lo w x s) : ∀ (X : List Sx) (S : List Ps), SxsP lo w X S → SxsP lo w (X ++ [x]) (S ++ [s])
  | [], [], _ => ⟨hx, trivial⟩
  | _ :: X, _ :: S, h => ⟨h.1, SxsP.snoc hx X S h.2⟩
  | [], _ :: _, h => absurd h id
  | _ :: _, [], h => absurd h id

theorem SxsP.len {lo : Nat} {w : World} : ∀ (X : List Sx) (S : List Ps), SxsP lo w X S → X.length = S.length
  | [], [], _ => rfl
  | _ :: X, _ :: S, h => by rw [List.length_cons, List.length_cons, SxsP.len X S h.2]
  | [], _ :: _, h => absurd h id
  | _ :: _, [], h => absurd h id

def QR.pre (L : List Ps) : QR → QR
  | .ok S => .ok (L ++ S)
  | .bad q => .bad q

theorem QR.pre_cons (L : List Ps) (s : Ps) (y : QR) : QR.pre L (y.cons s) = QR.pre (L ++ [s]) y := by
  cases y with
  | ok S => simp [QR.pre, QR.cons]
  | bad q => rfl

theorem DS.less {ts q : List Tok} {s : Ps} (d : DS ts (.ok s q)) : q.length < ts.length := by
  obtain ⟨c', hc', hne⟩ := d.suf
  have h1 : 0 < c'.length := List.length_pos_iff.2 (hne _ _ rfl)
  rw [hc', List.length_append]
  show q.length < _ + q.length
  omega

theorem cells5 {w : World} {b : Nat} {v0 v1 v2 v3 v4 : Value} {t : TypeId} (R : Row w b #[v0, v1, v2, v3, v4] t) : ∀ j u, [v0, v1, v2, v3, v4][j]? = some u → w.cell? ((⟨b, 0, none⟩ : Addr).add j) = some u := fun j u h => by
  have hadd : (⟨b, 0, none⟩ : Addr).add j = ⟨b, j, none⟩ := by by_cases e : j = 0 <;> simp [Addr.add, e]
  rw [hadd, R.cell j, ← h]
  simp

/-- what policy answers -/
def PlA (aY : Addr) (pb : Nat) (tl : Nat) : QR → World → Ending → World → Prop
  | .ok S, w, r, w' => (∃ X a cx, r = .returned (.tuple #[.slice a X.length cx, .nilIface]) ∧ w'.ownsRow w.heap.size 111 5 (.slice a X.length cx) X.length (sxC X) ∧ SxsP (pb + 1) w' X S ∧ X.length ≤ 4000) ∧ Touch pb (pb + 1) w w'
  | .bad q, w, r, w' => (∃ b, r = .returned (.tuple #[.slice none 0 0, errP b]) ∧ SyE aY tl q b w') ∧ Touch pb (pb + 1) w w'

/-- how far a policy is -/
def PlN (pb g c : Nat) (T : List Tok) (tl : Nat) (x : QR) (w : World) (n : Nat) (v : Value) (wr : World) : Prop :=
  ∃ X L a cx r k y, v = .slice a X.length cx ∧ wr.ownsRow w.heap.size 111 5 v X.length (sxC X) ∧ SxsP (pb + 1) wr X L ∧ Pp wr pb g c T tl r k ∧ DP r y ∧ x = QR.pre L y ∧ n = r.length ∧ X.length + r.length ≤ T.length ∧ Touch pb (pb + 1) w wr

theorem sxC_snoc (X : List Sx) (x : Sx) : sxC (X ++ [x]) = sxC X ++ sxV x := by simp [sxC]

set_option maxRecDepth 100000 in
set_option maxHeartbeats 6400000 in
theorem policy_any (hp : 17 ≤ pb) (ts : List Tok) (x : QR) (d : DP ts x) (w : World) (k : Nat) (h : Pp w pb g c T tl ts k) (hg : Gy w aY) :
    Calls Tryz.prog 35 #[.pointer (some ⟨pb, 0, none⟩)] w (PlA aY pb tl x w) := by
  obtain ⟨i, hi, hz0, hz1, hz2⟩ := info_parts infoSmt
  have HG := hide hg
  have nz := h.row.lt
  have Hs := hide h.small
  have HN0 := hide (show PlN pb g c T tl x w ts.length (.slice none 0 0) w from ⟨[], [], none, 0, ts, k, x, rfl, World.ownsRow_nil _ _ _ _, trivial, h, d, by cases x <;> rfl, rfl, by have := h.len; simp; omega, Touch.refl _ _ _⟩)
  clear h hg d
  go_enter Tryz.func35, Tryz.ntmps35
  go_wp2_with fail
  go_loopw [4] (fun v wr => ∃ n, PlN pb g c T tl x w n v wr) (fun v wr => leastN (fun n => PlN pb g c T tl x w n v wr))
  case atStart => exact ⟨_, unhide HN0⟩
  case round =>
    clear HN0
    have hl := leastN_spec hrel
    have HM := hide (show ∀ n v' w', n < leastN (fun n => PlN pb g c T tl x w n u4 wr) → PlN pb g c T tl x w n v' w' → leastN (fun n => PlN pb g c T tl x w n v' w') < leastN (fun n => PlN pb g c T tl x w n u4 wr) from fun n v' w' h1 h2 => leastN_lt h1 h2)
    generalize hme : leastN (fun n => PlN pb g c T tl x w n u4 wr) = m at hl HM
    have HME := hide hme
    clear hme hrel
    obtain ⟨X, L, a, cx, r, k1, y, rfl, hown, hX, P1, dy, hx, hm, hXr, T1⟩ := hl
    have Hm := hide (And.intro hm hXr)
    have HX := hide hX
    have HXX := hide hx
    have HG1 := hide ((unhide HG).touch T1 hp)
    have hz := T1.size
    have key : ∃ z, DS r z ∧ (∀ q, z = .bad q → x = .bad q) ∧ (∀ s q, z = .ok s q → (s.kind ≠ 3 ∧ ∃ y', DP q y' ∧ x = QR.pre (L ++ [s]) y' ∧ q.length < r.length) ∨ (s.kind = 3 ∧ q = [] ∧ x = .ok (L ++ [s])) ∨ (s.kind = 3 ∧ q ≠ [] ∧ x = .bad q)) := by
      cases dy with
      | bad d => exact ⟨_, d, fun q e => (by cases e; rw [hx]; rfl), fun s q e => by cases e⟩
      | @more _ r' s y' d hk d2 => exact ⟨_, d, fun q e => (by cases e), fun s q e => by
          cases e
          obtain ⟨c', hc', hne⟩ := d.suf
          have h1 : 0 < c'.length := List.length_pos_iff.2 (hne _ _ rfl)
          exact .inl ⟨hk, y', d2, by rw [hx, QR.pre_cons], by rw [hc', List.length_append]; show r'.length < _ + r'.length; omega⟩⟩
      | @last _ s d hk => exact ⟨_, d, fun q e => (by cases e), fun s q e => by cases e; exact .inr (.inl ⟨hk, rfl, by rw [hx]; rfl⟩)⟩
      | @over _ r' t s d hk => exact ⟨_, d, fun q e => (by cases e), fun s q e => by cases e; exact .inr (.inr ⟨hk, by simp, by rw [hx]; rfl⟩)⟩
    obtain ⟨z, dz, hz1', hz2'⟩ := key
    have HS := hide (statement_any (aY := aY) hp r z dz wr k1 P1 (unhide HG1))
    have HZ := hide (And.intro hz1' hz2')
    have HLS := hide (show ∀ s q, z = .ok s q → q.length < r.length from fun s q e => by subst e; exact dz.less)
    clear hX hx P1 dy hm hXr dz hz1' hz2'
    go_wp2_with fail
    refine (unhide HS).mono ?_
    intro rr w2 hr
    cases z with
    | bad q =>
      obtain ⟨⟨i1, i2, nm, v3, v4, b, rfl, h3, h4, RE⟩, T2⟩ := hr
      have HB := hide ((unhide HZ).1 q rfl)
      rcases h3 with rfl | ⟨t3, u3, rfl⟩ <;> rcases h4 with rfl | ⟨t4, u4, rfl⟩
      all_goals
        dsimp only [errP]
        go_wp2_with fail
        go_ret2
        rw [unhide HB]
        have hbz := fun o => (Below.refl w2.heap.size w2).alloc (Nat.le_refl _) o
        exact ⟨⟨b, rfl, Row.after RE (hbz _) (Nat.le_refl _)⟩, (T1.trans T2).allP (hbz _)⟩
    | ok s q =>
      obtain ⟨⟨o1, o2, k2, rfl, he1, he2, ow1, ow2, P2⟩, T2⟩ := hr
      have hZ := (unhide HZ).2 s q rfl
      have T12 := T1.trans T2
      have hown2 : w2.ownsRow w.heap.size 111 5 (.slice a X.length cx) X.length (sxC X) := owns_blocksN hown (fun q hq => T2.block q (hown.lt q hq).2 (.inr (by have := (hown.lt q hq).1; omega)))
      have HX2 := hide (SxsP.of (w' := w2) (fun v n xs ho q hq => T2.block q (ho.lt q hq).2 (.inr (ho.lt q hq).1)) X L (unhide HX))
      have HS2 := hide (show SxP (pb + 1) w2 ⟨(s.at_ : Int), s.kind, s.name, o1, o2⟩ s from ⟨rfl, rfl, rfl, he1, he2, ow1, ow2⟩)
      have HV := hide (show sxV ⟨(s.at_ : Int), s.kind, s.name, o1, o2⟩ = [.int .i64 (s.at_ : Int), .int .i64 s.kind, .string s.name, optX o1, optX o2] from rfl)
      have HP2 := hide P2
      have hX4 : X.length < 4000 := by have := (unhide Hm).2; have := unhide Hs; have := (unhide HLS) s q rfl; omega
      have hif1 := optX_if o1
      have hif2 := optX_if o2
      generalize optX o1 = v3 at hif1 HV
      generalize optX o2 = v4 at hif2 HV
      have hzz := T12.size
      clear he1 he2 ow1 ow2 P2 hown HZ HX HS
      rcases hif1 with rfl | ⟨t3, u3, rfl⟩ <;> rcases hif2 with rfl | ⟨t4, u4, rfl⟩
      · have hb3 := (Below.refl w2.heap.size w2).alloc (Nat.le_refl _) (.cells #[.int .i64 (s.at_ : Int), .int .i64 s.kind, .string s.name, .nilIface, .nilIface] 111)
        have hb4 := hb3.alloc hb3.size (.cells #[.int .i64 (s.at_ : Int), .int .i64 s.kind, .string s.name, .nilIface, .nilIface] 111)
        have hown4 := (hown2.alloc (.cells #[.int .i64 (s.at_ : Int), .int .i64 s.kind, .string s.name, .nilIface, .nilIface] 111)).alloc (.cells #[.int .i64 (s.at_ : Int), .int .i64 s.kind, .string s.name, .nilIface, .nilIface] 111)
        have RV := Row.new (w2.alloc (.cells #[.int .i64 (s.at_ : Int), .int .i64 s.kind, .string s.name, .nilIface, .nilIface] 111)) #[.int .i64 (s.at_ : Int), .int .i64 s.kind, .string s.name, .nilIface, .nilIface] 111
        simp only [World.size_alloc] at RV
        have RS := (Row.new w2 #[.int .i64 (s.at_ : Int), .int .i64 s.kind, .string s.name, .nilIface, .nilIface] 111).alloc (.cells #[.int .i64 (s.at_ : Int), .int .i64 s.kind, .string s.name, .nilIface, .nilIface] 111)
        dsimp only
        go_wp2_with (at_builtin; refine wpList_append_own _ rfl _ _ 76 rfl w.heap.size 111 i (.agg #[.int .i64 0, .int .i64 0, .string ByteArray.empty, .nilIface, .nilIface]) 5 64 Tryz.underlying76 hi hz0 hz1 hz2 rfl (by decide) _ _ _ rfl hown4 ⟨w2.heap.size + 1, 0, none⟩ 1 1 [.int .i64 (s.at_ : Int), .int .i64 s.kind, .string s.name, .nilIface, .nilIface] rfl rfl ?k0c1 ?k0c2 ?k0c3 ?k0c4 ?k0c5 ?_)
        case k0c1 => exact cells5 RV
        case k0c2 => intro u hu; simp at hu; rcases hu with rfl | rfl | rfl | rfl | rfl <;> rfl
        case k0c3 => unfold maxLen; omega
        case k0c4 => omega
        case k0c5 => simp; omega
        intro v' w5 hown' hgrow _
        have key5 : ∀ q, q < w2.heap.size + 2 → (Value.slice a X.length cx).ownBlock ≠ some q → w5.heap[q]? = ((w2.alloc (.cells #[.int .i64 (s.at_ : Int), .int .i64 s.kind, .string s.name, .nilIface, .nilIface] 111)).alloc (.cells #[.int .i64 (s.at_ : Int), .int .i64 s.kind, .string s.name, .nilIface, .nilIface] 111)).heap[q]? := fun q h1 h2 => hgrow.block q (by simp; omega) (fun e => h2 e.symm)
        have RS5 : Row w5 w2.heap.size #[.int .i64 (s.at_ : Int), .int .i64 s.kind, .string s.name, .nilIface, .nilIface] 111 := ⟨(key5 _ (by omega) (fun e => by have := (hown2.lt _ e).2; omega)).trans RS.out⟩
        have key6 : ∀ q, q < w2.heap.size → (Value.slice a X.length cx).ownBlock ≠ some q → w5.heap[q]? = w2.heap[q]? := fun q h1 h2 => (key5 q (by omega) h2).trans (hb4.block q h1)
        have P5 : Pp w5 pb g c T tl q k2 := ⟨⟨(key6 pb (unhide HP2).row.lt (own_ne_row (unhide HP2).row hown2 (by decide))).trans (unhide HP2).row.out⟩, owns_blocksN (unhide HP2).toks (fun q hq => key6 q ((unhide HP2).toks.lt q hq).2 (fun e => own_ne_ownN hown2 (unhide HP2).toks (by decide) q e hq)), (unhide HP2).drop, (unhide HP2).len, (unhide HP2).small⟩
        have hkx : ∀ (v : Value) (n : Nat) (xs : List Value), w2.ownsRow (pb + 1) 9 1 v n xs → ∀ q, v.ownBlock = some q → w5.heap[q]? = w2.heap[q]? := fun v n xs ho q hq => key6 q (ho.lt q hq).2 (fun e => own_ne_ownN hown2 ho (by decide) q e hq)
        have HX5 := hide (SxsP.of hkx X L (unhide HX2))
        have HS5 := hide (show SxP (pb + 1) w5 ⟨(s.at_ : Int), s.kind, s.name, o1, o2⟩ s from ⟨rfl, rfl, rfl, (unhide HS2).2.2.2.1, (unhide HS2).2.2.2.2.1, ownO_of hkx _ (unhide HS2).2.2.2.2.2.1, ownO_of hkx _ (unhide HS2).2.2.2.2.2.2⟩)
        have HXS := hide (SxsP.snoc (unhide HS5) X L (unhide HX5))
        have T5 : Touch pb (pb + 1) w w5 := by
          have t4 := T12.allP hb4
          exact ⟨hgrow.os.trans t4.os, hgrow.tape.trans t4.tape, hgrow.output.trans t4.output, Nat.le_trans t4.size hgrow.size, fun q h1 h2 => (hgrow.block q (Nat.lt_of_lt_of_le h1 t4.size) (fun e => by have := (hown2.lt q e.symm).1; omega)).trans (t4.block q h1 h2)⟩
        obtain ⟨x', cx', hf⟩ := owns_form2 hown'
        have HO5 : Hid (w5.ownsRow w.heap.size 111 5 (.slice x' (X.length + 1) cx') (X.length + 1) (sxC (X ++ [⟨(s.at_ : Int), s.kind, s.name, o1, o2⟩]))) := hide (by rw [sxC_snoc, unhide HV, ← hf.1]; exact hown')
        have hv' := hf.1
        subst hv'
        have r0 : w5.cell? ⟨w2.heap.size, 1, none⟩ = some (.int .i64 s.kind) := RS5.cell 1
        clear hgrow key5 key6 hkx hown' hf hown4 hb3 hb4 RV RS RS5 hown2 HX2 HS2 HX5 HS5
        rcases hZ with ⟨hk, y', dy', hx', hlq⟩ | ⟨hk, rfl, hx'⟩ | ⟨hk, hq, hx'⟩
        · have ek : (s.kind == 3) = false := beq_eq_false_iff_ne.2 hk
          have HN := hide (show PlN pb g c T tl x w q.length (.slice x' (X.length + 1) cx') w5 from ⟨X ++ [⟨(s.at_ : Int), s.kind, s.name, o1, o2⟩], L ++ [s], x', cx', q, k2, y', by simp, by rw [List.length_append]; exact unhide HO5, unhide HXS, P5, dy', hx', rfl, by have := (unhide Hm).2; simp; omega, T5⟩)
          have Hlq := hide (show q.length < m by have := (unhide Hm).1; omega)
          clear hk dy' hx' hlq P5 T5
          go_wp2_with fail
          go_roundw
          case rel => exact ⟨_, unhide HN⟩
          case measure => rw [unhide HME]; exact unhide HM _ _ _ (unhide Hlq) (unhide HN)
        · have ek : (s.kind == 3) = true := beq_iff_eq.2 hk
          have HXZ := hide hx'
          have hln := P5.len
          have s0 := P5.row.cell 0
          have s1 := P5.row.cell 1
          simp only [List.getElem?_toArray, List.getElem?_cons_zero, List.getElem?_cons_succ] at s0 s1
          clear hk hx'
          have hT4 := unhide Hs
          have ew : wrap64 (((T.length + 1 : Nat) : Int) - 1) = (T.length : Int) := by simp [wrap64]; omega
          have ilt : decide (k2 < T.length) = false := by rw [decide_eq_false_iff_not]; simp at hln; omega
          have inl : ¬ k2 < T.length := by simp at hln; omega
          clear hln
          go_wp2_with fail
          go_region
          all_goals
            go_wp2_with fail
            go_ret2
            rw [unhide HXZ]
            have bd := (Below.refl w5.heap.size w5).drew
            exact ⟨⟨X ++ [(⟨(s.at_ : Int), s.kind, s.name, o1, o2⟩ : Sx)], x', cx', by rw [List.length_append]; rfl, by rw [List.length_append]; exact owns_blocksN (unhide HO5) (fun q hq => rfl), SxsP.of (w := w5) (w' := w5.drew) (fun _ _ _ _ _ _ => rfl) _ _ (unhide HXS), by simp; omega⟩, T5.allP bd⟩
        · have ek : (s.kind == 3) = true := beq_iff_eq.2 hk
          have HXZ := hide hx'
          have hln := P5.len
          have s0 := P5.row.cell 0
          have s1 := P5.row.cell 1
          simp only [List.getElem?_toArray, List.getElem?_cons_zero, List.getElem?_cons_succ] at s0 s1
          have HST := hide (stuck_any (P5.drew) (((unhide HG).touch T5 hp).below (Below.refl w5.heap.size w5).drew))
          clear hk hx'
          have hT4 := unhide Hs
          have hq1 : 0 < q.length := List.length_pos_iff.2 hq
          have ew : wrap64 (((T.length + 1 : Nat) : Int) - 1) = (T.length : Int) := by simp [wrap64]; omega
          have ilt : decide (k2 < T.length) = true := by rw [decide_eq_true_eq]; omega
          have inl : k2 < T.length := by omega
          clear hln hq hq1
          go_wp2_with fail
          go_region
          all_goals
            go_wp2_with fail
            refine (unhide HST).mono ?_
            rintro e w6 ⟨b, rfl, RE, hb6⟩
            dsimp only [errP]
            go_wp2_with fail
            go_ret2
            rw [unhide HXZ]
            exact ⟨⟨b, rfl, RE⟩, (T5.allP (Below.refl w5.heap.size w5).drew).allP hb6⟩
      · have hb3 := (Below.refl w2.heap.size w2).alloc (Nat.le_refl _) (.cells #[.int .i64 (s.at_ : Int), .int .i64 s.kind, .string s.name, .nilIface, (.iface t4 u4)] 111)
        have hb4 := hb3.alloc hb3.size (.cells #[.int .i64 (s.at_ : Int), .int .i64 s.kind, .string s.name, .nilIface, (.iface t4 u4)] 111)
        have hown4 := (hown2.alloc (.cells #[.int .i64 (s.at_ : Int), .int .i64 s.kind, .string s.name, .nilIface, (.iface t4 u4)] 111)).alloc (.cells #[.int .i64 (s.at_ : Int), .int .i64 s.kind, .string s.name, .nilIface, (.iface t4 u4)] 111)
        have RV := Row.new (w2.alloc (.cells #[.int .i64 (s.at_ : Int), .int .i64 s.kind, .string s.name, .nilIface, (.iface t4 u4)] 111)) #[.int .i64 (s.at_ : Int), .int .i64 s.kind, .string s.name, .nilIface, (.iface t4 u4)] 111
        simp only [World.size_alloc] at RV
        have RS := (Row.new w2 #[.int .i64 (s.at_ : Int), .int .i64 s.kind, .string s.name, .nilIface, (.iface t4 u4)] 111).alloc (.cells #[.int .i64 (s.at_ : Int), .int .i64 s.kind, .string s.name, .nilIface, (.iface t4 u4)] 111)
        dsimp only
        go_wp2_with (at_builtin; refine wpList_append_own _ rfl _ _ 76 rfl w.heap.size 111 i (.agg #[.int .i64 0, .int .i64 0, .string ByteArray.empty, .nilIface, .nilIface]) 5 64 Tryz.underlying76 hi hz0 hz1 hz2 rfl (by decide) _ _ _ rfl hown4 ⟨w2.heap.size + 1, 0, none⟩ 1 1 [.int .i64 (s.at_ : Int), .int .i64 s.kind, .string s.name, .nilIface, (.iface t4 u4)] rfl rfl ?k1c1 ?k1c2 ?k1c3 ?k1c4 ?k1c5 ?_)
        case k1c1 => exact cells5 RV
        case k1c2 => intro u hu; simp at hu; rcases hu with rfl | rfl | rfl | rfl | rfl <;> rfl
        case k1c3 => unfold maxLen; omega
        case k1c4 => omega
        case k1c5 => simp; omega
        intro v' w5 hown' hgrow _
        have key5 : ∀ q, q < w2.heap.size + 2 → (Value.slice a X.length cx).ownBlock ≠ some q → w5.heap[q]? = ((w2.alloc (.cells #[.int .i64 (s.at_ : Int), .int .i64 s.kind, .string s.name, .nilIface, (.iface t4 u4)] 111)).alloc (.cells #[.int .i64 (s.at_ : Int), .int .i64 s.kind, .string s.name, .nilIface, (.iface t4 u4)] 111)).heap[q]? := fun q h1 h2 => hgrow.block q (by simp; omega) (fun e => h2 e.symm)
        have RS5 : Row w5 w2.heap.size #[.int .i64 (s.at_ : Int), .int .i64 s.kind, .string s.name, .nilIface, (.iface t4 u4)] 111 := ⟨(key5 _ (by omega) (fun e => by have := (hown2.lt _ e).2; omega)).trans RS.out⟩
        have key6 : ∀ q, q < w2.heap.size → (Value.slice a X.length cx).ownBlock ≠ some q → w5.heap[q]? = w2.heap[q]? := fun q h1 h2 => (key5 q (by omega) h2).trans (hb4.block q h1)
        have P5 : Pp w5 pb g c T tl q k2 := ⟨⟨(key6 pb (unhide HP2).row.lt (own_ne_row (unhide HP2).row hown2 (by decide))).trans (unhide HP2).row.out⟩, owns_blocksN (unhide HP2).toks (fun q hq => key6 q ((unhide HP2).toks.lt q hq).2 (fun e => own_ne_ownN hown2 (unhide HP2).toks (by decide) q e hq)), (unhide HP2).drop, (unhide HP2).len, (unhide HP2).small⟩
        have hkx : ∀ (v : Value) (n : Nat) (xs : List Value), w2.ownsRow (pb + 1) 9 1 v n xs → ∀ q, v.ownBlock = some q → w5.heap[q]? = w2.heap[q]? := fun v n xs ho q hq => key6 q (ho.lt q hq).2 (fun e => own_ne_ownN hown2 ho (by decide) q e hq)
        have HX5 := hide (SxsP.of hkx X L (unhide HX2))
        have HS5 := hide (show SxP (pb + 1) w5 ⟨(s.at_ : Int), s.kind, s.name, o1, o2⟩ s from ⟨rfl, rfl, rfl, (unhide HS2).2.2.2.1, (unhide HS2).2.2.2.2.1, ownO_of hkx _ (unhide HS2).2.2.2.2.2.1, ownO_of hkx _ (unhide HS2).2.2.2.2.2.2⟩)
        have HXS := hide (SxsP.snoc (unhide HS5) X L (unhide HX5))
        have T5 : Touch pb (pb + 1) w w5 := by
          have t4 := T12.allP hb4
          exact ⟨hgrow.os.trans t4.os, hgrow.tape.trans t4.tape, hgrow.output.trans t4.output, Nat.le_trans t4.size hgrow.size, fun q h1 h2 => (hgrow.block q (Nat.lt_of_lt_of_le h1 t4.size) (fun e => by have := (hown2.lt q e.symm).1; omega)).trans (t4.block q h1 h2)⟩
        obtain ⟨x', cx', hf⟩ := owns_form2 hown'
        have HO5 : Hid (w5.ownsRow w.heap.size 111 5 (.slice x' (X.length + 1) cx') (X.length + 1) (sxC (X ++ [⟨(s.at_ : Int), s.kind, s.name, o1, o2⟩]))) := hide (by rw [sxC_snoc, unhide HV, ← hf.1]; exact hown')
        have hv' := hf.1
        subst hv'
        have r0 : w5.cell? ⟨w2.heap.size, 1, none⟩ = some (.int .i64 s.kind) := RS5.cell 1
        clear hgrow key5 key6 hkx hown' hf hown4 hb3 hb4 RV RS RS5 hown2 HX2 HS2 HX5 HS5
        rcases hZ with ⟨hk, y', dy', hx', hlq⟩ | ⟨hk, rfl, hx'⟩ | ⟨hk, hq, hx'⟩
        · have ek : (s.kind == 3) = false := beq_eq_false_iff_ne.2 hk
          have HN := hide (show PlN pb g c T tl x w q.length (.slice x' (X.length + 1) cx') w5 from ⟨X ++ [⟨(s.at_ : Int), s.kind, s.name, o1, o2⟩], L ++ [s], x', cx', q, k2, y', by simp, by rw [List.length_append]; exact unhide HO5, unhide HXS, P5, dy', hx', rfl, by have := (unhide Hm).2; simp; omega, T5⟩)
          have Hlq := hide (show q.length < m by have := (unhide Hm).1; omega)
          clear hk dy' hx' hlq P5 T5
          go_wp2_with fail
          go_roundw
          case rel => exact ⟨_, unhide HN⟩
          case measure => rw [unhide HME]; exact unhide HM _ _ _ (unhide Hlq) (unhide HN)
        · have ek : (s.kind == 3) = true := beq_iff_eq.2 hk
          have HXZ := hide hx'
          have hln := P5.len
          have s0 := P5.row.cell 0
          have s1 := P5.row.cell 1
          simp only [List.getElem?_toArray, List.getElem?_cons_zero, List.getElem?_cons_succ] at s0 s1
          clear hk hx'
          have hT4 := unhide Hs
          have ew : wrap64 (((T.length + 1 : Nat) : Int) - 1) = (T.length : Int) := by simp [wrap64]; omega
          have ilt : decide (k2 < T.length) = false := by rw [decide_eq_false_iff_not]; simp at hln; omega
          have inl : ¬ k2 < T.length := by simp at hln; omega
          clear hln
          go_wp2_with fail
          go_region
          all_goals
            go_wp2_with fail
            go_ret2
            rw [unhide HXZ]
            have bd := (Below.refl w5.heap.size w5).drew
            exact ⟨⟨X ++ [(⟨(s.at_ : Int), s.kind, s.name, o1, o2⟩ : Sx)], x', cx', by rw [List.length_append]; rfl, by rw [List.length_append]; exact owns_blocksN (unhide HO5) (fun q hq => rfl), SxsP.of (w := w5) (w' := w5.drew) (fun _ _ _ _ _ _ => rfl) _ _ (unhide HXS), by simp; omega⟩, T5.allP bd⟩
        · have ek : (s.kind == 3) = true := beq_iff_eq.2 hk
          have HXZ := hide hx'
          have hln := P5.len
          have s0 := P5.row.cell 0
          have s1 := P5.row.cell 1
          simp only [List.getElem?_toArray, List.getElem?_cons_zero, List.getElem?_cons_succ] at s0 s1
          have HST := hide (stuck_any (P5.drew) (((unhide HG).touch T5 hp).below (Below.refl w5.heap.size w5).drew))
          clear hk hx'
          have hT4 := unhide Hs
          have hq1 : 0 < q.length := List.length_pos_iff.2 hq
          have ew : wrap64 (((T.length + 1 : Nat) : Int) - 1) = (T.length : Int) := by simp [wrap64]; omega
          have ilt : decide (k2 < T.length) = true := by rw [decide_eq_true_eq]; omega
          have inl : k2 < T.length := by omega
          clear hln hq hq1
          go_wp2_with fail
          go_region
          all_goals
            go_wp2_with fail
            refine (unhide HST).mono ?_
            rintro e w6 ⟨b, rfl, RE, hb6⟩
            dsimp only [errP]
            go_wp2_with fail
            go_ret2
            rw [unhide HXZ]
            exact ⟨⟨b, rfl, RE⟩, (T5.allP (Below.refl w5.heap.size w5).drew).allP hb6⟩
      · have hb3 := (Below.refl w2.heap.size w2).alloc (Nat.le_refl _) (.cells #[.int .i64 (s.at_ : Int), .int .i64 s.kind, .string s.name, (.iface t3 u3), .nilIface] 111)
        have hb4 := hb3.alloc hb3.size (.cells #[.int .i64 (s.at_ : Int), .int .i64 s.kind, .string s.name, (.iface t3 u3), .nilIface] 111)
        have hown4 := (hown2.alloc (.cells #[.int .i64 (s.at_ : Int), .int .i64 s.kind, .string s.name, (.iface t3 u3), .nilIface] 111)).alloc (.cells #[.int .i64 (s.at_ : Int), .int .i64 s.kind, .string s.name, (.iface t3 u3), .nilIface] 111)
        have RV := Row.new (w2.alloc (.cells #[.int .i64 (s.at_ : Int), .int .i64 s.kind, .string s.name, (.iface t3 u3), .nilIface] 111)) #[.int .i64 (s.at_ : Int), .int .i64 s.kind, .string s.name, (.iface t3 u3), .nilIface] 111
        simp only [World.size_alloc] at RV
        have RS := (Row.new w2 #[.int .i64 (s.at_ : Int), .int .i64 s.kind, .string s.name, (.iface t3 u3), .nilIface] 111).alloc (.cells #[.int .i64 (s.at_ : Int), .int .i64 s.kind, .string s.name, (.iface t3 u3), .nilIface] 111)
        dsimp only
        go_wp2_with (at_builtin; refine wpList_append_own _ rfl _ _ 76 rfl w.heap.size 111 i (.agg #[.int .i64 0, .int .i64 0, .string ByteArray.empty, .nilIface, .nilIface]) 5 64 Tryz.underlying76 hi hz0 hz1 hz2 rfl (by decide) _ _ _ rfl hown4 ⟨w2.heap.size + 1, 0, none⟩ 1 1 [.int .i64 (s.at_ : Int), .int .i64 s.kind, .string s.name, (.iface t3 u3), .nilIface] rfl rfl ?k2c1 ?k2c2 ?k2c3 ?k2c4 ?k2c5 ?_)
        case k2c1 => exact cells5 RV
        case k2c2 => intro u hu; simp at hu; rcases hu with rfl | rfl | rfl | rfl | rfl <;> rfl
        case k2c3 => unfold maxLen; omega
        case k2c4 => omega
        case k2c5 => simp; omega
        intro v' w5 hown' hgrow _
        have key5 : ∀ q, q < w2.heap.size + 2 → (Value.slice a X.length cx).ownBlock ≠ some q → w5.heap[q]? = ((w2.alloc (.cells #[.int .i64 (s.at_ : Int), .int .i64 s.kind, .string s.name, (.iface t3 u3), .nilIface] 111)).alloc (.cells #[.int .i64 (s.at_ : Int), .int .i64 s.kind, .string s.name, (.iface t3 u3), .nilIface] 111)).heap[q]? := fun q h1 h2 => hgrow.block q (by simp; omega) (fun e => h2 e.symm)
        have RS5 : Row w5 w2.heap.size #[.int .i64 (s.at_ : Int), .int .i64 s.kind, .string s.name, (.iface t3 u3), .nilIface] 111 := ⟨(key5 _ (by omega) (fun e => by have := (hown2.lt _ e).2; omega)).trans RS.out⟩
        have key6 : ∀ q, q < w2.heap.size → (Value.slice a X.length cx).ownBlock ≠ some q → w5.heap[q]? = w2.heap[q]? := fun q h1 h2 => (key5 q (by omega) h2).trans (hb4.block q h1)
        have P5 : Pp w5 pb g c T tl q k2 := ⟨⟨(key6 pb (unhide HP2).row.lt (own_ne_row (unhide HP2).row hown2 (by decide))).trans (unhide HP2).row.out⟩, owns_blocksN (unhide HP2).toks (fun q hq => key6 q ((unhide HP2).toks.lt q hq).2 (fun e => own_ne_ownN hown2 (unhide HP2).toks (by decide) q e hq)), (unhide HP2).drop, (unhide HP2).len, (unhide HP2).small⟩
        have hkx : ∀ (v : Value) (n : Nat) (xs : List Value), w2.ownsRow (pb + 1) 9 1 v n xs → ∀ q, v.ownBlock = some q → w5.heap[q]? = w2.heap[q]? := fun v n xs ho q hq => key6 q (ho.lt q hq).2 (fun e => own_ne_ownN hown2 ho (by decide) q e hq)
        have HX5 := hide (SxsP.of hkx X L (unhide HX2))
        have HS5 := hide (show SxP (pb + 1) w5 ⟨(s.at_ : Int), s.kind, s.name, o1, o2⟩ s from ⟨rfl, rfl, rfl, (unhide HS2).2.2.2.1, (unhide HS2).2.2.2.2.1, ownO_of hkx _ (unhide HS2).2.2.2.2.2.1, ownO_of hkx _ (unhide HS2).2.2.2.2.2.2⟩)
        have HXS := hide (SxsP.snoc (unhide HS5) X L (unhide HX5))
        have T5 : Touch pb (pb + 1) w w5 := by
          have t4 := T12.allP hb4
          exact ⟨hgrow.os.trans t4.os, hgrow.tape.trans t4.tape, hgrow.output.trans t4.output, Nat.le_trans t4.size hgrow.size, fun q h1 h2 => (hgrow.block q (Nat.lt_of_lt_of_le h1 t4.size) (fun e => by have := (hown2.lt q e.symm).1; omega)).trans (t4.block q h1 h2)⟩
        obtain ⟨x', cx', hf⟩ := owns_form2 hown'
        have HO5 : Hid (w5.ownsRow w.heap.size 111 5 (.slice x' (X.length + 1) cx') (X.length + 1) (sxC (X ++ [⟨(s.at_ : Int), s.kind, s.name, o1, o2⟩]))) := hide (by rw [sxC_snoc, unhide HV, ← hf.1]; exact hown')
        have hv' := hf.1
        subst hv'
        have r0 : w5.cell? ⟨w2.heap.size, 1, none⟩ = some (.int .i64 s.kind) := RS5.cell 1
        clear hgrow key5 key6 hkx hown' hf hown4 hb3 hb4 RV RS RS5 hown2 HX2 HS2 HX5 HS5
        rcases hZ with ⟨hk, y', dy', hx', hlq⟩ | ⟨hk, rfl, hx'⟩ | ⟨hk, hq, hx'⟩
        · have ek : (s.kind == 3) = false := beq_eq_false_iff_ne.2 hk
          have HN := hide (show PlN pb g c T tl x w q.length (.slice x' (X.length + 1) cx') w5 from ⟨X ++ [⟨(s.at_ : Int), s.kind, s.name, o1, o2⟩], L ++ [s], x', cx', q, k2, y', by simp, by rw [List.length_append]; exact unhide HO5, unhide HXS, P5, dy', hx', rfl, by have := (unhide Hm).2; simp; omega, T5⟩)
          have Hlq := hide (show q.length < m by have := (unhide Hm).1; omega)
          clear hk dy' hx' hlq P5 T5
          go_wp2_with fail
          go_roundw
          case rel => exact ⟨_, unhide HN⟩
          case measure => rw [unhide HME]; exact unhide HM _ _ _ (unhide Hlq) (unhide HN)
        · have ek : (s.kind == 3) = true := beq_iff_eq.2 hk
          have HXZ := hide hx'
          have hln := P5.len
          have s0 := P5.row.cell 0
          have s1 := P5.row.cell 1
          simp only [List.getElem?_toArray, List.getElem?_cons_zero, List.getElem?_cons_succ] at s0 s1
          clear hk hx'
          have hT4 := unhide Hs
          have ew : wrap64 (((T.length + 1 : Nat) : Int) - 1) = (T.length : Int) := by simp [wrap64]; omega
          have ilt : decide (k2 < T.length) = false := by rw [decide_eq_false_iff_not]; simp at hln; omega
          have inl : ¬ k2 < T.length := by simp at hln; omega
          clear hln
          go_wp2_with fail
          go_region
          all_goals
            go_wp2_with fail
            go_ret2
            rw [unhide HXZ]
            have bd := (Below.refl w5.heap.size w5).drew
            exact ⟨⟨X ++ [(⟨(s.at_ : Int), s.kind, s.name, o1, o2⟩ : Sx)], x', cx', by rw [List.length_append]; rfl, by rw [List.length_append]; exact owns_blocksN (unhide HO5) (fun q hq => rfl), SxsP.of (w := w5) (w' := w5.drew) (fun _ _ _ _ _ _ => rfl) _ _ (unhide HXS), by simp; omega⟩, T5.allP bd⟩
        · have ek : (s.kind == 3) = true := beq_iff_eq.2 hk
          have HXZ := hide hx'
          have hln := P5.len
          have s0 := P5.row.cell 0
          have s1 := P5.row.cell 1
          simp only [List.getElem?_toArray, List.getElem?_cons_zero, List.getElem?_cons_succ] at s0 s1
          have HST := hide (stuck_any (P5.drew) (((unhide HG).touch T5 hp).below (Below.refl w5.heap.size w5).drew))
          clear hk hx'
          have hT4 := unhide Hs
          have hq1 : 0 < q.length := List.length_pos_iff.2 hq
          have ew : wrap64 (((T.length + 1 : Nat) : Int) - 1) = (T.length : Int) := by simp [wrap64]; omega
          have ilt : decide (k2 < T.length) = true := by rw [decide_eq_true_eq]; omega
          have inl : k2 < T.length := by omega
          clear hln hq hq1
          go_wp2_with fail
          go_region
          all_goals
            go_wp2_with fail
            refine (unhide HST).mono ?_
            rintro e w6 ⟨b, rfl, RE, hb6⟩
            dsimp only [errP]
            go_wp2_with fail
            go_ret2
            rw [unhide HXZ]
            exact ⟨⟨b, rfl, RE⟩, (T5.allP (Below.refl w5.heap.size w5).drew).allP hb6⟩
      · have hb3 := (Below.refl w2.heap.size w2).alloc (Nat.le_refl _) (.cells #[.int .i64 (s.at_ : Int), .int .i64 s.kind, .string s.name, (.iface t3 u3), (.iface t4 u4)] 111)
        have hb4 := hb3.alloc hb3.size (.cells #[.int .i64 (s.at_ : Int), .int .i64 s.kind, .string s.name, (.iface t3 u3), (.iface t4 u4)] 111)
        have hown4 := (hown2.alloc (.cells #[.int .i64 (s.at_ : Int), .int .i64 s.kind, .string s.name, (.iface t3 u3), (.iface t4 u4)] 111)).alloc (.cells #[.int .i64 (s.at_ : Int), .int .i64 s.kind, .string s.name, (.iface t3 u3), (.iface t4 u4)] 111)
        have RV := Row.new (w2.alloc (.cells #[.int .i64 (s.at_ : Int), .int .i64 s.kind, .string s.name, (.iface t3 u3), (.iface t4 u4)] 111)) #[.int .i64 (s.at_ : Int), .int .i64 s.kind, .string s.name, (.iface t3 u3), (.iface t4 u4)] 111
        simp only [World.size_alloc] at RV
        have RS := (Row.new w2 #[.int .i64 (s.at_ : Int), .int .i64 s.kind, .string s.name, (.iface t3 u3), (.iface t4 u4)] 111).alloc (.cells #[.int .i64 (s.at_ : Int), .int .i64 s.kind, .string s.name, (.iface t3 u3), (.iface t4 u4)] 111)
        dsimp only
        go_wp2_with (at_builtin; refine wpList_append_own _ rfl _ _ 76 rfl w.heap.size 111 i (.agg #[.int .i64 0, .int .i64 0, .string ByteArray.empty, .nilIface, .nilIface]) 5 64 Tryz.underlying76 hi hz0 hz1 hz2 rfl (by decide) _ _ _ rfl hown4 ⟨w2.heap.size + 1, 0, none⟩ 1 1 [.int .i64 (s.at_ : Int), .int .i64 s.kind, .string s.name, (.iface t3 u3), (.iface t4 u4)] rfl rfl ?k3c1 ?k3c2 ?k3c3 ?k3c4 ?k3c5 ?_)
        case k3c1 => exact cells5 RV
        case k3c2 => intro u hu; simp at hu; rcases hu with rfl | rfl | rfl | rfl | rfl <;> rfl
        case k3c3 => unfold maxLen; omega
        case k3c4 => omega
        case k3c5 => simp; omega
        intro v' w5 hown' hgrow _
        have key5 : ∀ q, q < w2.heap.size + 2 → (Value.slice a X.length cx).ownBlock ≠ some q → w5.heap[q]? = ((w2.alloc (.cells #[.int .i64 (s.at_ : Int), .int .i64 s.kind, .string s.name, (.iface t3 u3), (.iface t4 u4)] 111)).alloc (.cells #[.int .i64 (s.at_ : Int), .int .i64 s.kind, .string s.name, (.iface t3 u3), (.iface t4 u4)] 111)).heap[q]? := fun q h1 h2 => hgrow.block q (by simp; omega) (fun e => h2 e.symm)
        have RS5 : Row w5 w2.heap.size #[.int .i64 (s.at_ : Int), .int .i64 s.kind, .string s.name, (.iface t3 u3), (.iface t4 u4)] 111 := ⟨(key5 _ (by omega) (fun e => by have := (hown2.lt _ e).2; omega)).trans RS.out⟩
        have key6 : ∀ q, q < w2.heap.size → (Value.slice a X.length cx).ownBlock ≠ some q → w5.heap[q]? = w2.heap[q]? := fun q h1 h2 => (key5 q (by omega) h2).trans (hb4.block q h1)
        have P5 : Pp w5 pb g c T tl q k2 := ⟨⟨(key6 pb (unhide HP2).row.lt (own_ne_row (unhide HP2).row hown2 (by decide))).trans (unhide HP2).row.out⟩, owns_blocksN (unhide HP2).toks (fun q hq => key6 q ((unhide HP2).toks.lt q hq).2 (fun e => own_ne_ownN hown2 (unhide HP2).toks (by decide) q e hq)), (unhide HP2).drop, (unhide HP2).len, (unhide HP2).small⟩
        have hkx : ∀ (v : Value) (n : Nat) (xs : List Value), w2.ownsRow (pb + 1) 9 1 v n xs → ∀ q, v.ownBlock = some q → w5.heap[q]? = w2.heap[q]? := fun v n xs ho q hq => key6 q (ho.lt q hq).2 (fun e => own_ne_ownN hown2 ho (by decide) q e hq)
        have HX5 := hide (SxsP.of hkx X L (unhide HX2))
        have HS5 := hide (show SxP (pb + 1) w5 ⟨(s.at_ : Int), s.kind, s.name, o1, o2⟩ s from ⟨rfl, rfl, rfl, (unhide HS2).2.2.2.1, (unhide HS2).2.2.2.2.1, ownO_of hkx _ (unhide HS2).2.2.2.2.2.1, ownO_of hkx _ (unhide HS2).2.2.2.2.2.2⟩)
        have HXS := hide (SxsP.snoc (unhide HS5) X L (unhide HX5))
        have T5 : Touch pb (pb + 1) w w5 := by
          have t4 := T12.allP hb4
          exact ⟨hgrow.os.trans t4.os, hgrow.tape.trans t4.tape, hgrow.output.trans t4.output, Nat.le_trans t4.size hgrow.size, fun q h1 h2 => (hgrow.block q (Nat.lt_of_lt_of_le h1 t4.size) (fun e => by have := (hown2.lt q e.symm).1; omega)).trans (t4.block q h1 h2)⟩
        obtain ⟨x', cx', hf⟩ := owns_form2 hown'
        have HO5 : Hid (w5.ownsRow w.heap.size 111 5 (.slice x' (X.length + 1) cx') (X.length + 1) (sxC (X ++ [⟨(s.at_ : Int), s.kind, s.name, o1, o2⟩]))) := hide (by rw [sxC_snoc, unhide HV, ← hf.1]; exact hown')
        have hv' := hf.1
        subst hv'
        have r0 : w5.cell? ⟨w2.heap.size, 1, none⟩ = some (.int .i64 s.kind) := RS5.cell 1
        clear hgrow key5 key6 hkx hown' hf hown4 hb3 hb4 RV RS RS5 hown2 HX2 HS2 HX5 HS5
        rcases hZ with ⟨hk, y', dy', hx', hlq⟩ | ⟨hk, rfl, hx'⟩ | ⟨hk, hq, hx'⟩
        · have ek : (s.kind == 3) = false := beq_eq_false_iff_ne.2 hk
          have HN := hide (show PlN pb g c T tl x w q.length (.slice x' (X.length + 1) cx') w5 from ⟨X ++ [⟨(s.at_ : Int), s.kind, s.name, o1, o2⟩], L ++ [s], x', cx', q, k2, y', by simp, by rw [List.length_append]; exact unhide HO5, unhide HXS, P5, dy', hx', rfl, by have := (unhide Hm).2; simp; omega, T5⟩)
          have Hlq := hide (show q.length < m by have := (unhide Hm).1; omega)
          clear hk dy' hx' hlq P5 T5
          go_wp2_with fail
          go_roundw
          case rel => exact ⟨_, unhide HN⟩
          case measure => rw [unhide HME]; exact unhide HM _ _ _ (unhide Hlq) (unhide HN)
        · have ek : (s.kind == 3) = true := beq_iff_eq.2 hk
          have HXZ := hide hx'
          have hln := P5.len
          have s0 := P5.row.cell 0
          have s1 := P5.row.cell 1
          simp only [List.getElem?_toArray, List.getElem?_cons_zero, List.getElem?_cons_succ] at s0 s1
          clear hk hx'
          have hT4 := unhide Hs
          have ew : wrap64 (((T.length + 1 : Nat) : Int) - 1) = (T.length : Int) := by simp [wrap64]; omega
          have ilt : decide (k2 < T.length) = false := by rw [decide_eq_false_iff_not]; simp at hln; omega
          have inl : ¬ k2 < T.length := by simp at hln; omega
          clear hln
          go_wp2_with fail
          go_region
          all_goals
            go_wp2_with fail
            go_ret2
            rw [unhide HXZ]
            have bd := (Below.refl w5.heap.size w5).drew
            exact ⟨⟨X ++ [(⟨(s.at_ : Int), s.kind, s.name, o1, o2⟩ : Sx)], x', cx', by rw [List.length_append]; rfl, by rw [List.length_append]; exact owns_blocksN (unhide HO5) (fun q hq => rfl), SxsP.of (w := w5) (w' := w5.drew) (fun _ _ _ _ _ _ => rfl) _ _ (unhide HXS), by simp; omega⟩, T5.allP bd⟩
        · have ek : (s.kind == 3) = true := beq_iff_eq.2 hk
          have HXZ := hide hx'
          have hln := P5.len
          have s0 := P5.row.cell 0
          have s1 := P5.row.cell 1
          simp only [List.getElem?_toArray, List.getElem?_cons_zero, List.getElem?_cons_succ] at s0 s1
          have HST := hide (stuck_any (P5.drew) (((unhide HG).touch T5 hp).below (Below.refl w5.heap.size w5).drew))
          clear hk hx'
          have hT4 := unhide Hs
          have hq1 : 0 < q.length := List.length_pos_iff.2 hq
          have ew : wrap64 (((T.length + 1 : Nat) : Int) - 1) = (T.length : Int) := by simp [wrap64]; omega
          have ilt : decide (k2 < T.length) = true := by rw [decide_eq_true_eq]; omega
          have inl : k2 < T.length := by omega
          clear hln hq hq1
          go_wp2_with fail
          go_region
          all_goals
            go_wp2_with fail
            refine (unhide HST).mono ?_
            rintro e w6 ⟨b, rfl, RE, hb6⟩
            dsimp only [errP]
            go_wp2_with fail
            go_ret2
            rw [unhide HXZ]
            exact ⟨⟨b, rfl, RE⟩, (T5.allP (Below.refl w5.heap.size w5).drew).allP hb6⟩

end Go.Proofs.YtcehablmloleaaaGreatDoor
