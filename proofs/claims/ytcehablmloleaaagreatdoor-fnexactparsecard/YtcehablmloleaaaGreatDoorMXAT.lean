/-
  GJ, GR, GO, GS. Own work.
-/
import Derived.Test.YtcehablmloleaaaGreatDoorMXAP
import Derived.Test.YtcehablmloleaaaGreatDoorMXAS
namespace Go.Proofs.YtcehablmloleaaaGreatDoor
open Go.RowKit
set_option linter.unusedVariables false
variable {aY : Addr} {pb g c : Nat} {T : List Tok} {tl : Nat}

set_option maxHeartbeats 1600000 in
theorem opd_step (k : Nat) (ts : List Tok) (x : PR) (d : D (.opd k) ts x) (IH : ∀ nt x, D nt ts x → nt.good → nt.rank < (NT.opd k).rank → CS aY pb g c T tl nt ts x) : CS aY pb g c T tl (.opd k) ts x := by
  intro w kk h hg
  show Calls Tryz.prog 117 #[.pointer (some ⟨pb, 0, none⟩), .int .i64 (k : Int)] w (PrA aY pb g c T tl x w)
  cases d
  case opd1 d =>
    have HS := hide (IH _ _ d (.inr (.inl rfl)) (by decide) w kk h hg)
    clear h hg IH
    go_enter Tryz.func117, Tryz.ntmps117
    go_wp2_with fail
    refine (unhide HS).mono ?_
    intro r w1 hr
    obtain ⟨v, e, rfl, hv, he⟩ := hr.form
    have HR := hide hr
    clear hr
    dsimp only
    go_wp2_with fail
    go_ret2
    exact unhide HR
  case opd2 d =>
    have HS := hide (IH _ _ d trivial (by decide) w kk h hg)
    clear h hg IH
    go_enter Tryz.func117, Tryz.ntmps117
    go_wp2_with fail
    refine (unhide HS).mono ?_
    intro r w1 hr
    obtain ⟨v, e, rfl, hv, he⟩ := hr.form
    have HR := hide hr
    clear hr
    dsimp only
    go_wp2_with fail
    go_ret2
    exact unhide HR
  case opd4 d =>
    have HS := hide (IH _ _ d (.inr (.inr (.inl rfl))) (by decide) w kk h hg)
    clear h hg IH
    go_enter Tryz.func117, Tryz.ntmps117
    go_wp2_with fail
    refine (unhide HS).mono ?_
    intro r w1 hr
    obtain ⟨v, e, rfl, hv, he⟩ := hr.form
    have HR := hide hr
    clear hr
    dsimp only
    go_wp2_with fail
    go_ret2
    exact unhide HR
  case opd5 d =>
    have HS := hide (IH _ _ d (.inr (.inr (.inr rfl))) (by decide) w kk h hg)
    clear h hg IH
    go_enter Tryz.func117, Tryz.ntmps117
    go_wp2_with fail
    refine (unhide HS).mono ?_
    intro r w1 hr
    obtain ⟨v, e, rfl, hv, he⟩ := hr.form
    have HR := hide hr
    clear hr
    dsimp only
    go_wp2_with fail
    go_ret2
    exact unhide HR
  case opd6 d =>
    have HS := hide (IH _ _ d trivial (by decide) w kk h hg)
    clear h hg IH
    go_enter Tryz.func117, Tryz.ntmps117
    go_wp2_with fail
    refine (unhide HS).mono ?_
    intro r w1 hr
    obtain ⟨v, e, rfl, hv, he⟩ := hr.form
    have HR := hide hr
    clear hr
    dsimp only
    go_wp2_with fail
    go_ret2
    exact unhide HR

def PR.pre (i : Nat) (op : Int) : PR → PR
  | .ok e q => .ok (.un i op e) q
  | .bad q => .bad q

set_option maxRecDepth 100000 in
set_option maxHeartbeats 1600000 in
theorem prefixed_neg (hp : 17 ≤ pb) (op : Int) (t : Tok) (r : List Tok) (x : PR) (w : World) (k : Nat) (h : Pp w pb g c T tl (t :: r) k) (hg : Gy w aY) (IH : CS aY pb g c T tl .neg r x) :
    Calls Tryz.prog 124 #[.pointer (some ⟨pb, 0, none⟩), .int .i64 op, .func (.func 121) #[.pointer (some ⟨pb, 0, none⟩)] #[]] w (PrA aY pb g c T tl (x.pre t.at_ op) w) := by
  have HT := hide (take_any h)
  have HI : Hid (∀ w' k', Pp w' pb g c T tl r k' → Gy w' aY → Calls Tryz.prog 121 #[.pointer (some ⟨pb, 0, none⟩)] w' (PrA aY pb g c T tl x w')) := hide (fun w' k' h' => IH w' k' h')
  have HG := hide hg
  have fa := field_at (.int .i64 t.kind) (.int .i64 t.num) (.string t.text) (.int .i64 (t.at_ : Int))
  clear h hg IH
  go_enter Tryz.func124, Tryz.ntmps124
  go_wp2_with fail
  refine (unhide HT).mono ?_
  rintro e w1 ⟨rfl, P1, T1⟩
  dsimp only [tokV]
  go_wp2_with fail
  refine (unhide HI w1 _ P1 ((unhide HG).touch T1 hp)).mono ?_
  clear P1
  intro rr w2 hr
  cases x with
  | bad q =>
    obtain ⟨⟨v, b, rfl, hv, R2⟩, T2⟩ := hr
    rcases hv with rfl | ⟨tv, uv, rfl⟩
    all_goals
      dsimp only [errP]
      go_wp2_with fail
      go_ret2
      exact ⟨⟨.nilIface, b, rfl, .inl rfl, R2⟩, T1.trans T2⟩
  | ok p q =>
    obtain ⟨⟨e, k2, rfl, he, ho, P2⟩, T2⟩ := hr
    obtain ⟨te, ue, hf⟩ := e.form
    have HO := hide (And.intro he ho)
    rw [hf]
    have HF := hide hf
    clear he ho hf
    dsimp only
    go_wp2_with fail
    go_ret2
    exact ⟨⟨.un t.at_ op e, k2, by rw [Ex.val, unhide HF]; rfl, ⟨rfl, rfl, (unhide HO).1⟩, (unhide HO).2, P2⟩, T1.trans T2⟩

set_option maxRecDepth 100000 in
set_option maxHeartbeats 1600000 in
theorem prefixed_una (hp : 17 ≤ pb) (op : Int) (t : Tok) (r : List Tok) (x : PR) (w : World) (k : Nat) (h : Pp w pb g c T tl (t :: r) k) (hg : Gy w aY) (IH : CS aY pb g c T tl .una r x) :
    Calls Tryz.prog 124 #[.pointer (some ⟨pb, 0, none⟩), .int .i64 op, .func (.func 122) #[.pointer (some ⟨pb, 0, none⟩)] #[]] w (PrA aY pb g c T tl (x.pre t.at_ op) w) := by
  have HT := hide (take_any h)
  have HI : Hid (∀ w' k', Pp w' pb g c T tl r k' → Gy w' aY → Calls Tryz.prog 122 #[.pointer (some ⟨pb, 0, none⟩)] w' (PrA aY pb g c T tl x w')) := hide (fun w' k' h' => IH w' k' h')
  have HG := hide hg
  have fa := field_at (.int .i64 t.kind) (.int .i64 t.num) (.string t.text) (.int .i64 (t.at_ : Int))
  clear h hg IH
  go_enter Tryz.func124, Tryz.ntmps124
  go_wp2_with fail
  refine (unhide HT).mono ?_
  rintro e w1 ⟨rfl, P1, T1⟩
  dsimp only [tokV]
  go_wp2_with fail
  refine (unhide HI w1 _ P1 ((unhide HG).touch T1 hp)).mono ?_
  clear P1
  intro rr w2 hr
  cases x with
  | bad q =>
    obtain ⟨⟨v, b, rfl, hv, R2⟩, T2⟩ := hr
    rcases hv with rfl | ⟨tv, uv, rfl⟩
    all_goals
      dsimp only [errP]
      go_wp2_with fail
      go_ret2
      exact ⟨⟨.nilIface, b, rfl, .inl rfl, R2⟩, T1.trans T2⟩
  | ok p q =>
    obtain ⟨⟨e, k2, rfl, he, ho, P2⟩, T2⟩ := hr
    obtain ⟨te, ue, hf⟩ := e.form
    have HO := hide (And.intro he ho)
    rw [hf]
    have HF := hide hf
    clear he ho hf
    dsimp only
    go_wp2_with fail
    go_ret2
    exact ⟨⟨.un t.at_ op e, k2, by rw [Ex.val, unhide HF]; rfl, ⟨rfl, rfl, (unhide HO).1⟩, (unhide HO).2, P2⟩, T1.trans T2⟩

set_option maxRecDepth 100000 in
set_option maxHeartbeats 1600000 in
theorem prefixed_encl (hp : 17 ≤ pb) (op : Int) (t : Tok) (r : List Tok) (x : PR) (w : World) (k : Nat) (h : Pp w pb g c T tl (t :: r) k) (hg : Gy w aY) (IH : CS aY pb g c T tl .encl r x) :
    Calls Tryz.prog 124 #[.pointer (some ⟨pb, 0, none⟩), .int .i64 op, .func (.func 131) #[.pointer (some ⟨pb, 0, none⟩)] #[]] w (PrA aY pb g c T tl (x.pre t.at_ op) w) := by
  have HT := hide (take_any h)
  have HI : Hid (∀ w' k', Pp w' pb g c T tl r k' → Gy w' aY → Calls Tryz.prog 131 #[.pointer (some ⟨pb, 0, none⟩)] w' (PrA aY pb g c T tl x w')) := hide (fun w' k' h' => IH w' k' h')
  have HG := hide hg
  have fa := field_at (.int .i64 t.kind) (.int .i64 t.num) (.string t.text) (.int .i64 (t.at_ : Int))
  clear h hg IH
  go_enter Tryz.func124, Tryz.ntmps124
  go_wp2_with fail
  refine (unhide HT).mono ?_
  rintro e w1 ⟨rfl, P1, T1⟩
  dsimp only [tokV]
  go_wp2_with fail
  refine (unhide HI w1 _ P1 ((unhide HG).touch T1 hp)).mono ?_
  clear P1
  intro rr w2 hr
  cases x with
  | bad q =>
    obtain ⟨⟨v, b, rfl, hv, R2⟩, T2⟩ := hr
    rcases hv with rfl | ⟨tv, uv, rfl⟩
    all_goals
      dsimp only [errP]
      go_wp2_with fail
      go_ret2
      exact ⟨⟨.nilIface, b, rfl, .inl rfl, R2⟩, T1.trans T2⟩
  | ok p q =>
    obtain ⟨⟨e, k2, rfl, he, ho, P2⟩, T2⟩ := hr
    obtain ⟨te, ue, hf⟩ := e.form
    have HO := hide (And.intro he ho)
    rw [hf]
    have HF := hide hf
    clear he ho hf
    dsimp only
    go_wp2_with fail
    go_ret2
    exact ⟨⟨.un t.at_ op e, k2, by rw [Ex.val, unhide HF]; rfl, ⟨rfl, rfl, (unhide HO).1⟩, (unhide HO).2, P2⟩, T1.trans T2⟩

set_option maxHeartbeats 1600000 in
theorem neg_step (hp : 17 ≤ pb) (ts : List Tok) (x : PR) (d : D .neg ts x) (IC : ∀ x, D .cmp ts x → CS aY pb g c T tl .cmp ts x) (IN : ∀ r x, D .neg r x → r.length < ts.length → CS aY pb g c T tl .neg r x) : CS aY pb g c T tl .neg ts x := by
  intro w kk h hg
  show Calls Tryz.prog 121 #[.pointer (some ⟨pb, 0, none⟩)] w (PrA aY pb g c T tl x w)
  have HS := hide (sees_any h kNot)
  have key : (sees kNot ts = false ∧ D .cmp ts x) ∨ (∃ t r y, ts = t :: r ∧ see kNot t = true ∧ D .neg r y ∧ x = y.pre t.at_ 9) := by
    cases d
    case neg_no hs d => exact .inl ⟨hs, d⟩
    case neg_bad t r q hs d => exact .inr ⟨t, r, .bad q, rfl, hs, d, rfl⟩
    case neg t r q e hs d => exact .inr ⟨t, r, .ok e q, rfl, hs, d, rfl⟩
  clear d
  rcases key with ⟨hs, d⟩ | ⟨t, r, y, rfl, hs, d, rfl⟩
  · have HE := hide hs
    have HI := hide (fun w' (hb : Below w.heap.size w w') => IC _ d w' kk (h.below hb) (hg.below hb))
    clear h hg IC IN hs d
    go_enter Tryz.func121, Tryz.ntmps121
    go_wp2_with fail
    refine (unhide HS).mono ?_
    rintro e w1 ⟨rfl, hb⟩
    rw [unhide HE]
    dsimp only
    go_wp2_with fail
    refine (unhide HI w1 hb).mono ?_
    intro r w2 hr
    obtain ⟨v, e, rfl, hv, he⟩ := hr.form
    have HR := hide (hr.from (Touch.of_below hb (Nat.le_refl _)))
    clear hr
    dsimp only
    go_wp2_with fail
    go_ret2
    exact unhide HR
  · have HE := hide (show sees kNot (t :: r) = true from hs)
    have HI := hide (fun w' (hb : Below w.heap.size w w') => prefixed_neg hp 9 t r y w' kk (h.below hb) (hg.below hb) (IN r y d (by simp)))
    clear h hg IC IN hs d
    go_enter Tryz.func121, Tryz.ntmps121
    go_wp2_with fail
    refine (unhide HS).mono ?_
    rintro e w1 ⟨rfl, hb⟩
    rw [unhide HE]
    dsimp only
    go_wp2_with fail
    refine (unhide HI w1 hb).mono ?_
    intro r w2 hr
    obtain ⟨v, e, rfl, hv, he⟩ := hr.form
    have HR := hide (hr.from (Touch.of_below hb (Nat.le_refl _)))
    clear hr
    dsimp only
    go_wp2_with fail
    go_ret2
    exact unhide HR

set_option maxHeartbeats 1600000 in
theorem una_step (hp : 17 ≤ pb) (ts : List Tok) (x : PR) (d : D .una ts x) (IC : ∀ x, D .prim ts x → CS aY pb g c T tl .prim ts x) (IN : ∀ r x, D .una r x → r.length < ts.length → CS aY pb g c T tl .una r x) : CS aY pb g c T tl .una ts x := by
  intro w kk h hg
  show Calls Tryz.prog 122 #[.pointer (some ⟨pb, 0, none⟩)] w (PrA aY pb g c T tl x w)
  have HS := hide (sees_any h kMinus)
  have key : (sees kMinus ts = false ∧ D .prim ts x) ∨ (∃ t r y, ts = t :: r ∧ see kMinus t = true ∧ D .una r y ∧ x = y.pre t.at_ 8) := by
    cases d
    case una_no hs d => exact .inl ⟨hs, d⟩
    case una_bad t r q hs d => exact .inr ⟨t, r, .bad q, rfl, hs, d, rfl⟩
    case una t r q e hs d => exact .inr ⟨t, r, .ok e q, rfl, hs, d, rfl⟩
  clear d
  rcases key with ⟨hs, d⟩ | ⟨t, r, y, rfl, hs, d, rfl⟩
  · have HE := hide hs
    have HI := hide (fun w' (hb : Below w.heap.size w w') => IC _ d w' kk (h.below hb) (hg.below hb))
    clear h hg IC IN hs d
    go_enter Tryz.func122, Tryz.ntmps122
    go_wp2_with fail
    refine (unhide HS).mono ?_
    rintro e w1 ⟨rfl, hb⟩
    rw [unhide HE]
    dsimp only
    go_wp2_with fail
    refine (unhide HI w1 hb).mono ?_
    intro r w2 hr
    obtain ⟨v, e, rfl, hv, he⟩ := hr.form
    have HR := hide (hr.from (Touch.of_below hb (Nat.le_refl _)))
    clear hr
    dsimp only
    go_wp2_with fail
    go_ret2
    exact unhide HR
  · have HE := hide (show sees kMinus (t :: r) = true from hs)
    have HI := hide (fun w' (hb : Below w.heap.size w w') => prefixed_una hp 8 t r y w' kk (h.below hb) (hg.below hb) (IN r y d (by simp)))
    clear h hg IC IN hs d
    go_enter Tryz.func122, Tryz.ntmps122
    go_wp2_with fail
    refine (unhide HS).mono ?_
    rintro e w1 ⟨rfl, hb⟩
    rw [unhide HE]
    dsimp only
    go_wp2_with fail
    refine (unhide HI w1 hb).mono ?_
    intro r w2 hr
    obtain ⟨v, e, rfl, hv, he⟩ := hr.form
    have HR := hide (hr.from (Touch.of_below hb (Nat.le_refl _)))
    clear hr
    dsimp only
    go_wp2_with fail
    go_ret2
    exact unhide HR

end Go.Proofs.YtcehablmloleaaaGreatDoor

namespace Go.Proofs.YtcehablmloleaaaGreatDoor
open Go.RowKit
set_option linter.unusedVariables false
variable {aY : Addr} {pb g c : Nat} {T : List Tok} {tl : Nat}

set_option maxRecDepth 100000 in
set_option maxHeartbeats 1600000 in
theorem prim_num (t : Tok) (r : List Tok) (hk : t.kind = 1) : CS aY pb g c T tl .prim (t :: r) (.ok (.int t.at_ t.num) r) := by
  intro w k h hg
  show Calls Tryz.prog 126 #[.pointer (some ⟨pb, 0, none⟩)] w (PrA aY pb g c T tl (.ok (.int t.at_ t.num) r) w)
  have HP := hide (peek_any h)
  have HH := hide h
  have HG := hide hg
  have e1 : (t.kind == 1) = true := beq_iff_eq.2 hk
  clear h hg hk
  go_enter Tryz.func126, Tryz.ntmps126
  go_wp2_with fail
  refine (unhide HP).mono ?_
  rintro e w1 ⟨rfl, hb1⟩
  dsimp only [tokV, hdE]
  have hb2 := hb1.alloc hb1.size (.cells #[.int .i64 t.kind, .int .i64 t.num, .string t.text, .int .i64 (t.at_ : Int)] 42)
  have R2 := Row.new w1 #[.int .i64 t.kind, .int .i64 t.num, .string t.text, .int .i64 (t.at_ : Int)] 42
  have nz := (unhide HH).row.lt
  have hz := hb1.size
  go_wp2_with fail
  generalize w1.alloc (.cells #[.int .i64 t.kind, .int .i64 t.num, .string t.text, .int .i64 (t.at_ : Int)] 42) = W at *
  have HT := hide (take_any ((unhide HH).below hb2))
  refine (unhide HT).mono ?_
  rintro e w3 ⟨rfl, P3, T3⟩
  obtain ⟨c0, c1, c2, c3, cf⟩ := row4 (R2.touchP T3 (.inr (by omega)))
  dsimp only [tokV]
  go_wp2_with fail
  go_ret2
  exact ⟨⟨.int t.at_ t.num, _, rfl, ⟨rfl, rfl⟩, trivial, P3⟩, (Touch.of_below hb2 (Nat.le_refl _)).trans T3⟩

set_option maxRecDepth 100000 in
set_option maxHeartbeats 1600000 in
theorem prim_text (t : Tok) (r : List Tok) (hk : t.kind = 2) : CS aY pb g c T tl .prim (t :: r) (.ok (.text t.at_ t.text) r) := by
  intro w k h hg
  show Calls Tryz.prog 126 #[.pointer (some ⟨pb, 0, none⟩)] w (PrA aY pb g c T tl (.ok (.text t.at_ t.text) r) w)
  have HP := hide (peek_any h)
  have HH := hide h
  have HG := hide hg
  have e1 : (t.kind == 1) = false := beq_eq_false_iff_ne.2 (by omega)
  have e2 : (t.kind == 2) = true := beq_iff_eq.2 hk
  clear h hg hk
  go_enter Tryz.func126, Tryz.ntmps126
  go_wp2_with fail
  refine (unhide HP).mono ?_
  rintro e w1 ⟨rfl, hb1⟩
  dsimp only [tokV, hdE]
  have hb2 := hb1.alloc hb1.size (.cells #[.int .i64 t.kind, .int .i64 t.num, .string t.text, .int .i64 (t.at_ : Int)] 42)
  have R2 := Row.new w1 #[.int .i64 t.kind, .int .i64 t.num, .string t.text, .int .i64 (t.at_ : Int)] 42
  have nz := (unhide HH).row.lt
  have hz := hb1.size
  go_wp2_with fail
  generalize w1.alloc (.cells #[.int .i64 t.kind, .int .i64 t.num, .string t.text, .int .i64 (t.at_ : Int)] 42) = W at *
  have HT := hide (take_any ((unhide HH).below hb2))
  refine (unhide HT).mono ?_
  rintro e w3 ⟨rfl, P3, T3⟩
  obtain ⟨c0, c1, c2, c3, cf⟩ := row4 (R2.touchP T3 (.inr (by omega)))
  dsimp only [tokV]
  go_wp2_with fail
  go_ret2
  exact ⟨⟨.text t.at_ t.text, _, rfl, ⟨rfl, rfl⟩, trivial, P3⟩, (Touch.of_below hb2 (Nat.le_refl _)).trans T3⟩

set_option maxRecDepth 100000 in
set_option maxHeartbeats 1600000 in
theorem prim_name (t : Tok) (r : List Tok) (hk : t.kind = 3) : CS aY pb g c T tl .prim (t :: r) (.ok (.name t.at_ t.text) r) := by
  intro w k h hg
  show Calls Tryz.prog 126 #[.pointer (some ⟨pb, 0, none⟩)] w (PrA aY pb g c T tl (.ok (.name t.at_ t.text) r) w)
  have HP := hide (peek_any h)
  have HH := hide h
  have HG := hide hg
  have e1 : (t.kind == 1) = false := beq_eq_false_iff_ne.2 (by omega)
  have e2 : (t.kind == 2) = false := beq_eq_false_iff_ne.2 (by omega)
  have e3 : (t.kind == 3) = true := beq_iff_eq.2 hk
  clear h hg hk
  go_enter Tryz.func126, Tryz.ntmps126
  go_wp2_with fail
  refine (unhide HP).mono ?_
  rintro e w1 ⟨rfl, hb1⟩
  dsimp only [tokV, hdE]
  have hb2 := hb1.alloc hb1.size (.cells #[.int .i64 t.kind, .int .i64 t.num, .string t.text, .int .i64 (t.at_ : Int)] 42)
  have R2 := Row.new w1 #[.int .i64 t.kind, .int .i64 t.num, .string t.text, .int .i64 (t.at_ : Int)] 42
  have nz := (unhide HH).row.lt
  have hz := hb1.size
  go_wp2_with fail
  generalize w1.alloc (.cells #[.int .i64 t.kind, .int .i64 t.num, .string t.text, .int .i64 (t.at_ : Int)] 42) = W at *
  have HT := hide (take_any ((unhide HH).below hb2))
  refine (unhide HT).mono ?_
  rintro e w3 ⟨rfl, P3, T3⟩
  obtain ⟨c0, c1, c2, c3, cf⟩ := row4 (R2.touchP T3 (.inr (by omega)))
  dsimp only [tokV]
  go_wp2_with fail
  go_ret2
  exact ⟨⟨.name t.at_ t.text, _, rfl, ⟨rfl, rfl⟩, trivial, P3⟩, (Touch.of_below hb2 (Nat.le_refl _)).trans T3⟩

theorem kind_not {t : Tok} {s : List UInt8} (h : see s t = true) : (t.kind == 1) = false ∧ (t.kind == 2) = false ∧ (t.kind == 3) = false := by
  rcases see_kind h with e | e <;> rw [e] <;> decide

theorem text_is {t : Tok} {s : List UInt8} (h : see s t = true) (u : List UInt8) : (t.text.toList == u) = decide (s = u) := by
  rw [see_text h, ByteArray.toList_eq]
  show (s == u) = _
  by_cases e : s = u
  · rw [decide_eq_true e, e]; simp
  · rw [decide_eq_false e]; simpa using e

set_option maxRecDepth 100000 in
set_option maxHeartbeats 1600000 in
theorem prim_tru (t : Tok) (r : List Tok) (hk : see kTrue t = true) : CS aY pb g c T tl .prim (t :: r) (.ok (.bool t.at_ true) r) := by
  intro w k h hg
  show Calls Tryz.prog 126 #[.pointer (some ⟨pb, 0, none⟩)] w (PrA aY pb g c T tl (.ok (.bool t.at_ true) r) w)
  have HP := hide (peek_any h)
  have HH := hide h
  have HG := hide hg
  obtain ⟨e1, e2, e3⟩ := kind_not hk
  have e4 : (t.text.toList == [116, 114, 117, 101]) = true := by rw [text_is hk]; decide
  have HS := hide (fun s w' (hb : Below w.heap.size w w') => sees_any (h.below hb) s)
  have HTrue := hide (show sees kTrue (t :: r) = true from hk)
  clear h hg hk
  go_enter Tryz.func126, Tryz.ntmps126
  go_wp2_with fail
  refine (unhide HP).mono ?_
  rintro e w1 ⟨rfl, hb1⟩
  dsimp only [tokV, hdE]
  have hb2 := hb1.alloc hb1.size (.cells #[.int .i64 t.kind, .int .i64 t.num, .string t.text, .int .i64 (t.at_ : Int)] 42)
  have R2 := Row.new w1 #[.int .i64 t.kind, .int .i64 t.num, .string t.text, .int .i64 (t.at_ : Int)] 42
  have nz := (unhide HH).row.lt
  have hz := hb1.size
  go_wp2_with fail
  generalize w1.alloc (.cells #[.int .i64 t.kind, .int .i64 t.num, .string t.text, .int .i64 (t.at_ : Int)] 42) = W at *
  refine (unhide HS kTrue W hb2).mono ?_
  rintro e s0 ⟨rfl, hs0⟩
  rw [unhide HTrue]
  have hc0 := hb2.trans (hs0.mono hb2.size)
  dsimp only
  have HT := hide (take_any ((unhide HH).below hc0))
  obtain ⟨b0, b1, b2, b3, bf⟩ := row4 (R2.after hs0 (Nat.le_refl _))
  go_wp2_with fail
  refine (unhide HT).mono ?_
  rintro e w3 ⟨rfl, P3, T3⟩
  obtain ⟨c0, c1, c2, c3, cf⟩ := row4 ((R2.after hs0 (Nat.le_refl _)).touchP T3 (.inr (by omega)))
  dsimp only [tokV]
  go_wp2_with fail
  go_ret2
  exact ⟨⟨.bool t.at_ true, _, rfl, ⟨rfl, rfl⟩, trivial, P3⟩, (Touch.of_below hc0 (Nat.le_refl _)).trans T3⟩

set_option maxRecDepth 100000 in
set_option maxHeartbeats 1600000 in
theorem prim_fls (t : Tok) (r : List Tok) (hk : see kFalse t = true) : CS aY pb g c T tl .prim (t :: r) (.ok (.bool t.at_ false) r) := by
  intro w k h hg
  show Calls Tryz.prog 126 #[.pointer (some ⟨pb, 0, none⟩)] w (PrA aY pb g c T tl (.ok (.bool t.at_ false) r) w)
  have HP := hide (peek_any h)
  have HH := hide h
  have HG := hide hg
  obtain ⟨e1, e2, e3⟩ := kind_not hk
  have e4 : (t.text.toList == [116, 114, 117, 101]) = false := by rw [text_is hk]; decide
  have HS := hide (fun s w' (hb : Below w.heap.size w w') => sees_any (h.below hb) s)
  have HTrue := hide (show sees kTrue (t :: r) = false from see_ne hk (by decide))
  have HFalse := hide (show sees kFalse (t :: r) = true from hk)
  clear h hg hk
  go_enter Tryz.func126, Tryz.ntmps126
  go_wp2_with fail
  refine (unhide HP).mono ?_
  rintro e w1 ⟨rfl, hb1⟩
  dsimp only [tokV, hdE]
  have hb2 := hb1.alloc hb1.size (.cells #[.int .i64 t.kind, .int .i64 t.num, .string t.text, .int .i64 (t.at_ : Int)] 42)
  have R2 := Row.new w1 #[.int .i64 t.kind, .int .i64 t.num, .string t.text, .int .i64 (t.at_ : Int)] 42
  have nz := (unhide HH).row.lt
  have hz := hb1.size
  go_wp2_with fail
  generalize w1.alloc (.cells #[.int .i64 t.kind, .int .i64 t.num, .string t.text, .int .i64 (t.at_ : Int)] 42) = W at *
  refine (unhide HS kTrue W hb2).mono ?_
  rintro e s0 ⟨rfl, hs0⟩
  rw [unhide HTrue]
  have hc0 := hb2.trans (hs0.mono hb2.size)
  dsimp only
  go_wp2_with fail
  refine (unhide HS kFalse s0 hc0).mono ?_
  rintro e s1 ⟨rfl, hs1⟩
  rw [unhide HFalse]
  have hc1 := hc0.trans (hs1.mono hc0.size)
  dsimp only
  have HT := hide (take_any ((unhide HH).below hc1))
  obtain ⟨b0, b1, b2, b3, bf⟩ := row4 (R2.after (hs0.trans (hs1.mono hs0.size)) (Nat.le_refl _))
  go_wp2_with fail
  refine (unhide HT).mono ?_
  rintro e w3 ⟨rfl, P3, T3⟩
  obtain ⟨c0, c1, c2, c3, cf⟩ := row4 ((R2.after (hs0.trans (hs1.mono hs0.size)) (Nat.le_refl _)).touchP T3 (.inr (by omega)))
  dsimp only [tokV]
  go_wp2_with fail
  go_ret2
  exact ⟨⟨.bool t.at_ false, _, rfl, ⟨rfl, rfl⟩, trivial, P3⟩, (Touch.of_below hc1 (Nat.le_refl _)).trans T3⟩

set_option maxRecDepth 100000 in
set_option maxHeartbeats 1600000 in
theorem prim_size (hp : 17 ≤ pb) (t : Tok) (r : List Tok) (x : PR) (hk : see kSize t = true) (IH : CS aY pb g c T tl .encl r x) : CS aY pb g c T tl .prim (t :: r) (x.pre t.at_ 10) := by
  intro w k h hg
  show Calls Tryz.prog 126 #[.pointer (some ⟨pb, 0, none⟩)] w (PrA aY pb g c T tl (x.pre t.at_ 10) w)
  have HP := hide (peek_any h)
  have HH := hide h
  have HG := hide hg
  obtain ⟨e1, e2, e3⟩ := kind_not hk
  have HI : Hid (∀ w', Below w.heap.size w w' → Calls Tryz.prog 124 #[.pointer (some ⟨pb, 0, none⟩), .int .i64 10, .func (.func 131) #[.pointer (some ⟨pb, 0, none⟩)] #[]] w' (PrA aY pb g c T tl (x.pre t.at_ 10) w')) := hide (fun w' hb => prefixed_encl hp 10 t r x w' k (h.below hb) (hg.below hb) IH)
  have HS := hide (fun s w' (hb : Below w.heap.size w w') => sees_any (h.below hb) s)
  have HTrue := hide (show sees kTrue (t :: r) = false from see_ne hk (by decide))
  have HFalse := hide (show sees kFalse (t :: r) = false from see_ne hk (by decide))
  have HSize := hide (show sees kSize (t :: r) = true from hk)
  clear h hg hk IH
  go_enter Tryz.func126, Tryz.ntmps126
  go_wp2_with fail
  refine (unhide HP).mono ?_
  rintro e w1 ⟨rfl, hb1⟩
  dsimp only [tokV, hdE]
  have hb2 := hb1.alloc hb1.size (.cells #[.int .i64 t.kind, .int .i64 t.num, .string t.text, .int .i64 (t.at_ : Int)] 42)
  have R2 := Row.new w1 #[.int .i64 t.kind, .int .i64 t.num, .string t.text, .int .i64 (t.at_ : Int)] 42
  have nz := (unhide HH).row.lt
  have hz := hb1.size
  go_wp2_with fail
  generalize w1.alloc (.cells #[.int .i64 t.kind, .int .i64 t.num, .string t.text, .int .i64 (t.at_ : Int)] 42) = W at *
  refine (unhide HS kTrue W hb2).mono ?_
  rintro e s0 ⟨rfl, hs0⟩
  rw [unhide HTrue]
  have hc0 := hb2.trans (hs0.mono hb2.size)
  dsimp only
  go_wp2_with fail
  refine (unhide HS kFalse s0 hc0).mono ?_
  rintro e s1 ⟨rfl, hs1⟩
  rw [unhide HFalse]
  have hc1 := hc0.trans (hs1.mono hc0.size)
  dsimp only
  go_wp2_with fail
  refine (unhide HS kSize s1 hc1).mono ?_
  rintro e s2 ⟨rfl, hs2⟩
  rw [unhide HSize]
  have hc2 := hc1.trans (hs2.mono hc1.size)
  dsimp only
  go_wp2_with fail
  refine (unhide HI s2 hc2).mono ?_
  intro rr w9 hr
  obtain ⟨v, e, rfl, hv, he⟩ := hr.form
  have HR := hide (hr.from (Touch.of_below hc2 (Nat.le_refl _)))
  clear hr
  dsimp only
  go_wp2_with fail
  go_ret2
  exact unhide HR

set_option maxRecDepth 100000 in
set_option maxHeartbeats 1600000 in
theorem prim_par (hp : 17 ≤ pb) (t : Tok) (r : List Tok) (x : PR) (hk : see kLpar t = true) (IH : CS aY pb g c T tl .encl (t :: r) x) : CS aY pb g c T tl .prim (t :: r) (x) := by
  intro w k h hg
  show Calls Tryz.prog 126 #[.pointer (some ⟨pb, 0, none⟩)] w (PrA aY pb g c T tl (x) w)
  have HP := hide (peek_any h)
  have HH := hide h
  have HG := hide hg
  obtain ⟨e1, e2, e3⟩ := kind_not hk
  have HI : Hid (∀ w', Below w.heap.size w w' → Calls Tryz.prog 131 #[.pointer (some ⟨pb, 0, none⟩)] w' (PrA aY pb g c T tl (x) w')) := hide (fun w' hb => IH w' k (h.below hb) (hg.below hb))
  have HS := hide (fun s w' (hb : Below w.heap.size w w') => sees_any (h.below hb) s)
  have HTrue := hide (show sees kTrue (t :: r) = false from see_ne hk (by decide))
  have HFalse := hide (show sees kFalse (t :: r) = false from see_ne hk (by decide))
  have HSize := hide (show sees kSize (t :: r) = false from see_ne hk (by decide))
  have HLpar := hide (show sees kLpar (t :: r) = true from hk)
  clear h hg hk IH
  go_enter Tryz.func126, Tryz.ntmps126
  go_wp2_with fail
  refine (unhide HP).mono ?_
  rintro e w1 ⟨rfl, hb1⟩
  dsimp only [tokV, hdE]
  have hb2 := hb1.alloc hb1.size (.cells #[.int .i64 t.kind, .int .i64 t.num, .string t.text, .int .i64 (t.at_ : Int)] 42)
  have R2 := Row.new w1 #[.int .i64 t.kind, .int .i64 t.num, .string t.text, .int .i64 (t.at_ : Int)] 42
  have nz := (unhide HH).row.lt
  have hz := hb1.size
  go_wp2_with fail
  generalize w1.alloc (.cells #[.int .i64 t.kind, .int .i64 t.num, .string t.text, .int .i64 (t.at_ : Int)] 42) = W at *
  refine (unhide HS kTrue W hb2).mono ?_
  rintro e s0 ⟨rfl, hs0⟩
  rw [unhide HTrue]
  have hc0 := hb2.trans (hs0.mono hb2.size)
  dsimp only
  go_wp2_with fail
  refine (unhide HS kFalse s0 hc0).mono ?_
  rintro e s1 ⟨rfl, hs1⟩
  rw [unhide HFalse]
  have hc1 := hc0.trans (hs1.mono hc0.size)
  dsimp only
  go_wp2_with fail
  refine (unhide HS kSize s1 hc1).mono ?_
  rintro e s2 ⟨rfl, hs2⟩
  rw [unhide HSize]
  have hc2 := hc1.trans (hs2.mono hc1.size)
  dsimp only
  go_wp2_with fail
  refine (unhide HS kLpar s2 hc2).mono ?_
  rintro e s3 ⟨rfl, hs3⟩
  rw [unhide HLpar]
  have hc3 := hc2.trans (hs3.mono hc2.size)
  dsimp only
  go_wp2_with fail
  refine (unhide HI s3 hc3).mono ?_
  intro rr w9 hr
  obtain ⟨v, e, rfl, hv, he⟩ := hr.form
  have HR := hide (hr.from (Touch.of_below hc3 (Nat.le_refl _)))
  clear hr
  dsimp only
  go_wp2_with fail
  go_ret2
  exact unhide HR

set_option maxRecDepth 100000 in
set_option maxHeartbeats 1600000 in
theorem prim_set (hp : 17 ≤ pb) (t : Tok) (r : List Tok) (hk : see kLbr t = true)  : CS aY pb g c T tl .prim (t :: r) (setX t (scR r)) := by
  intro w k h hg
  show Calls Tryz.prog 126 #[.pointer (some ⟨pb, 0, none⟩)] w (PrA aY pb g c T tl (setX t (scR r)) w)
  have HP := hide (peek_any h)
  have HH := hide h
  have HG := hide hg
  obtain ⟨e1, e2, e3⟩ := kind_not hk
  have HI : Hid (∀ w', Below w.heap.size w w' → Calls Tryz.prog 132 #[.pointer (some ⟨pb, 0, none⟩)] w' (PrA aY pb g c T tl (setX t (scR r)) w')) := hide (fun w' hb => set_any hp t r w' k (h.below hb) (hg.below hb))
  have HS := hide (fun s w' (hb : Below w.heap.size w w') => sees_any (h.below hb) s)
  have HTrue := hide (show sees kTrue (t :: r) = false from see_ne hk (by decide))
  have HFalse := hide (show sees kFalse (t :: r) = false from see_ne hk (by decide))
  have HSize := hide (show sees kSize (t :: r) = false from see_ne hk (by decide))
  have HLpar := hide (show sees kLpar (t :: r) = false from see_ne hk (by decide))
  have HLbr := hide (show sees kLbr (t :: r) = true from hk)
  clear h hg hk
  go_enter Tryz.func126, Tryz.ntmps126
  go_wp2_with fail
  refine (unhide HP).mono ?_
  rintro e w1 ⟨rfl, hb1⟩
  dsimp only [tokV, hdE]
  have hb2 := hb1.alloc hb1.size (.cells #[.int .i64 t.kind, .int .i64 t.num, .string t.text, .int .i64 (t.at_ : Int)] 42)
  have R2 := Row.new w1 #[.int .i64 t.kind, .int .i64 t.num, .string t.text, .int .i64 (t.at_ : Int)] 42
  have nz := (unhide HH).row.lt
  have hz := hb1.size
  go_wp2_with fail
  generalize w1.alloc (.cells #[.int .i64 t.kind, .int .i64 t.num, .string t.text, .int .i64 (t.at_ : Int)] 42) = W at *
  refine (unhide HS kTrue W hb2).mono ?_
  rintro e s0 ⟨rfl, hs0⟩
  rw [unhide HTrue]
  have hc0 := hb2.trans (hs0.mono hb2.size)
  dsimp only
  go_wp2_with fail
  refine (unhide HS kFalse s0 hc0).mono ?_
  rintro e s1 ⟨rfl, hs1⟩
  rw [unhide HFalse]
  have hc1 := hc0.trans (hs1.mono hc0.size)
  dsimp only
  go_wp2_with fail
  refine (unhide HS kSize s1 hc1).mono ?_
  rintro e s2 ⟨rfl, hs2⟩
  rw [unhide HSize]
  have hc2 := hc1.trans (hs2.mono hc1.size)
  dsimp only
  go_wp2_with fail
  refine (unhide HS kLpar s2 hc2).mono ?_
  rintro e s3 ⟨rfl, hs3⟩
  rw [unhide HLpar]
  have hc3 := hc2.trans (hs3.mono hc2.size)
  dsimp only
  go_wp2_with fail
  refine (unhide HS kLbr s3 hc3).mono ?_
  rintro e s4 ⟨rfl, hs4⟩
  rw [unhide HLbr]
  have hc4 := hc3.trans (hs4.mono hc3.size)
  dsimp only
  go_wp2_with fail
  refine (unhide HI s4 hc4).mono ?_
  intro rr w9 hr
  obtain ⟨v, e, rfl, hv, he⟩ := hr.form
  have HR := hide (hr.from (Touch.of_below hc4 (Nat.le_refl _)))
  clear hr
  dsimp only
  go_wp2_with fail
  go_ret2
  exact unhide HR

set_option maxRecDepth 100000 in
set_option maxHeartbeats 1600000 in
theorem prim_none (ts : List Tok) (h1 : (hdE tl ts).kind ≠ 1) (h2 : (hdE tl ts).kind ≠ 2) (h3 : (hdE tl ts).kind ≠ 3) (h4 : sees kTrue ts = false) (h5 : sees kFalse ts = false) (h6 : sees kSize ts = false) (h7 : sees kLpar ts = false) (h8 : sees kLbr ts = false) : CS aY pb g c T tl .prim ts (.bad ts) := by
  intro w k h hg
  show Calls Tryz.prog 126 #[.pointer (some ⟨pb, 0, none⟩)] w (PrA aY pb g c T tl (.bad ts) w)
  have HP := hide (peek_any h)
  have HH := hide h
  have HG := hide hg
  have e1 : ((hdE tl ts).kind == 1) = false := beq_eq_false_iff_ne.2 h1
  have e2 : ((hdE tl ts).kind == 2) = false := beq_eq_false_iff_ne.2 h2
  have e3 : ((hdE tl ts).kind == 3) = false := beq_eq_false_iff_ne.2 h3
  have HTrue := hide h4
  have HFalse := hide h5
  have HSize := hide h6
  have HLpar := hide h7
  have HLbr := hide h8
  have HS := hide (fun s w' (hb : Below w.heap.size w w') => sees_any (h.below hb) s)
  have HI := hide (fun w' (hb : Below w.heap.size w w') => stuck_any (h.below hb) (hg.below hb))
  clear h hg h1 h2 h3 h4 h5 h6 h7 h8
  go_enter Tryz.func126, Tryz.ntmps126
  go_wp2_with fail
  refine (unhide HP).mono ?_
  rintro e w1 ⟨rfl, hb1⟩
  generalize hdE tl ts = t at e1 e2 e3
  dsimp only [tokV]
  have hb2 := hb1.alloc hb1.size (.cells #[.int .i64 t.kind, .int .i64 t.num, .string t.text, .int .i64 (t.at_ : Int)] 42)
  have R2 := Row.new w1 #[.int .i64 t.kind, .int .i64 t.num, .string t.text, .int .i64 (t.at_ : Int)] 42
  have nz := (unhide HH).row.lt
  have hz := hb1.size
  go_wp2_with fail
  generalize w1.alloc (.cells #[.int .i64 t.kind, .int .i64 t.num, .string t.text, .int .i64 (t.at_ : Int)] 42) = W at *
  refine (unhide HS kTrue W hb2).mono ?_
  rintro e s0 ⟨rfl, hs0⟩
  rw [unhide HTrue]
  have hc0 := hb2.trans (hs0.mono hb2.size)
  dsimp only
  go_wp2_with fail
  refine (unhide HS kFalse s0 hc0).mono ?_
  rintro e s1 ⟨rfl, hs1⟩
  rw [unhide HFalse]
  have hc1 := hc0.trans (hs1.mono hc0.size)
  dsimp only
  go_wp2_with fail
  refine (unhide HS kSize s1 hc1).mono ?_
  rintro e s2 ⟨rfl, hs2⟩
  rw [unhide HSize]
  have hc2 := hc1.trans (hs2.mono hc1.size)
  dsimp only
  go_wp2_with fail
  refine (unhide HS kLpar s2 hc2).mono ?_
  rintro e s3 ⟨rfl, hs3⟩
  rw [unhide HLpar]
  have hc3 := hc2.trans (hs3.mono hc2.size)
  dsimp only
  go_wp2_with fail
  refine (unhide HS kLbr s3 hc3).mono ?_
  rintro e s4 ⟨rfl, hs4⟩
  rw [unhide HLbr]
  have hc4 := hc3.trans (hs4.mono hc3.size)
  dsimp only
  go_wp2_with fail
  refine (unhide HI s4 hc4).mono ?_
  rintro e w9 ⟨b, rfl, RE, hb9⟩
  dsimp only [errP]
  go_wp2_with fail
  go_ret2
  exact ⟨⟨.nilIface, b, rfl, .inl rfl, RE⟩, (Touch.of_below hc4 (Nat.le_refl _)).allP hb9⟩

theorem prim_step (hp : 17 ≤ pb) (ts : List Tok) (x : PR) (d : D .prim ts x) (IS : ∀ r x, D .encl r x → r.length ≤ ts.length → CS aY pb g c T tl .encl r x) : CS aY pb g c T tl .prim ts x := by
  cases d with
  | num h => exact prim_num _ _ h
  | text h => exact prim_text _ _ h
  | name h => exact prim_name _ _ h
  | tru h => exact prim_tru _ _ h
  | fls h => exact prim_fls _ _ h
  | @size_bad t r q h d => exact prim_size hp t r _ h (IS r _ d (by simp))
  | @size t r q e h d => exact prim_size hp t r _ h (IS r _ d (by simp))
  | @par t r x h d => exact prim_par hp t r x h (IS _ _ d (Nat.le_refl _))
  | @set_bad t r q ss h hs =>
    have e : setX t (scR r) = .bad q := by rw [hs]; rfl
    rw [← e]; exact prim_set hp t r h
  | @set_end t r q ss h hs hq =>
    have e : setX t (scR r) = .bad q := by
      rw [hs, setX, if_pos rfl]
      cases q with
      | nil => rfl
      | cons u q => exact if_neg (by rw [show see kRbr u = false from hq]; decide)
    rw [← e]; exact prim_set hp t r h
  | @set t u r q ss h hs hq =>
    have e : setX t (scR r) = .ok (.set t.at_ ss) q := by rw [hs, setX, if_pos rfl]; exact if_pos hq
    rw [← e]; exact prim_set hp t r h
  | prim_nil => exact prim_none [] (show (0 : Int) ≠ 1 by decide) (show (0 : Int) ≠ 2 by decide) (show (0 : Int) ≠ 3 by decide) rfl rfl rfl rfl rfl
  | prim_no h1 h2 h3 h4 h5 h6 h7 h8 => exact prim_none _ h1 h2 h3 h4 h5 h6 h7 h8

end Go.Proofs.YtcehablmloleaaaGreatDoor

namespace Go.Proofs.YtcehablmloleaaaGreatDoor
open Go.RowKit
set_option linter.unusedVariables false
variable {aY : Addr} {pb g c : Nat} {T : List Tok} {tl : Nat}

/-- the words of a choice -/
def wd3 : Nat → List UInt8
  | 0 => kIf
  | 1 => kThen
  | _ => kElse

/-- the rest of a choice -/
def Cg (i0 : Nat) (x : PR) : Nat → List Pt → List Tok → Prop
  | 0, L, r => ∃ a b d, L = [a, b, d] ∧ x = .ok (.ite i0 a b d) r
  | n + 1, L, r => ∃ y, D (.beh (wd3 (2 - n))) r y ∧ (∀ q, y = .bad q → x = .bad q) ∧ ∀ p q, y = .ok p q → Cg i0 x n (L ++ [p]) q ∧ q.length ≤ r.length

theorem D.choice {t : Tok} {r : List Tok} {x : PR} (d : D .expr (t :: r) x) (h : see kIf t = true) : Cg t.at_ x 3 [] (t :: r) := by
  cases d with
  | expr_no h' d => rw [sees, h] at h'; cases h'
  | expr_if1 _ d1 => exact ⟨_, d1, fun q e => (by cases e; rfl), fun p q e => by cases e⟩
  | expr_if2 _ d1 d2 => exact ⟨_, d1, fun q e => (by cases e), fun p q e => by cases e; exact ⟨⟨_, d2, fun q e => (by cases e; rfl), fun p q e => by cases e⟩, d1.len⟩⟩
  | expr_if3 _ d1 d2 d3 => exact ⟨_, d1, fun q e => (by cases e), fun p q e => by cases e; exact ⟨⟨_, d2, fun q e => (by cases e), fun p q e => by cases e; exact ⟨⟨_, d3, fun q e => (by cases e; rfl), fun p q e => by cases e⟩, d2.len⟩⟩, d1.len⟩⟩
  | expr_if _ d1 d2 d3 => exact ⟨_, d1, fun q e => (by cases e), fun p q e => by cases e; exact ⟨⟨_, d2, fun q e => (by cases e), fun p q e => by cases e; exact ⟨⟨_, d3, fun q e => (by cases e), fun p q e => by cases e; exact ⟨⟨_, _, _, rfl, rfl⟩, d3.len⟩⟩, d2.len⟩⟩, d1.len⟩⟩

/-- the parts so far, as they lie -/
def ptsV (E : List Ex) : Array Value := (E.map Ex.val ++ List.replicate (3 - E.length) Value.nilIface).toArray

/-- the parts and what they are -/
def PrF (lo : Nat) (w : World) : List Ex → List Pt → Prop
  | [], [] => True
  | e :: E, p :: L => Er e p ∧ e.own lo w ∧ PrF lo w E L
  | _, _ => False

theorem PrF.touch {pb : Nat} {w w' : World} (T : Touch pb (pb + 1) w w') : ∀ (E : List Ex) (L : List Pt), PrF (pb + 1) w E L → PrF (pb + 1) w' E L
  | [], [], _ => trivial
  | e :: E, p :: L, h => ⟨h.1, e.own_touch T h.2.1, PrF.touch T E L h.2.2⟩
  | [], _ :: _, h => h
  | _ :: _, [], h => h

theorem PrF.snoc {lo : Nat} {w : World} {e : Ex} {p : Pt} (he : Er e p) (ho : e.own lo w) : ∀ (E : List Ex) (L : List Pt), PrF lo w E L → PrF lo w (E ++ [e]) (L ++ [p])
  | [], [], _ => ⟨he, ho, trivial⟩
  | _ :: E, _ :: L, h => ⟨h.1, h.2.1, PrF.snoc he ho E L h.2.2⟩
  | [], _ :: _, h => absurd h id
  | _ :: _, [], h => absurd h id

theorem Ex.own_set {lo : Nat} {w : World} {b : Nat} {cs : Array Value} {tt : TypeId} (R : Row w b cs tt) (hT : tt ≠ 9) (j : Nat) (v : Value) : ∀ (e : Ex), e.own lo w → e.own lo (w.setCell ⟨b, j, none⟩ v)
  | .int .., h => h
  | .text .., h => h
  | .bool .., h => h
  | .set _ a n c ss, h => by
    have h' : w.ownsRow lo 9 1 (.slice a n c) n (ss.map Value.string) := h
    exact owns_blocksN h' (fun q hq => heap_setCell_other w ⟨b, j, none⟩ q v (fun e => own_ne_row R h' hT (by rw [hq, e])))
  | .name .., h => h
  | .attr .., h => h
  | .lett .., h => h
  | .un _ _ k, h => k.own_set R hT j v h
  | .bin _ _ l r, h => ⟨l.own_set R hT j v h.1, r.own_set R hT j v h.2⟩
  | .ite _ c t e, h => ⟨c.own_set R hT j v h.1, t.own_set R hT j v h.2.1, e.own_set R hT j v h.2.2⟩

theorem PrF.setP {lo : Nat} {w : World} {b : Nat} {cs : Array Value} {tt : TypeId} (R : Row w b cs tt) (hT : tt ≠ 9) (j : Nat) (v : Value) : ∀ (E : List Ex) (L : List Pt), PrF lo w E L → PrF lo (w.setCell ⟨b, j, none⟩ v) E L
  | [], [], _ => trivial
  | e :: E, p :: L, h => ⟨h.1, e.own_set R hT j v h.2.1, PrF.setP R hT j v E L h.2.2⟩
  | [], _ :: _, h => h
  | _ :: _, [], h => h

theorem Pp.setP {w : World} {k : Nat} {ts : List Tok} (h : Pp w pb g c T tl ts k) {b : Nat} {cs : Array Value} {tt : TypeId} (R : Row w b cs tt) (h1 : tt ≠ 75) (h2 : tt ≠ 42) (j : Nat) (v : Value) : Pp (w.setCell ⟨b, j, none⟩ v) pb g c T tl ts k := by
  have hn : pb ≠ b := fun e => by
    have r1 := R.out
    have r2 := h.row.out
    rw [e, r1] at r2
    injection r2 with r2
    injection r2 with _ r2
    exact h1 r2
  exact ⟨⟨(heap_setCell_other w ⟨b, j, none⟩ pb v hn).trans h.row.out⟩, owns_blocksN h.toks (fun q hq => heap_setCell_other w ⟨b, j, none⟩ q v (fun e => own_ne_row R h.toks h2 (by rw [hq, e]))), h.drop, h.len, h.small⟩

theorem ix_0 (w : World) : (Instr.index 200 (.agg #[.string ⟨#[105, 102]⟩, .string ⟨#[116, 104, 101, 110]⟩, .string ⟨#[101, 108, 115, 101]⟩]) (.int .i64 0)).run Tryz.prog w = .ok (.string ⟨#[105, 102]⟩) w := by kernel_rfl
theorem ix_1 (w : World) : (Instr.index 200 (.agg #[.string ⟨#[105, 102]⟩, .string ⟨#[116, 104, 101, 110]⟩, .string ⟨#[101, 108, 115, 101]⟩]) (.int .i64 1)).run Tryz.prog w = .ok (.string ⟨#[116, 104, 101, 110]⟩) w := by kernel_rfl
theorem ix_2 (w : World) : (Instr.index 200 (.agg #[.string ⟨#[105, 102]⟩, .string ⟨#[116, 104, 101, 110]⟩, .string ⟨#[101, 108, 115, 101]⟩]) (.int .i64 2)).run Tryz.prog w = .ok (.string ⟨#[101, 108, 115, 101]⟩) w := by kernel_rfl

set_option maxRecDepth 100000 in
set_option maxHeartbeats 6400000 in
theorem choice_any (hp : 17 ≤ pb) (t : Tok) (r : List Tok) (x : PR) (hc : Cg t.at_ x 3 [] (t :: r)) (IH : ∀ s r' x, D (.beh s) r' x → r'.length ≤ r.length + 1 → CS aY pb g c T tl (.beh s) r' x) (w : World) (k : Nat) (h : Pp w pb g c T tl (t :: r) k) (hg : Gy w aY) :
    Calls Tryz.prog 110 #[.pointer (some ⟨pb, 0, none⟩)] w (PrA aY pb g c T tl x w) := by
  have HP := hide (peek_any h)
  have HI := hide IH
  have HC := hide hc
  have HH := hide h
  have HG := hide hg
  have fa := field_at (.int .i64 t.kind) (.int .i64 t.num) (.string t.text) (.int .i64 (t.at_ : Int))
  have nz := h.row.lt
  clear IH hc h hg
  go_enter Tryz.func110, Tryz.ntmps110
  go_wp2_with fail
  refine (unhide HP).mono ?_
  rintro e w1 ⟨rfl, hb1⟩
  dsimp only [tokV, hdE]
  have hz1 := hb1.size
  have hb2 := hb1.alloc hb1.size (.cells #[.nilIface, .nilIface, .nilIface] 199)
  have R2 := Row.new w1 #[.nilIface, .nilIface, .nilIface] 199
  go_wp2_with fail
  go_loopw [14] (fun iv wr => ∃ (i : Nat) (E : List Ex) (L : List Pt) (q : List Tok) (k' : Nat), iv = .int .i64 i ∧ i ≤ 3 ∧ E.length = i ∧ PrF (pb + 1) wr E L ∧ Cg t.at_ x (3 - i) L q ∧ q.length ≤ r.length + 1 ∧ Pp wr pb g c T tl q k' ∧ Row wr w1.heap.size (ptsV E) 199 ∧ Touch pb (pb + 1) w wr) (fun iv _ => 3 - (intOf iv).toNat)
  case atStart => exact ⟨0, [], [], t :: r, k, rfl, by omega, rfl, trivial, unhide HC, by simp, (unhide HH).below hb2, R2, Touch.of_below hb2 (Nat.le_refl _)⟩
  case round =>
    clear R2 hb2
    obtain ⟨i, E, L, q, k', rfl, hi, hE, hF, hcg, hq, P1, R1, T1⟩ := hrel
    have nzz : pb + 1 ≤ w1.heap.size := by omega
    have hI4 : i = 0 ∨ i = 1 ∨ i = 2 ∨ i = 3 := by omega
    rcases hI4 with rfl | rfl | rfl | rfl
    · have eE : E = [] := List.eq_nil_of_length_eq_zero hE
      subst eE
      obtain ⟨y, dy, hy1, hy2⟩ : ∃ y, D (.beh (wd3 0)) q y ∧ (∀ q', y = .bad q' → x = .bad q') ∧ ∀ p q', y = .ok p q' → Cg t.at_ x 2 (L ++ [p]) q' ∧ q'.length ≤ q.length := hcg
      have HS : Hid (Calls Tryz.prog 96 #[.pointer (some ⟨pb, 0, none⟩), .string (ofL (wd3 0))] wr (PrA aY pb g c T tl y wr)) := hide (unhide HI _ q y dy hq wr k' P1 ((unhide HG).touch T1 hp))
      have HY := hide (And.intro hy1 hy2)
      have HF := hide hF
      have HQ := hide hq
      clear hE hF hq dy hy1 hy2 P1 hi HC HH HP
      have ix := ix_0
      go_wp2_with fail
      refine (unhide HS).mono ?_
      intro rr w2 hr
      cases y with
      | bad q' =>
        obtain ⟨⟨v, b, rfl, hv, RE⟩, T2⟩ := hr
        have HX := hide ((unhide HY).1 q' rfl)
        rcases hv with rfl | ⟨tv, uv, rfl⟩
        all_goals
          dsimp only [errP]
          go_wp2_with fail
          go_ret2
          rw [unhide HX]
          exact ⟨⟨.nilIface, b, rfl, .inl rfl, RE⟩, T1.trans T2⟩
      | ok p q' =>
        obtain ⟨⟨e, k2, rfl, he, ho, P2⟩, T2⟩ := hr
        obtain ⟨hcg, hl⟩ := (unhide HY).2 p q' rfl
        have R3 := R1.touchP T2 (.inr nzz)
        have HF2 := hide (PrF.snoc he ho _ _ (PrF.touch T2 _ _ (unhide HF)))
        have HCG := hide (And.intro hcg hl)
        have HP2 := hide P2
        obtain ⟨te, ue, hf⟩ := e.form
        have Hf := hide hf
        rw [hf]
        clear he ho P2 hf hcg hl R1 HY HF HS
        have qf := fun j => R3.frozen j
        have q0 := R3.cell 0
        have q1 := R3.cell 0
        have q2 := R3.cell 1
        have q3 := R3.cell 2
        simp only [ptsV, List.map_nil, List.length_nil, List.nil_append, List.getElem?_toArray, List.getElem?_cons_zero, List.getElem?_cons_succ, Nat.reduceSub, List.replicate] at q0 q1 q2 q3
        dsimp only
        go_wp2_with fail
        have R4 := R3.set 0 (.iface te ue)
        have T3 := (T1.trans T2).setNewP ⟨w1.heap.size, 0, none⟩ (.iface te ue) (by show w.heap.size ≤ w1.heap.size; omega)
        have T4 := Touch.setCell (lo := w1.heap.size) (hi := w1.heap.size + 1) w2 ⟨w1.heap.size, 0, none⟩ (.iface te ue) (Nat.le_refl _) (Nat.lt_succ_self _)
        go_roundw
        case rel => exact ⟨1, [e], _, q', k2, rfl, by omega, rfl, PrF.setP R3 (by decide) _ _ _ _ (unhide HF2), (unhide HCG).1, by have := unhide HQ; have := (unhide HCG).2; omega, (unhide HP2).setP R3 (by decide) (by decide) _ _, by rw [ptsV]; simp only [List.map_cons, List.map_nil]; rw [unhide Hf]; exact R4, T3⟩
        case measure => simp [intOf]
    · obtain ⟨e0, rfl⟩ : ∃ e0, E = [e0] := by
        match E, hE with
        | [e0], _ => exact ⟨e0, rfl⟩
      obtain ⟨y, dy, hy1, hy2⟩ : ∃ y, D (.beh (wd3 1)) q y ∧ (∀ q', y = .bad q' → x = .bad q') ∧ ∀ p q', y = .ok p q' → Cg t.at_ x 1 (L ++ [p]) q' ∧ q'.length ≤ q.length := hcg
      have HS : Hid (Calls Tryz.prog 96 #[.pointer (some ⟨pb, 0, none⟩), .string (ofL (wd3 1))] wr (PrA aY pb g c T tl y wr)) := hide (unhide HI _ q y dy hq wr k' P1 ((unhide HG).touch T1 hp))
      have HY := hide (And.intro hy1 hy2)
      have HF := hide hF
      have HQ := hide hq
      clear hE hF hq dy hy1 hy2 P1 hi HC HH HP
      have ix := ix_1
      go_wp2_with fail
      refine (unhide HS).mono ?_
      intro rr w2 hr
      cases y with
      | bad q' =>
        obtain ⟨⟨v, b, rfl, hv, RE⟩, T2⟩ := hr
        have HX := hide ((unhide HY).1 q' rfl)
        rcases hv with rfl | ⟨tv, uv, rfl⟩
        all_goals
          dsimp only [errP]
          go_wp2_with fail
          go_ret2
          rw [unhide HX]
          exact ⟨⟨.nilIface, b, rfl, .inl rfl, RE⟩, T1.trans T2⟩
      | ok p q' =>
        obtain ⟨⟨e, k2, rfl, he, ho, P2⟩, T2⟩ := hr
        obtain ⟨hcg, hl⟩ := (unhide HY).2 p q' rfl
        have R3 := R1.touchP T2 (.inr nzz)
        have HF2 := hide (PrF.snoc he ho _ _ (PrF.touch T2 _ _ (unhide HF)))
        have HCG := hide (And.intro hcg hl)
        have HP2 := hide P2
        obtain ⟨te, ue, hf⟩ := e.form
        have Hf := hide hf
        rw [hf]
        clear he ho P2 hf hcg hl R1 HY HF HS
        have qf := fun j => R3.frozen j
        have q0 := R3.cell 1
        have q1 := R3.cell 0
        have q2 := R3.cell 1
        have q3 := R3.cell 2
        simp only [ptsV, List.map_cons, List.map_nil, List.length_cons, List.length_nil, List.nil_append, List.cons_append, List.getElem?_toArray, List.getElem?_cons_zero, List.getElem?_cons_succ, Nat.reduceAdd, Nat.reduceSub, List.replicate] at q0 q1 q2 q3
        dsimp only
        go_wp2_with fail
        have R4 := R3.set 1 (.iface te ue)
        have T3 := (T1.trans T2).setNewP ⟨w1.heap.size, 1, none⟩ (.iface te ue) (by show w.heap.size ≤ w1.heap.size; omega)
        have T4 := Touch.setCell (lo := w1.heap.size) (hi := w1.heap.size + 1) w2 ⟨w1.heap.size, 1, none⟩ (.iface te ue) (Nat.le_refl _) (Nat.lt_succ_self _)
        go_roundw
        case rel => exact ⟨2, [e0, e], _, q', k2, rfl, by omega, rfl, PrF.setP R3 (by decide) _ _ _ _ (unhide HF2), (unhide HCG).1, by have := unhide HQ; have := (unhide HCG).2; omega, (unhide HP2).setP R3 (by decide) (by decide) _ _, by rw [ptsV]; simp only [List.map_cons, List.map_nil]; rw [unhide Hf]; exact R4, T3⟩
        case measure => simp [intOf]
    · obtain ⟨e0, e1, rfl⟩ : ∃ e0 e1, E = [e0, e1] := by
        match E, hE with
        | [e0, e1], _ => exact ⟨e0, e1, rfl⟩
      obtain ⟨y, dy, hy1, hy2⟩ : ∃ y, D (.beh (wd3 2)) q y ∧ (∀ q', y = .bad q' → x = .bad q') ∧ ∀ p q', y = .ok p q' → Cg t.at_ x 0 (L ++ [p]) q' ∧ q'.length ≤ q.length := hcg
      have HS : Hid (Calls Tryz.prog 96 #[.pointer (some ⟨pb, 0, none⟩), .string (ofL (wd3 2))] wr (PrA aY pb g c T tl y wr)) := hide (unhide HI _ q y dy hq wr k' P1 ((unhide HG).touch T1 hp))
      have HY := hide (And.intro hy1 hy2)
      have HF := hide hF
      have HQ := hide hq
      clear hE hF hq dy hy1 hy2 P1 hi HC HH HP
      have ix := ix_2
      go_wp2_with fail
      refine (unhide HS).mono ?_
      intro rr w2 hr
      cases y with
      | bad q' =>
        obtain ⟨⟨v, b, rfl, hv, RE⟩, T2⟩ := hr
        have HX := hide ((unhide HY).1 q' rfl)
        rcases hv with rfl | ⟨tv, uv, rfl⟩
        all_goals
          dsimp only [errP]
          go_wp2_with fail
          go_ret2
          rw [unhide HX]
          exact ⟨⟨.nilIface, b, rfl, .inl rfl, RE⟩, T1.trans T2⟩
      | ok p q' =>
        obtain ⟨⟨e, k2, rfl, he, ho, P2⟩, T2⟩ := hr
        obtain ⟨hcg, hl⟩ := (unhide HY).2 p q' rfl
        have R3 := R1.touchP T2 (.inr nzz)
        have HF2 := hide (PrF.snoc he ho _ _ (PrF.touch T2 _ _ (unhide HF)))
        have HCG := hide (And.intro hcg hl)
        have HP2 := hide P2
        obtain ⟨te, ue, hf⟩ := e.form
        have Hf := hide hf
        rw [hf]
        clear he ho P2 hf hcg hl R1 HY HF HS
        have qf := fun j => R3.frozen j
        have q0 := R3.cell 2
        have q1 := R3.cell 0
        have q2 := R3.cell 1
        have q3 := R3.cell 2
        simp only [ptsV, List.map_cons, List.map_nil, List.length_cons, List.length_nil, List.nil_append, List.cons_append, List.getElem?_toArray, List.getElem?_cons_zero, List.getElem?_cons_succ, Nat.reduceAdd, Nat.reduceSub, List.replicate] at q0 q1 q2 q3
        dsimp only
        go_wp2_with fail
        have R4 := R3.set 2 (.iface te ue)
        have T3 := (T1.trans T2).setNewP ⟨w1.heap.size, 2, none⟩ (.iface te ue) (by show w.heap.size ≤ w1.heap.size; omega)
        have T4 := Touch.setCell (lo := w1.heap.size) (hi := w1.heap.size + 1) w2 ⟨w1.heap.size, 2, none⟩ (.iface te ue) (Nat.le_refl _) (Nat.lt_succ_self _)
        go_roundw
        case rel => exact ⟨3, [e0, e1, e], _, q', k2, rfl, by omega, rfl, PrF.setP R3 (by decide) _ _ _ _ (unhide HF2), (unhide HCG).1, by have := unhide HQ; have := (unhide HCG).2; omega, (unhide HP2).setP R3 (by decide) (by decide) _ _, by rw [ptsV]; simp only [List.map_cons, List.map_nil]; rw [unhide Hf]; exact R4, T3⟩
        case measure => simp [intOf]
    · obtain ⟨e0, e1, e2, rfl⟩ : ∃ e0 e1 e2, E = [e0, e1, e2] := by
        match E, hE with
        | [e0, e1, e2], _ => exact ⟨e0, e1, e2, rfl⟩
      obtain ⟨a, b, d, rfl, hx⟩ : ∃ a b d, L = [a, b, d] ∧ x = .ok (.ite t.at_ a b d) q := hcg
      have HX := hide hx
      have HF := hide hF
      have HP2 := hide P1
      obtain ⟨t0, u0, f0⟩ := e0.form
      obtain ⟨t1, u1, f1⟩ := e1.form
      obtain ⟨t2, u2, f2⟩ := e2.form
      have q1 := R1.cell 0
      have q2 := R1.cell 1
      have q3 := R1.cell 2
      simp only [ptsV, List.map_cons, List.map_nil, List.length_cons, List.length_nil, List.nil_append, List.cons_append, List.getElem?_toArray, List.getElem?_cons_zero, List.getElem?_cons_succ, f0, f1, f2] at q1 q2 q3
      have HV := hide (And.intro f0 (And.intro f1 f2))
      clear hx hF P1 hE hq hi f0 f1 f2 HC HH HP
      go_wp2_with fail
      go_ret2
      rw [unhide HX]
      obtain ⟨⟨g0, o0, g1, o1, g2, o2, _⟩, f0, f1, f2⟩ := And.intro (unhide HF) (unhide HV)
      exact ⟨⟨.ite t.at_ e0 e1 e2, k', by rw [Ex.val, f0, f1, f2]; rfl, ⟨rfl, g0, g1, g2⟩, ⟨o0, o1, o2⟩, unhide HP2⟩, T1⟩

set_option maxHeartbeats 1600000 in
theorem expr_step (hp : 17 ≤ pb) (ts : List Tok) (x : PR) (d : D .expr ts x) (IC : ∀ x, D (.chain 1) ts x → CS aY pb g c T tl (.chain 1) ts x) (IB : ∀ s r' x, D (.beh s) r' x → r'.length ≤ ts.length → CS aY pb g c T tl (.beh s) r' x) : CS aY pb g c T tl .expr ts x := by
  intro w kk h hg
  show Calls Tryz.prog 103 #[.pointer (some ⟨pb, 0, none⟩)] w (PrA aY pb g c T tl x w)
  have HS := hide (sees_any h kIf)
  have key : (sees kIf ts = false ∧ D (.chain 1) ts x) ∨ (∃ t r, ts = t :: r ∧ see kIf t = true ∧ Cg t.at_ x 3 [] (t :: r)) := by
    cases hs : sees kIf ts
    · left
      cases d with
      | expr_no h d => exact ⟨rfl, d⟩
      | expr_if1 hh _ => rw [sees, hh] at hs; cases hs
      | expr_if2 hh _ _ => rw [sees, hh] at hs; cases hs
      | expr_if3 hh _ _ _ => rw [sees, hh] at hs; cases hs
      | expr_if hh _ _ _ => rw [sees, hh] at hs; cases hs
    · cases ts with
      | nil => cases hs
      | cons t r => exact .inr ⟨t, r, rfl, hs, d.choice hs⟩
  clear d
  rcases key with ⟨hs, d⟩ | ⟨t, r, rfl, hs, hc⟩
  · have HE := hide hs
    have HI : Hid (∀ w', Below w.heap.size w w' → Calls Tryz.prog 111 #[.pointer (some ⟨pb, 0, none⟩), .int .i64 1] w' (PrA aY pb g c T tl x w')) := hide (fun w' hb => IC _ d w' kk (h.below hb) (hg.below hb))
    clear h hg IC IB hs d
    go_enter Tryz.func103, Tryz.ntmps103
    go_wp2_with fail
    refine (unhide HS).mono ?_
    rintro e w1 ⟨rfl, hb⟩
    rw [unhide HE]
    dsimp only
    go_wp2_with fail
    refine (unhide HI w1 hb).mono ?_
    intro r w2 hr
    obtain ⟨v, e, rfl, hv, he⟩ := hr.form
    have HR := hide (hr.from (Touch.of_below hb (Nat.le_refl _)))
    clear hr
    dsimp only
    go_wp2_with fail
    go_ret2
    exact unhide HR
  · have HE := hide (show sees kIf (t :: r) = true from hs)
    have HI := hide (fun w' (hb : Below w.heap.size w w') => choice_any hp t r x hc IB w' kk (h.below hb) (hg.below hb))
    clear h hg IC IB hs hc
    go_enter Tryz.func103, Tryz.ntmps103
    go_wp2_with fail
    refine (unhide HS).mono ?_
    rintro e w1 ⟨rfl, hb⟩
    rw [unhide HE]
    dsimp only
    go_wp2_with fail
    refine (unhide HI w1 hb).mono ?_
    intro r w2 hr
    obtain ⟨v, e, rfl, hv, he⟩ := hr.form
    have HR := hide (hr.from (Touch.of_below hb (Nat.le_refl _)))
    clear hr
    dsimp only
    go_wp2_with fail
    go_ret2
    exact unhide HR

end Go.Proofs.YtcehablmloleaaaGreatDoor

namespace Go.Proofs.YtcehablmloleaaaGreatDoor
open Go.RowKit
set_option linter.unusedVariables false
variable {aY : Addr} {pb g c : Nat} {T : List Tok} {tl : Nat}

theorem rules_any (hp : 17 ≤ pb) : ∀ (n : Nat) (nt : NT) (ts : List Tok) (x : PR), D nt ts x → nt.good → nt.slow = false → ts.length * 17 + nt.rank ≤ n → CS aY pb g c T tl nt ts x := by
  intro n
  induction n using Nat.strongRecOn with
  | ind n ih =>
    intro nt ts x d hg hs hm
    have IH : ∀ nt' r y, D nt' r y → nt'.good → nt'.slow = false → r.length * 17 + nt'.rank < ts.length * 17 + nt.rank → CS aY pb g c T tl nt' r y := fun nt' r y d' hg' hs' hlt => ih _ (by omega) nt' r y d' hg' hs' (Nat.le_refl _)
    have rk : ∀ nt' : NT, nt'.slow = false → nt'.rank ≤ 15 := fun nt' h => by
      cases nt' with
      | more k e => cases h
      | opd k => simp only [NT.rank]; split <;> (try split) <;> (try split) <;> (try split) <;> omega
      | chain k => simp only [NT.rank]; split <;> (try split) <;> (try split) <;> omega
      | _ => simp [NT.rank]
    cases nt with
    | more k e => cases hs
    | beh s => exact beh_step hp s ts x d (fun r x d' hl => IH _ _ _ d' trivial rfl (by simp only [NT.rank]; omega))
    | encl => exact encl_step hp ts x d (fun x d' => IH _ _ _ d' trivial rfl (by simp only [NT.rank]; omega))
    | prim => exact prim_step hp ts x d (fun r x d' hl => IH _ _ _ d' trivial rfl (by simp only [NT.rank]; omega))
    | una => exact una_step hp ts x d (fun x d' => IH _ _ _ d' trivial rfl (by simp only [NT.rank]; omega)) (fun r x d' hl => IH _ _ _ d' trivial rfl (by simp only [NT.rank]; omega))
    | neg => exact neg_step hp ts x d (fun x d' => IH _ _ _ d' trivial rfl (by simp only [NT.rank]; omega)) (fun r x d' hl => IH _ _ _ d' trivial rfl (by simp only [NT.rank]; omega))
    | cmp => exact cmp_step hp ts x d (fun r x d' hl => IH _ _ _ d' (.inr (.inr (.inl rfl))) rfl (by simp [NT.rank]; omega))
    | opd k => exact opd_step k ts x d (fun nt' x d' hg' hlt => by
        cases hs' : nt'.slow
        · exact IH _ _ _ d' hg' hs' (by omega)
        · cases nt' with
          | more k' e => exfalso; have : (NT.opd k).rank ≤ 15 := rk _ rfl; simp only [NT.rank] at hlt this; omega
          | _ => cases hs')
    | chain k =>
      have hr : (NT.opd k).rank + 1 = (NT.chain k).rank := by simp [NT.good] at hg; rcases hg with rfl | rfl | rfl | rfl <;> rfl
      exact chain_step hp k ts x d (fun r x d' hl => IH _ _ _ d' (by simp [NT.good] at hg ⊢; omega) rfl (by omega))
    | expr => exact expr_step hp ts x d (fun x d' => IH _ _ _ d' (.inl rfl) rfl (by simp [NT.rank])) (fun s r x d' hl => IH _ _ _ d' trivial rfl (by simp only [NT.rank]; omega))

theorem beh_any (hp : 17 ≤ pb) (s : List UInt8) (ts : List Tok) (x : PR) (d : D (.beh s) ts x) (w : World) (k : Nat) (h : Pp w pb g c T tl ts k) (hg : Gy w aY) :
    Calls Tryz.prog 96 #[.pointer (some ⟨pb, 0, none⟩), .string (ofL s)] w (PrA aY pb g c T tl x w) := rules_any hp _ (.beh s) ts x d trivial rfl (Nat.le_refl _) w k h hg

end Go.Proofs.YtcehablmloleaaaGreatDoor
