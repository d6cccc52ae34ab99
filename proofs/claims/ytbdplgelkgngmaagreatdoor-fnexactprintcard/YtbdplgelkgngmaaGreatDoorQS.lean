/-
  All trees, written by the model. Own work.
-/
import Derived.Test.YtbdplgelkgngmaaGreatDoorQR
import Derived.Test.YtbdplgelkgngmaaGreatDoorQN
namespace Go.Proofs.YtbdplgelkgngmaaGreatDoor
open Go.RowKit
set_option linter.unusedVariables false

theorem lvN_bin {op : Int} (h : 11 ≤ op ∧ op ≤ 26) : lvN op = 1 ∨ lvN op = 2 ∨ lvN op = 4 ∨ lvN op = 5 ∨ lvN op = 6 := by
  have : op = 11 ∨ op = 12 ∨ op = 13 ∨ op = 14 ∨ op = 15 ∨ op = 16 ∨ op = 17 ∨ op = 18 ∨ op = 19 ∨ op = 20 ∨ op = 21 ∨ op = 22 ∨ op = 23 ∨ op = 24 ∨ op = 25 ∨ op = 26 := by omega
  rcases this with e | e | e | e | e | e | e | e | e | e | e | e | e | e | e | e <;> subst e <;> decide

theorem l2put_any (w : World) (a : Option Addr) (n c : Nat) (N : List Nd) (h : Nds w a n c N) : ∀ (e : Ex) (i : Nat), IsT N i e → e.fit w → e.cnt ≤ 4000 → PutV w a n c i e.put
  | e, i, t, hf, hc => by
    have hz := e.pr_size hf
    have fin : ∀ (x : Nd), N[i]? = some x → x.op = e.op → (1 ≤ x.op ∧ x.op ≤ 27) → InP w a n c i x.op e.pr → PutV w a n c i e.put := fun x hx ho hr hI => by
      have := full_put w a n c N h i x hx hr e.pr (by omega) hI
      rw [ho] at this
      exact this
    cases t with
    | int hx ho hk => exact fin _ hx ho (by omega) (by rw [ho]; exact put_int w a n c N h i _ hx ho hf.1 hf.2)
    | text hx ho hk => exact fin _ hx ho (by omega) (by rw [ho]; exact put_text w a n c N h i _ hx ho hf)
    | @bool _ x hx ho hk =>
      refine fin _ hx ho (by omega) ?_
      rw [ho]
      by_cases h1 : x.num = 1
      · rw [Ex.pr, decide_eq_true h1]
        exact put_bool1 w a n c N h i _ hx ho h1
      · rw [Ex.pr, decide_eq_false h1]
        exact put_bool0 w a n c N h i _ hx ho h1
    | set hx ho hk a' n' c' => exact fin _ hx ho (by omega) (by rw [ho]; exact put_set w a n c N h i _ hx ho (by have := hf.1.len; have := hf.2.1; omega) hf.2.2)
    | name hx ho hk => exact fin _ hx ho (by omega) (by rw [ho]; exact put_name w a n c N h i _ hx ho)
    | attr hx ho hk => exact absurd hf id
    | lett hx ho hk => exact absurd hf id
    | @un _ k x e hx ho hk hi t =>
      have hcc : e.cnt ≤ 4000 := by simp only [Ex.cnt] at hc; omega
      have ih := l2put_any w a n c N h e k t hf.2 hcc
      have sz : ∀ want, (e.put want).size ≤ 50000000000 := fun want => by have := e.put_size hf.2 want; omega
      refine fin _ hx rfl (by omega) ?_
      rw [pr_un]
      have : x.op = 8 ∨ x.op = 9 ∨ x.op = 10 := by omega
      rcases this with e1 | e1 | e1
      · rw [e1]; exact put_neg w a n c N h i _ hx e1 k hk e.put ih (sz _)
      · rw [e1]; exact put_not w a n c N h i _ hx e1 k hk e.put ih (sz _)
      · rw [e1]; exact put_size w a n c N h i _ hx e1 k hk e.put ih (sz _)
    | @bin _ k l x e f hx ho hk hi t u =>
      have hcc : e.cnt ≤ 4000 ∧ f.cnt ≤ 4000 := by simp only [Ex.cnt] at hc; omega
      have ih1 := l2put_any w a n c N h e k t hf.2.1 hcc.1
      have ih2 := l2put_any w a n c N h f l u hf.2.2 hcc.2
      have s1 : ∀ want, (e.put want).size ≤ 16000010 := fun want => by have := e.put_size hf.2.1 want; omega
      have s2 : ∀ want, (f.put want).size ≤ 16000010 := fun want => by have := f.put_size hf.2.2 want; omega
      refine fin _ hx rfl (by omega) ?_
      rw [pr_bin, binT, leftN]
      rcases lvN_bin ho with e1 | e1 | e1 | e1 | e1
      · rw [e1]; exact put_lv1 w a n c N h i _ hx ho _ e1 rfl k l hk e.put f.put ih1 ih2 (s1 _) (s2 _)
      · rw [e1]; exact put_lv2 w a n c N h i _ hx ho _ e1 rfl k l hk e.put f.put ih1 ih2 (s1 _) (s2 _)
      · rw [e1]; exact put_lv4 w a n c N h i _ hx ho _ e1 rfl k l hk e.put f.put ih1 ih2 (s1 _) (s2 _)
      · rw [e1]; exact put_lv5 w a n c N h i _ hx ho _ e1 rfl k l hk e.put f.put ih1 ih2 (s1 _) (s2 _)
      · rw [e1]; exact put_lv6 w a n c N h i _ hx ho _ e1 rfl k l hk e.put f.put ih1 ih2 (s1 _) (s2 _)
    | @ite _ k l m x e f g hx ho hk hi t u v =>
      have hcc : e.cnt ≤ 4000 ∧ f.cnt ≤ 4000 ∧ g.cnt ≤ 4000 := by simp only [Ex.cnt] at hc; omega
      have ih1 := l2put_any w a n c N h e k t hf.1 hcc.1
      have ih2 := l2put_any w a n c N h f l u hf.2.1 hcc.2.1
      have ih3 := l2put_any w a n c N h g m v hf.2.2 hcc.2.2
      have s1 : ∀ want, (e.put want).size ≤ 16000010 := fun want => by have := e.put_size hf.1 want; omega
      have s2 : ∀ want, (f.put want).size ≤ 16000010 := fun want => by have := f.put_size hf.2.1 want; omega
      have s3 : ∀ want, (g.put want).size ≤ 16000010 := fun want => by have := g.put_size hf.2.2 want; omega
      refine fin _ hx ho (by omega) ?_
      rw [ho]
      have := put_ite w a n c N h i _ hx ho k l m hk e.put f.put g.put ih1 ih2 ih3 (s1 _) (s2 _) (s3 _)
      rw [put_zero, put_zero, put_zero] at this
      exact this
termination_by e => e

/-- the trees are there -/
theorem trees_ex {w : World} {a : Option Addr} {n c : Nat} {N : List Nd} (h : Nds w a n c N) (hF : ∀ x ∈ N, fieldsB x = true) (hN : ∀ x ∈ N, x.num ≤ 9223372036854775807) (hK : ∀ (i : Nat) (x : Nd), N[i]? = some x → ∀ k ∈ x.kids, 0 ≤ k ∧ k < (i : Int)) :
    ∃ Es : List Ex, Es.length = N.length ∧ (∀ j, (h : j < Es.length) → IsT N j Es[j]) ∧ ∀ e ∈ Es, e.fit w := by
  have : ∀ k, k ≤ N.length → ∃ Es : List Ex, Es.length = k ∧ (∀ j, (h : j < Es.length) → IsT N j Es[j]) ∧ ∀ e ∈ Es, e.fit w := by
    intro k
    induction k with
    | zero => exact fun _ => ⟨[], rfl, fun j hj => absurd hj (by simp), fun e he => by cases he⟩
    | succ k ih =>
      intro hk
      obtain ⟨Es, hl, hE, hf⟩ := ih (by omega)
      have hkl : k < N.length := by omega
      have hx : N[k]? = some N[k] := List.getElem?_eq_getElem hkl
      obtain ⟨b, off, _, _, an, nn, cn, ak, nk, ck, _, _, _, _, _, hS, _⟩ := h.cells k hkl
      obtain ⟨e, _, ht, hfit⟩ := mkT_of (w := w) hx (hF _ (List.getElem_mem hkl)) (hK k _ hx) (hN _ (List.getElem_mem hkl)) hl hE hf hS
      refine ⟨Es ++ [e], by simp [hl], fun j hj => ?_, fun f hf' => ?_⟩
      · by_cases hj2 : j < Es.length
        · rw [List.getElem_append_left hj2]; exact hE j hj2
        · have : j = Es.length := by simp at hj; omega
          subst this
          simp only [List.getElem_concat_length]
          rw [hl]; exact ht
      · rcases List.mem_append.1 hf' with hf' | hf'
        · exact hf f hf'
        · simp at hf'; subst hf'; exact hfit
  exact this N.length (Nat.le_refl _)

theorem IsT.inv {N : List Nd} {i : Nat} {f : Ex} (u : IsT N i f) {x : Nd} (hx : N[i]? = some x) :
    (x.op = 1 ∧ f = .int i x.num) ∨ (x.op = 2 ∧ f = .text i x.text) ∨ (x.op = 3 ∧ f = .bool i (decide (x.num = 1))) ∨ (x.op = 4 ∧ ∃ a n c, f = .set i a n c x.names) ∨ (x.op = 5 ∧ f = .name i x.text) ∨ (x.op = 6 ∧ f = .attr i x.num) ∨ (x.op = 7 ∧ f = .lett i x.num) ∨
    ((8 ≤ x.op ∧ x.op ≤ 10) ∧ ∃ (k : Nat) (e : Ex), x.kids = [(k : Int)] ∧ IsT N k e ∧ f = .un i x.op e) ∨
    ((11 ≤ x.op ∧ x.op ≤ 26) ∧ ∃ (k l : Nat) (e g : Ex), x.kids = [(k : Int), (l : Int)] ∧ IsT N k e ∧ IsT N l g ∧ f = .bin i x.op e g) ∨
    (x.op = 27 ∧ ∃ (k l m : Nat) (e g h : Ex), x.kids = [(k : Int), (l : Int), (m : Int)] ∧ IsT N k e ∧ IsT N l g ∧ IsT N m h ∧ f = .ite i e g h) := by
  have same : ∀ {y : Nd}, N[i]? = some y → y = x := fun k => Option.some.inj (k.symm.trans hx)
  cases u with
  | int h ho hk => obtain rfl := same h; exact .inl ⟨ho, rfl⟩
  | text h ho hk => obtain rfl := same h; exact .inr (.inl ⟨ho, rfl⟩)
  | bool h ho hk => obtain rfl := same h; exact .inr (.inr (.inl ⟨ho, rfl⟩))
  | set h ho hk a n c => obtain rfl := same h; exact .inr (.inr (.inr (.inl ⟨ho, a, n, c, rfl⟩)))
  | name h ho hk => obtain rfl := same h; exact .inr (.inr (.inr (.inr (.inl ⟨ho, rfl⟩))))
  | attr h ho hk => obtain rfl := same h; exact .inr (.inr (.inr (.inr (.inr (.inl ⟨ho, rfl⟩)))))
  | lett h ho hk => obtain rfl := same h; exact .inr (.inr (.inr (.inr (.inr (.inr (.inl ⟨ho, rfl⟩))))))
  | un h ho hk hi t => obtain rfl := same h; exact .inr (.inr (.inr (.inr (.inr (.inr (.inr (.inl ⟨ho, _, _, hk, t, rfl⟩)))))))
  | bin h ho hk hi t u => obtain rfl := same h; exact .inr (.inr (.inr (.inr (.inr (.inr (.inr (.inr (.inl ⟨ho, _, _, _, _, hk, t, u, rfl⟩))))))))
  | ite h ho hk hi t u v => obtain rfl := same h; exact .inr (.inr (.inr (.inr (.inr (.inr (.inr (.inr (.inr ⟨ho, _, _, _, _, _, _, hk, t, u, v, rfl⟩))))))))

/-- a node's tree is written one way -/
theorem IsT.one {N : List Nd} {i : Nat} {e : Ex} (t : IsT N i e) : ∀ {f : Ex}, IsT N i f → e.pr = f.pr ∧ e.op = f.op := by
  induction t with
  | int h ho hk => intro f u; rcases u.inv h with ⟨o, r⟩ | ⟨o, r⟩ | ⟨o, r⟩ | ⟨o, r⟩ | ⟨o, r⟩ | ⟨o, r⟩ | ⟨o, r⟩ | ⟨o, r⟩ | ⟨o, r⟩ | ⟨o, r⟩ <;> first | omega | (subst r; exact ⟨rfl, rfl⟩)
  | text h ho hk => intro f u; rcases u.inv h with ⟨o, r⟩ | ⟨o, r⟩ | ⟨o, r⟩ | ⟨o, r⟩ | ⟨o, r⟩ | ⟨o, r⟩ | ⟨o, r⟩ | ⟨o, r⟩ | ⟨o, r⟩ | ⟨o, r⟩ <;> first | omega | (subst r; exact ⟨rfl, rfl⟩)
  | bool h ho hk => intro f u; rcases u.inv h with ⟨o, r⟩ | ⟨o, r⟩ | ⟨o, r⟩ | ⟨o, r⟩ | ⟨o, r⟩ | ⟨o, r⟩ | ⟨o, r⟩ | ⟨o, r⟩ | ⟨o, r⟩ | ⟨o, r⟩ <;> first | omega | (subst r; exact ⟨rfl, rfl⟩)
  | set h ho hk a n c => intro f u; rcases u.inv h with ⟨o, r⟩ | ⟨o, r⟩ | ⟨o, r⟩ | ⟨o, r⟩ | ⟨o, r⟩ | ⟨o, r⟩ | ⟨o, r⟩ | ⟨o, r⟩ | ⟨o, r⟩ | ⟨o, r⟩ <;> first | omega | (obtain ⟨_, _, _, r⟩ := r; subst r; exact ⟨rfl, rfl⟩)
  | name h ho hk => intro f u; rcases u.inv h with ⟨o, r⟩ | ⟨o, r⟩ | ⟨o, r⟩ | ⟨o, r⟩ | ⟨o, r⟩ | ⟨o, r⟩ | ⟨o, r⟩ | ⟨o, r⟩ | ⟨o, r⟩ | ⟨o, r⟩ <;> first | omega | (subst r; exact ⟨rfl, rfl⟩)
  | attr h ho hk => intro f u; rcases u.inv h with ⟨o, r⟩ | ⟨o, r⟩ | ⟨o, r⟩ | ⟨o, r⟩ | ⟨o, r⟩ | ⟨o, r⟩ | ⟨o, r⟩ | ⟨o, r⟩ | ⟨o, r⟩ | ⟨o, r⟩ <;> first | omega | (subst r; exact ⟨rfl, rfl⟩)
  | lett h ho hk => intro f u; rcases u.inv h with ⟨o, r⟩ | ⟨o, r⟩ | ⟨o, r⟩ | ⟨o, r⟩ | ⟨o, r⟩ | ⟨o, r⟩ | ⟨o, r⟩ | ⟨o, r⟩ | ⟨o, r⟩ | ⟨o, r⟩ <;> first | omega | (subst r; exact ⟨rfl, rfl⟩)
  | un h ho hk hi t ih =>
    intro f u
    rcases u.inv h with ⟨o, r⟩ | ⟨o, r⟩ | ⟨o, r⟩ | ⟨o, r⟩ | ⟨o, r⟩ | ⟨o, r⟩ | ⟨o, r⟩ | ⟨o, k', e', hk', t', r⟩ | ⟨o, r⟩ | ⟨o, r⟩ <;> first | omega | skip
    subst r
    rw [hk] at hk'
    obtain rfl := Int.ofNat.inj (List.cons.inj hk').1
    obtain ⟨i1, i2⟩ := ih t'
    exact ⟨by simp only [Ex.pr, i1, i2], rfl⟩
  | bin h ho hk hi t u ih1 ih2 =>
    intro f v
    rcases v.inv h with ⟨o, r⟩ | ⟨o, r⟩ | ⟨o, r⟩ | ⟨o, r⟩ | ⟨o, r⟩ | ⟨o, r⟩ | ⟨o, r⟩ | ⟨o, r⟩ | ⟨o, k', l', e', g', hk', t', u', r⟩ | ⟨o, r⟩ <;> first | omega | skip
    subst r
    rw [hk] at hk'
    simp only [List.cons.injEq, and_true, Int.natCast_inj] at hk'
    obtain ⟨rfl, rfl⟩ := hk'
    obtain ⟨i1, i2⟩ := ih1 t'
    obtain ⟨j1, j2⟩ := ih2 u'
    exact ⟨by simp only [Ex.pr, i1, i2, j1, j2], rfl⟩
  | ite h ho hk hi t u v ih1 ih2 ih3 =>
    intro f z
    rcases z.inv h with ⟨o, r⟩ | ⟨o, r⟩ | ⟨o, r⟩ | ⟨o, r⟩ | ⟨o, r⟩ | ⟨o, r⟩ | ⟨o, r⟩ | ⟨o, r⟩ | ⟨o, r⟩ | ⟨o, k', l', m', e', g', h', hk', t', u', v', r⟩ <;> first | omega | skip
    subst r
    rw [hk] at hk'
    simp only [List.cons.injEq, and_true, Int.natCast_inj] at hk'
    obtain ⟨rfl, rfl, rfl⟩ := hk'
    obtain ⟨i1, i2⟩ := ih1 t'
    obtain ⟨j1, j2⟩ := ih2 u'
    obtain ⟨l1, l2⟩ := ih3 v'
    exact ⟨by simp only [Ex.pr, i1, j1, l1], rfl⟩

theorem exT_one {N : List Nd} {Es Fs : List Ex} (h1 : Es.length = N.length) (h2 : Fs.length = N.length) (hE : ∀ j, (h : j < Es.length) → IsT N j Es[j]) (hF : ∀ j, (h : j < Fs.length) → IsT N j Fs[j]) (k : Int) : exT Es k = exT Fs k := by
  rw [exT, exT]
  by_cases hk : k.toNat < N.length
  · rw [List.getElem?_eq_getElem (by omega), List.getElem?_eq_getElem (by omega)]
    exact ((hE _ (by omega)).one (hF _ (by omega))).1
  · rw [List.getElem?_eq_none (by omega), List.getElem?_eq_none (by omega)]

theorem prT_one {N : List Nd} {Es Fs : List Ex} (h1 : Es.length = N.length) (h2 : Fs.length = N.length) (hE : ∀ j, (h : j < Es.length) → IsT N j Es[j]) (hF : ∀ j, (h : j < Fs.length) → IsT N j Fs[j]) (L : List St) : prT Es L = prT Fs L := by
  have e : stT Es = stT Fs := funext fun s => by
    simp only [stT, grT, exT_one h1 h2 hE hF]
  rw [prT, prT, e]

theorem IsTxt.one {N : List Nd} {L : List St} {s t : ByteArray} (h : IsTxt N L s) (k : IsTxt N L t) : s = t := by
  rcases h with ⟨h1, rfl⟩ | ⟨h1, Es, a1, a2, rfl⟩
  · rcases k with ⟨_, rfl⟩ | ⟨k1, _⟩
    · rfl
    · rw [h1] at k1; cases k1
  · rcases k with ⟨k1, _⟩ | ⟨_, Fs, b1, b2, rfl⟩
    · rw [h1] at k1; cases k1
    · exact prT_one a1 b1 a2 b2 L

end Go.Proofs.YtbdplgelkgngmaaGreatDoor
