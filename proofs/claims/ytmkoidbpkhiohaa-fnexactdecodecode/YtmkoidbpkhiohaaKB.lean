/-
  Codes read from bytes: what was read is written as it was. Own work.
-/
import Derived.Test.YtmkoidbpkhiohaaKA
namespace Go.Proofs.Ytmkoidbpkhiohaa
open Go.RowKit
set_option linter.unusedVariables false

def okB (L : List Int) : Prop := ∀ x ∈ L, 0 ≤ x ∧ x < 256

theorem okB.app {A B : List Int} (h : okB (A ++ B)) : okB A ∧ okB B := ⟨fun x hx => h x (List.mem_append_left _ hx), fun x hx => h x (List.mem_append_right _ hx)⟩

theorem okB.take {A : List Int} (h : okB A) (n : Nat) : okB (A.take n) := fun x hx => h x (List.mem_of_mem_take hx)
theorem okB.drop {A : List Int} (h : okB A) (n : Nat) : okB (A.drop n) := fun x hx => h x (List.mem_of_mem_drop hx)

theorem w64_mod (x : Int) : ∃ q, wrap64 x = x + q * 18446744073709551616 := by
  refine ⟨(wrap64 x - x) / 18446744073709551616, ?_⟩
  unfold wrap64
  omega

theorem w64_byte (x c : Int) (h0 : 0 ≤ c) (h1 : c < 256) : byteAt (wrap64 (x * 256 + c)) 0 = c := by
  obtain ⟨q, hq⟩ := w64_mod (x * 256 + c)
  rw [hq]; unfold byteAt; simp only [Nat.mul_zero, Int.pow_zero, Int.ediv_one]; omega

theorem w64_high (x c : Int) (h0 : 0 ≤ c) (h1 : c < 256) : ∀ j, j < 7 → byteAt (wrap64 (x * 256 + c)) (j + 1) = byteAt x j := by
  obtain ⟨q, hq⟩ := w64_mod (x * 256 + c)
  rw [hq]
  intro j hj
  have : j = 0 ∨ j = 1 ∨ j = 2 ∨ j = 3 ∨ j = 4 ∨ j = 5 ∨ j = 6 := by omega
  unfold byteAt
  rcases this with rfl | rfl | rfl | rfl | rfl | rfl | rfl <;> simp <;> omega

theorem beB_high (x c : Int) (h0 : 0 ≤ c) (h1 : c < 256) : ∀ w, w ≤ 7 → beB (wrap64 (x * 256 + c)) (w + 1) = beB x w ++ [c]
  | 0, _ => by simp [beB, w64_byte x c h0 h1]
  | w + 1, h => by
    have ih := beB_high x c h0 h1 w (by omega)
    rw [beB, w64_high x c h0 h1 w (by omega), ih]
    rfl

theorem numF_snoc (L : List Int) (c : Int) : numF (L ++ [c]) = wrap64 (numF L * 256 + c) := by simp [numF, List.foldl_append]

theorem beB_numF : ∀ (n : Nat) (L : List Int), L.length = n → n ≤ 8 → okB L → beB (numF L) n = L
  | 0, L, h, _, _ => by
    have : L = [] := List.eq_nil_of_length_eq_zero h
    subst this; rfl
  | n + 1, L, h, h8, ok => by
    have hne : L ≠ [] := by intro e; subst e; simp at h
    have hL := List.dropLast_concat_getLast hne
    have hc := ok _ (List.getLast_mem hne)
    have hd : L.dropLast.length = n := by rw [List.length_dropLast, h]; rfl
    have ih := beB_numF n L.dropLast hd (by omega) (fun x hx => ok x (List.dropLast_subset L hx))
    conv => lhs; rw [← hL, numF_snoc]
    rw [beB_high _ _ hc.1 hc.2 n (by omega), ih, hL]

/-- broken, it stays so -/
def Mono {α : Type} (f : Rs → α × Rs) : Prop := ∀ s : Rs, s.2 = true → (f s).2.2 = true

theorem Agree.mono {α : Type} {f g : Rs → α × Rs} (h : Agree f g) : Mono f := fun s hs => ((h s).1 hs).1

theorem Mono.rt {α : Type} (a : α) : Mono (rt a) := fun s h => h
theorem Mono.bnd {α β : Type} {f : Rs → α × Rs} {k : α → Rs → β × Rs} (h : Mono f) (h' : ∀ a, Mono (k a)) : Mono (bnd f k) := fun s hs => h' _ _ (h s hs)

/-- where it does not break, what was read is told by the bytes that it took -/
def Snd {α : Type} (f : Rs → α × Rs) (P : α → List Int → Prop) : Prop := ∀ L, okB L → ∀ x L', f (L, false) = (x, (L', false)) → ∃ E, P x E ∧ L = E ++ L'

theorem Snd.bnd {α β : Type} {f : Rs → α × Rs} {k : α → Rs → β × Rs} {P : α → List Int → Prop} {Q : α → β → List Int → Prop} (h : Snd f P) (hm : ∀ a, Mono (k a)) (h' : ∀ a, Snd (k a) (Q a)) :
    Snd (bnd f k) (fun y E => ∃ a E1 E2, P a E1 ∧ Q a y E2 ∧ E = E1 ++ E2) := fun L ok y L'' e => by
  have e' : k (f (L, false)).1 (f (L, false)).2 = (y, (L'', false)) := e
  obtain ⟨a, L1, b⟩ : ∃ a L1, ∃ b, f (L, false) = (a, (L1, b)) := ⟨_, _, _, rfl⟩
  obtain ⟨b, hf⟩ := b
  rw [hf] at e'
  cases b with
  | true =>
    have := hm a (L1, true) rfl
    rw [e'] at this
    cases this
  | false =>
    obtain ⟨E1, p1, rfl⟩ := h L ok a L1 hf
    obtain ⟨E2, p2, rfl⟩ := h' a L1 ok.app.2 y L'' e'
    exact ⟨E1 ++ E2, ⟨a, E1, E2, p1, p2, rfl⟩, by rw [List.append_assoc]⟩

theorem Snd.rt {α : Type} (a : α) : Snd (rt a) (fun x E => x = a ∧ E = []) := fun L ok x L' e => by
  have e' : (a, (L, false)) = (x, (L', false)) := e
  cases e'
  exact ⟨[], ⟨rfl, rfl⟩, rfl⟩

theorem Snd.imp {α : Type} {f : Rs → α × Rs} {P Q : α → List Int → Prop} (h : Snd f P) (hi : ∀ x E, okB E → P x E → Q x E) : Snd f Q := fun L ok x L' e => by
  obtain ⟨E, p, rfl⟩ := h L ok x L' e
  exact ⟨E, hi x E ok.app.1 p, rfl⟩

theorem Snd.take (n : Nat) : Snd (takeI n) (fun a E => E = a ∧ a.length = n) := fun L ok x L' e => by
  unfold takeI at e
  split at e
  · cases e
  · rename_i h
    cases e
    exact ⟨L.take n, ⟨rfl, by simp at h ⊢; omega⟩, (List.take_append_drop n L).symm⟩

theorem Mono.take (n : Nat) : Mono (takeI n) := (takeAgree n).mono
theorem Mono.num (n : Nat) : Mono (numI n) := (numAgree n).mono

theorem Snd.num (n : Nat) (h8 : n ≤ 8) : Snd (numI n) (fun x E => E = beB x n ∧ E.length = n ∧ x = numF E) :=
  ((Snd.take n).bnd (fun a => Mono.rt _) (fun a => Snd.rt _)).imp fun x E ok ⟨a, E1, E2, ⟨h1, h2⟩, ⟨h3, h4⟩, h5⟩ => by
    subst h1 h3 h4
    rw [List.append_nil] at h5
    subst h5
    exact ⟨(beB_numF n _ h2 h8 ok).symm, h2, rfl⟩

theorem numF_one (x : Int) (h0 : 0 ≤ x) (h1 : x < 256) : numF [x] = x := by
  show wrap64 (0 * 256 + x) = x
  unfold wrap64; omega

theorem numF_two (x y : Int) (h0 : 0 ≤ x ∧ x < 256) (h1 : 0 ≤ y ∧ y < 256) : numF [x, y] = x * 256 + y := by
  show wrap64 (wrap64 (0 * 256 + x) * 256 + y) = _
  unfold wrap64; omega

theorem Snd.num1 : Snd (numI 1) (fun x E => E = beB x 1 ∧ E = [x] ∧ 0 ≤ x ∧ x < 256) :=
  (Snd.num 1 (by omega)).imp fun x E ok ⟨h1, h2, h3⟩ => by
    match E, h2 with
    | [y], _ =>
      have := ok y (List.mem_cons_self ..)
      rw [numF_one y this.1 this.2] at h3
      subst h3
      exact ⟨h1, rfl, this⟩

theorem Snd.num2 : Snd (numI 2) (fun x E => E = beB x 2 ∧ 0 ≤ x ∧ x < 65536) :=
  (Snd.num 2 (by omega)).imp fun x E ok ⟨h1, h2, h3⟩ => by
    match E, h2 with
    | [y, z], _ =>
      have a := ok y (List.mem_cons_self ..)
      have b := ok z (List.mem_cons_of_mem _ (List.mem_cons_self ..))
      rw [numF_two y z a b] at h3
      exact ⟨h1, by omega, by omega⟩

theorem bstr_size (L : List Int) : (bstr L).size = L.length := by simp [bstr, ByteArray.size]

theorem strB_bstr (L : List Int) (ok : okB L) : strB (bstr L) = L := by
  rw [strB, bstr]
  simp only [List.map_map]
  conv => rhs; rw [← List.map_id L]
  apply List.map_congr_left
  intro x hx
  have := ok x hx
  simp only [Function.comp, id]
  have h2 : x.toNat < 256 := by omega
  rw [UInt8.toNat_ofNat', Nat.mod_eq_of_lt (by omega)]
  omega

theorem Snd.text : Snd textI (fun s E => E = textB s ∧ s.size < 256) :=
  (Snd.num1.bnd (fun k => (Mono.take _).bnd fun a => Mono.rt _) (fun k => (Snd.take _).bnd (fun a => Mono.rt _) (fun a => Snd.rt _))).imp fun s E ok ⟨k, E1, E2, ⟨h1, h1', h0, h256⟩, ⟨a, F1, F2, ⟨g1, g2⟩, ⟨g3, g4⟩, g5⟩, h5⟩ => by
    subst g1 g4 g3
    rw [List.append_nil] at g5
    subst g5 h5
    rw [textB, bstr_size, g2, strB_bstr _ ok.app.2, h1]
    have : ((k.toNat : Nat) : Int) = k := by omega
    rw [this]
    exact ⟨rfl, by omega⟩

theorem Mono.text : Mono textI := textAgree.mono
theorem Mono.many {α : Type} {f : Rs → α × Rs} (k : Nat) : Mono (manyI f k) := fun s hs => manyI_broken k s hs

theorem Snd.many {α : Type} {f : Rs → α × Rs} {enc : α → List Int} (hf : Snd f (fun x E => E = enc x)) : ∀ k, Snd (manyI f k) (fun l E => l.length = k ∧ E = l.flatMap enc)
  | 0 => fun L ok x L' e => by
    rw [manyI] at e
    cases e
    exact ⟨[], ⟨rfl, rfl⟩, rfl⟩
  | k + 1 => fun L ok x L' e => by
    rw [manyI, if_neg (by simp)] at e
    obtain ⟨a, L1, b, h1⟩ : ∃ a L1, ∃ b, f (L, false) = (a, (L1, b)) := ⟨_, _, _, rfl⟩
    rw [h1] at e
    cases b with
    | true =>
      have := Mono.many (f := f) k (L1, true) rfl
      have e2 : (manyI f k (L1, true)).2 = (L', false) := congrArg Prod.snd e
      rw [e2] at this
      cases this
    | false =>
      obtain ⟨E1, rfl, rfl⟩ := hf L ok a L1 h1
      obtain ⟨l, L2, h2⟩ : ∃ l L2, manyI f k (L1, false) = (l, L2) := ⟨_, _, rfl⟩
      rw [h2] at e
      cases e
      obtain ⟨E2, ⟨h3, rfl⟩, rfl⟩ := Snd.many hf k L1 ok.app.2 l L' h2
      exact ⟨enc a ++ l.flatMap enc, ⟨by simp [h3], by simp⟩, by rw [List.append_assoc]⟩

theorem Mono.val : Mono valI := valAgree.mono

theorem Snd.val : Snd valI (fun v E => E = valE v) := by
  have key : ∀ k : Int, Snd (valKI k) (fun v E => beB k 1 ++ E = valE v) := fun k => by
    unfold valKI
    by_cases h1 : k = 1
    · rw [if_pos h1]
      exact (Snd.num1.bnd (fun a => Mono.rt _) (fun a => Snd.rt _)).imp fun v E ok ⟨a, E1, E2, ⟨p1, p2⟩, ⟨p3, p4⟩, p5⟩ => by
        subst p4 p3 p5 p1
        rw [valE, if_pos h1, List.append_nil]
    rw [if_neg h1]
    by_cases h2 : k = 2
    · rw [if_pos h2]
      exact ((Snd.num 8 (by omega)).bnd (fun a => Mono.rt _) (fun a => Snd.rt _)).imp fun v E ok ⟨a, E1, E2, ⟨p1, p2⟩, ⟨p3, p4⟩, p5⟩ => by
        subst p4 p3 p5
        rw [List.append_nil, valE, if_neg h1, if_pos h2, ← p1]
    rw [if_neg h2]
    by_cases h3 : k = 3
    · rw [if_pos h3]
      exact (Snd.text.bnd (fun a => Mono.rt _) (fun a => Snd.rt _)).imp fun v E ok ⟨a, E1, E2, ⟨p1, p2⟩, ⟨p3, p4⟩, p5⟩ => by
        subst p4 p3 p5 p1
        rw [valE, if_neg h1, if_neg h2, if_pos h3, List.append_nil]
    rw [if_neg h3]
    by_cases h4 : k = 4
    · rw [if_pos h4]
      exact (Snd.num1.bnd (fun n => (Mono.many _).bnd fun a => Mono.rt _) (fun n => (Snd.many (Snd.text.imp fun _ _ _ h => h.1) n.toNat).bnd (fun a => Mono.rt _) (fun a => Snd.rt _))).imp fun v E ok ⟨n, E1, E2, ⟨p1, p2, p3, p4⟩, ⟨l, F1, F2, ⟨q1, q2⟩, ⟨q3, q4⟩, q5⟩, p5⟩ => by
        subst q4 q3 q5 q2 p5
        rw [valE, if_neg h1, if_neg h2, if_neg h3, if_pos h4, List.append_nil, p1]
        have : ((l.length : Nat) : Int) = n := by omega
        simp only [this]
    rw [if_neg h4]
    exact (Snd.rt _).imp fun v E ok ⟨p3, p4⟩ => by
      subst p4 p3
      rw [valE, if_neg h1, if_neg h2, if_neg h3, if_neg h4]
  have hm : ∀ k : Int, Mono (valKI k) := fun k => by
    unfold valKI
    split
    · exact (Mono.num 1).bnd fun a => Mono.rt _
    split
    · exact (Mono.num 8).bnd fun a => Mono.rt _
    split
    · exact Mono.text.bnd fun a => Mono.rt _
    split
    · exact (Mono.num 1).bnd fun n => (Mono.many _).bnd fun a => Mono.rt _
    · exact Mono.rt _
  exact (Snd.num1.bnd hm key).imp fun v E ok ⟨k, E1, E2, ⟨p1, p2⟩, p3, p5⟩ => by
    subst p5 p1
    exact p3

theorem Snd.ins : Snd insI (fun i E => E = insE i) :=
  (Snd.num1.bnd (fun a => (Mono.num 2).bnd fun b => Mono.rt _) (fun a => Snd.num2.bnd (fun b => Mono.rt _) (fun b => Snd.rt _))).imp fun i E ok ⟨a, E1, E2, ⟨p1, p2⟩, ⟨b, F1, F2, ⟨q1, q2⟩, ⟨q3, q4⟩, q5⟩, p5⟩ => by
    subst q4 q3 q5 p5 q1 p1
    rw [insE, List.append_nil]

/-- what stands behind the mark, written -/
def bodyE (c : Cd) : List Int := beB c.pool.length 2 ++ c.pool.flatMap valE ++ beB c.slots 2 ++ beB c.ins.length 2 ++ c.ins.flatMap insE

theorem Mono.body : Mono bodyI := bodyAgree.mono

theorem Snd.body : Snd bodyI (fun c E => E = bodyE c) :=
  (Snd.num2.bnd (fun n => (Mono.many _).bnd fun p => (Mono.num 2).bnd fun sl => (Mono.num 2).bnd fun m => (Mono.many _).bnd fun i => Mono.rt _)
    (fun n => (Snd.many Snd.val n.toNat).bnd (fun p => (Mono.num 2).bnd fun sl => (Mono.num 2).bnd fun m => (Mono.many _).bnd fun i => Mono.rt _)
      (fun p => Snd.num2.bnd (fun sl => (Mono.num 2).bnd fun m => (Mono.many _).bnd fun i => Mono.rt _)
        (fun sl => Snd.num2.bnd (fun m => (Mono.many _).bnd fun i => Mono.rt _)
          (fun m => (Snd.many Snd.ins m.toNat).bnd (fun i => Mono.rt _) (fun i => Snd.rt _)))))).imp
  fun c E ok ⟨n, A1, A2, ⟨a1, a2⟩, ⟨p, B1, B2, ⟨b1, b2⟩, ⟨sl, C1, C2, ⟨c1, c2⟩, ⟨m, D1, D2, ⟨d1, d2⟩, ⟨i, G1, G2, ⟨g1, g2⟩, ⟨h1, h2⟩, g3⟩, d3⟩, c3⟩, b3⟩, a3⟩ => by
    subst h2 h1 g3 d3 c3 b3 a3 a1 b2 c1 d1 g2
    rw [bodyE]
    have e1 : ((p.length : Nat) : Int) = n := by omega
    have e2 : ((i.length : Nat) : Int) = m := by omega
    simp only [e1, e2, List.append_nil, List.append_assoc]

theorem codeE_body (c : Cd) : codeE c.pool c.slots c.ins = [80, 76, 49] ++ bodyE c := by
  rw [codeE, bodyE]; simp only [List.append_assoc]

/-- what the program's decoder gives: the code, where the bytes are a code's -/
def decI (L : List Int) : Option Cd :=
  if L.take 3 = [80, 76, 49] ∧ (bodyI (L.drop 3, false)).2 = ([], false) ∧ shapB (bodyI (L.drop 3, false)).1.pool (bodyI (L.drop 3, false)).1.slots (bodyI (L.drop 3, false)).1.ins = true then some (bodyI (L.drop 3, false)).1 else none

/-- what the model's decoder gives -/
def decS (L : List Int) : Option Cd :=
  if 3 ≤ L.length ∧ (bodyS (L.drop 3, false)).2 = ([], false) ∧ encR (bodyS (L.drop 3, false)).1.pool (bodyS (L.drop 3, false)).1.slots (bodyS (L.drop 3, false)).1.ins ≠ [] ∧ encR (bodyS (L.drop 3, false)).1.pool (bodyS (L.drop 3, false)).1.slots (bodyS (L.drop 3, false)).1.ins = L then some (bodyS (L.drop 3, false)).1 else none

theorem dec_same (L : List Int) (ok : okB L) : decI L = decS L := by
  unfold decI decS
  rcases (bodyAgree (L.drop 3, false)).2 rfl with e | ⟨e1, e2⟩
  · rw [← e]
    generalize hb : bodyI (L.drop 3, false) = B
    obtain ⟨c, s⟩ := B
    by_cases hs : s = ([], false)
    · subst hs
      obtain ⟨E, rfl, hE⟩ := Snd.body (L.drop 3) (ok.drop 3) c [] hb
      rw [List.append_nil] at hE
      have hL : L = L.take 3 ++ bodyE c := by rw [← hE, List.take_append_drop]
      by_cases hsh : shapB c.pool c.slots c.ins = true
      · have hen : encR c.pool c.slots c.ins = [80, 76, 49] ++ bodyE c := by rw [encR, if_pos hsh, codeE_body]
        by_cases hm : L.take 3 = [80, 76, 49]
        · have h3 : 3 ≤ L.length := by have := congrArg List.length hm; simp at this; omega
          rw [hm] at hL
          rw [if_pos ⟨hm, rfl, hsh⟩, if_pos ⟨h3, rfl, by rw [hen]; simp, by rw [hen]; exact hL.symm⟩]
        · rw [if_neg (fun h => hm h.1), if_neg]
          rintro ⟨_, _, _, h⟩
          apply hm
          rw [hen] at h
          rw [← h]; rfl
      · have hen : encR c.pool c.slots c.ins = [] := by rw [encR, if_neg hsh]
        rw [if_neg (fun h => hsh h.2.2), if_neg (fun h => h.2.2.1 hen)]
    · rw [if_neg (fun h => hs h.2.1), if_neg (fun h => hs h.2.1)]
  · rw [if_neg, if_neg]
    · rintro ⟨_, h, _⟩; rw [h] at e2; cases e2
    · rintro ⟨_, h, _⟩; rw [h] at e1; cases e1

end Go.Proofs.Ytmkoidbpkhiohaa
