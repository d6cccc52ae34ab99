/-
  QA, JT0, JT, OWX. Own work.
-/
import Derived.Test.YtddpcehgopeklaaGreatDoorMXAB
import Derived.Lib.ItoaNum
import Derived.Test.YtddpcehgopeklaaGreatDoorMXAA
import Derived.Test.YtddpcehgopeklaaGreatDoorMXAF
import Derived.Laws.AppendOwn
namespace Go.Proofs.YtddpcehgopeklaaGreatDoor
open Go.RowKit
set_option linter.unusedVariables false

/-- a tree; a set bears where its names lie -/
inductive Ex where
  | int (i n : Int)
  | text (i : Int) (s : ByteArray)
  | bool (i : Int) (b : Bool)
  | set (i : Int) (a : Option Addr) (n c : Nat) (ss : List ByteArray)
  | name (i : Int) (s : ByteArray)
  | attr (i n : Int)
  | lett (i n : Int)
  | un (i op : Int) (k : Ex)
  | bin (i op : Int) (l r : Ex)
  | ite (i : Int) (c t e : Ex)

def Ex.val : Ex → Value
  | .int i n => .iface 198 (.agg #[.int .i64 i, .int .i64 n])
  | .text i s => .iface 200 (.agg #[.int .i64 i, .string s])
  | .bool i b => .iface 202 (.agg #[.int .i64 i, .bool b])
  | .set i a n c _ => .iface 204 (.agg #[.int .i64 i, .slice a n c])
  | .name i s => .iface 127 (.agg #[.int .i64 i, .string s])
  | .attr i n => .iface 131 (.agg #[.int .i64 i, .int .i64 n])
  | .lett i n => .iface 130 (.agg #[.int .i64 i, .int .i64 n])
  | .un i op k => .iface 168 (.agg #[.int .i64 i, .int .i64 op, k.val])
  | .bin i op l r => .iface 170 (.agg #[.int .i64 i, .int .i64 op, l.val, r.val])
  | .ite i c t e => .iface 172 (.agg #[.int .i64 i, c.val, t.val, e.val])

def Ex.op : Ex → Int
  | .int .. => 1 | .text .. => 2 | .bool .. => 3 | .set .. => 4 | .name .. => 5 | .attr .. => 6 | .lett .. => 7
  | .un _ op _ => op | .bin _ op _ _ => op | .ite .. => 27

def Ex.cnt : Ex → Nat
  | .un _ _ k => k.cnt + 1
  | .bin _ _ l r => l.cnt + r.cnt + 1
  | .ite _ c t e => c.cnt + t.cnt + e.cnt + 1
  | _ => 1

/-- the level of an operator -/
def lvN (op : Int) : Int :=
  if op = 27 then 0 else if op = 26 then 1 else if op = 25 then 2 else if op = 9 then 3 else if 19 ≤ op ∧ op ≤ 24 then 4
  else if op = 11 ∨ op = 12 ∨ op = 16 ∨ op = 18 then 5 else if op = 13 ∨ op = 14 ∨ op = 15 ∨ op = 17 then 6 else if op = 8 then 7 else 8

def signs : List ByteArray := [⟨#[43]⟩, ⟨#[45]⟩, ⟨#[42]⟩, ⟨#[47]⟩, ⟨#[37]⟩, ⟨#[124]⟩, ⟨#[38]⟩, ⟨#[92]⟩, ⟨#[61, 61]⟩, ⟨#[33, 61]⟩, ⟨#[60]⟩, ⟨#[60, 61]⟩, ⟨#[105, 110]⟩, ⟨#[119, 105, 116, 104, 105, 110]⟩, ⟨#[97, 110, 100]⟩, ⟨#[111, 114]⟩]

def signB (op : Int) : ByteArray := signs.getD (op - 11).toNat ⟨#[]⟩

def numB (k : Nat) : ByteArray := ⟨(Lib.decDigits k).toArray⟩

/-- the names of a set, each in quotes, with commas between -/
def itemsT (first : Bool) : List ByteArray → ByteArray
  | [] => ⟨#[]⟩
  | x :: r => (if first then ⟨#[]⟩ else ⟨#[44, 32]⟩) ++ (⟨#[34]⟩ ++ x ++ ⟨#[34]⟩) ++ itemsT false r

def setT (ss : List ByteArray) : ByteArray := ⟨#[123]⟩ ++ itemsT true ss ++ ⟨#[125]⟩

def par (b : Bool) (s : ByteArray) : ByteArray := if b then ⟨#[40]⟩ ++ s ++ ⟨#[41]⟩ else s

/-- the level that the left side of an operator is written for -/
def leftN (op : Int) : Int := if lvN op = 4 then 5 else lvN op

/-- a tree, with no parentheses about it -/
def Ex.pr : Ex → ByteArray
  | .int _ n => numB n.toNat
  | .text _ s => ⟨#[34]⟩ ++ s ++ ⟨#[34]⟩
  | .bool _ b => if b then ⟨#[116, 114, 117, 101]⟩ else ⟨#[102, 97, 108, 115, 101]⟩
  | .set _ _ _ _ ss => setT ss
  | .name _ s => s
  | .attr .. => ⟨#[]⟩
  | .lett .. => ⟨#[]⟩
  | .un _ op k => if op = 8 then ⟨#[45]⟩ ++ par (decide (lvN k.op < 7)) k.pr else if op = 9 then ⟨#[110, 111, 116, 32]⟩ ++ par (decide (lvN k.op < 3)) k.pr
    else ⟨#[115, 105, 122, 101, 40]⟩ ++ k.pr ++ ⟨#[41]⟩
  | .bin _ op l r => par (decide (lvN l.op < leftN op)) l.pr ++ (⟨#[32]⟩ ++ signB op ++ ⟨#[32]⟩) ++ par (decide (lvN r.op < lvN op + 1)) r.pr
  | .ite _ c t e => ⟨#[105, 102, 32]⟩ ++ c.pr ++ ⟨#[32, 116, 104, 101, 110, 32]⟩ ++ t.pr ++ ⟨#[32, 101, 108, 115, 101, 32]⟩ ++ e.pr

/-- a tree, for a place that wants a level -/
def Ex.put (e : Ex) (want : Int) : ByteArray := par (decide (lvN e.op < want)) e.pr

/-- what a printed tree is like -/
def Ex.fit (w : World) : Ex → Prop
  | .int _ n => 0 ≤ n ∧ n ≤ 9223372036854775807
  | .text _ s => s.size ≤ 32
  | .bool .. => True
  | .set _ a n c ss => Strs w a n c ss ∧ n ≤ 64 ∧ ∀ x ∈ ss, x.size ≤ 32
  | .name _ s => s.size ≤ 32
  | .attr .. => False
  | .lett .. => False
  | .un _ op k => (8 ≤ op ∧ op ≤ 10) ∧ k.fit w
  | .bin _ op l r => (11 ≤ op ∧ op ≤ 26) ∧ l.fit w ∧ r.fit w
  | .ite _ c t e => c.fit w ∧ t.fit w ∧ e.fit w

/-- it is the tree of a node -/
inductive IsT (N : List Nd) : Nat → Ex → Prop
  | int {i : Nat} {x : Nd} (h : N[i]? = some x) (ho : x.op = 1) (hk : x.kids = []) : IsT N i (.int i x.num)
  | text {i : Nat} {x : Nd} (h : N[i]? = some x) (ho : x.op = 2) (hk : x.kids = []) : IsT N i (.text i x.text)
  | bool {i : Nat} {x : Nd} (h : N[i]? = some x) (ho : x.op = 3) (hk : x.kids = []) : IsT N i (.bool i (decide (x.num = 1)))
  | set {i : Nat} {x : Nd} (h : N[i]? = some x) (ho : x.op = 4) (hk : x.kids = []) (a : Option Addr) (n c : Nat) : IsT N i (.set i a n c x.names)
  | name {i : Nat} {x : Nd} (h : N[i]? = some x) (ho : x.op = 5) (hk : x.kids = []) : IsT N i (.name i x.text)
  | attr {i : Nat} {x : Nd} (h : N[i]? = some x) (ho : x.op = 6) (hk : x.kids = []) : IsT N i (.attr i x.num)
  | lett {i : Nat} {x : Nd} (h : N[i]? = some x) (ho : x.op = 7) (hk : x.kids = []) : IsT N i (.lett i x.num)
  | un {i k : Nat} {x : Nd} {e : Ex} (h : N[i]? = some x) (ho : 8 ≤ x.op ∧ x.op ≤ 10) (hk : x.kids = [(k : Int)]) (hi : k < i) (t : IsT N k e) : IsT N i (.un i x.op e)
  | bin {i k l : Nat} {x : Nd} {e f : Ex} (h : N[i]? = some x) (ho : 11 ≤ x.op ∧ x.op ≤ 26) (hk : x.kids = [(k : Int), (l : Int)]) (hi : k < i ∧ l < i) (t : IsT N k e) (u : IsT N l f) : IsT N i (.bin i x.op e f)
  | ite {i k l m : Nat} {x : Nd} {e f g : Ex} (h : N[i]? = some x) (ho : x.op = 27) (hk : x.kids = [(k : Int), (l : Int), (m : Int)]) (hi : k < i ∧ l < i ∧ m < i) (t : IsT N k e) (u : IsT N l f) (v : IsT N m g) : IsT N i (.ite i e f g)

theorem IsT.lt {N : List Nd} {i : Nat} {e : Ex} (h : IsT N i e) : i < N.length := by
  cases h <;> exact (List.getElem?_eq_some_iff.1 (by assumption)).1

theorem IsT.op {N : List Nd} {i : Nat} {e : Ex} (h : IsT N i e) : ∃ x, N[i]? = some x ∧ x.op = e.op := by
  cases h <;> exact ⟨_, by assumption, by first | assumption | rfl⟩

def cnts (Es : List Ex) : Nat := (Es.map Ex.cnt).sum

/-- the trees of a forest have as many nodes as it has -/
theorem forest_cnt {N : List Nd} {a b : Nat} {fs : List (Nat × Nat)} (h : Forest (N.map Nd.kids) a fs b) : ∀ (Es : List Ex), Es.length = fs.length → (∀ j, (h1 : j < fs.length) → (h2 : j < Es.length) → IsT N fs[j].1 Es[j]) → a + cnts Es = b := by
  induction h with
  | nil a =>
    intro Es hl _
    have : Es = [] := List.eq_nil_of_length_eq_zero hl
    subst this
    simp [cnts]
  | @cons a t b ks fs hk ht hf i1 i2 =>
    intro Es hl hE
    match Es, hl with
    | e :: Es, hl =>
      have he : IsT N t e := hE 0 (by simp) (by simp)
      have hr := i2 Es (by simpa using hl) (fun j h1 h2 => hE (j + 1) (by simpa using h1) (by simpa using h2))
      have hkid : ∃ x, N[t]? = some x ∧ x.kids = topsI ks := by
        rw [List.getElem?_map] at ht
        cases hx : N[t]? with
        | none => rw [hx] at ht; cases ht
        | some x => rw [hx] at ht; exact ⟨x, rfl, Option.some.inj ht⟩
      obtain ⟨x, hx, hxk⟩ := hkid
      have key : a + e.cnt = t + 1 := by
        have kk : ∀ (Fs : List Ex) (qs : List Nat), x.kids = qs.map (fun (q : Nat) => (q : Int)) → Fs.length = qs.length → (∀ j, (h1 : j < qs.length) → (h2 : j < Fs.length) → IsT N qs[j] Fs[j]) → a + cnts Fs = t := by
          intro Fs qs hq hFl hF
          have e1 : ks.map (fun p => p.1) = qs := by
            have := hxk.symm.trans hq
            rw [topsI] at this
            have h2 := congrArg (List.map Int.toNat) this
            simpa [List.map_map, Function.comp_def] using h2
          have e2 : ks.length = Fs.length := by rw [hFl, ← e1, List.length_map]
          exact (i1 Fs e2.symm (fun j h1 h2 => by
            have := hF j (by rw [← e1, List.length_map]; exact h1) h2
            have e3 : qs[j]'(by rw [← e1, List.length_map]; exact h1) = ks[j].1 := by simp [← e1]
            rw [← e3]
            exact this))
        have one : ∀ {y : Nd}, N[t]? = some y → y = x := fun h => Option.some.inj (h.symm.trans hx)
        have none' : x.kids = [] → a = t := fun h0 => by
          have := kk [] [] (by rw [h0]; rfl) rfl (fun j h => absurd h (by simp))
          simpa [cnts] using this
        cases he with
        | int h ho hk => rw [none' (one h ▸ hk)]; rfl
        | text h ho hk => rw [none' (one h ▸ hk)]; rfl
        | bool h ho hk => rw [none' (one h ▸ hk)]; rfl
        | set h ho hk a n c => rw [none' (one h ▸ hk)]; rfl
        | name h ho hk => rw [none' (one h ▸ hk)]; rfl
        | attr h ho hk => rw [none' (one h ▸ hk)]; rfl
        | lett h ho hk => rw [none' (one h ▸ hk)]; rfl
        | @un i k y e h ho hk hi u =>
          have := kk [e] [k] (by rw [← one h, hk]; rfl) rfl (fun j h1 h2 => by
            have : j = 0 := by simpa using h1
            subst this
            exact u)
          simp [cnts] at this
          simp only [Ex.cnt]
          omega
        | @bin i k l y e f h ho hk hi u v =>
          have := kk [e, f] [k, l] (by rw [← one h, hk]; rfl) rfl (fun j h1 h2 => by
            match j, h1 with
            | 0, _ => exact u
            | 1, _ => exact v)
          simp [cnts] at this
          simp only [Ex.cnt]
          omega
        | @ite i k l m y e f g h ho hk hi u v z =>
          have := kk [e, f, g] [k, l, m] (by rw [← one h, hk]; rfl) rfl (fun j h1 h2 => by
            match j, h1 with
            | 0, _ => exact u
            | 1, _ => exact v
            | 2, _ => exact z)
          simp [cnts] at this
          simp only [Ex.cnt]
          omega
      have e5 : cnts (e :: Es) = e.cnt + cnts Es := by simp [cnts]
      rw [e5]
      omega

end Go.Proofs.YtddpcehgopeklaaGreatDoor

namespace Go.Proofs.YtddpcehgopeklaaGreatDoor
open Go.RowKit
set_option linter.unusedVariables false

def attrTy (n : Int) : Int := if n < 2 then 3 else if n < 4 then 2 else 4

/-- the type that an operator gives over the types of its kids; 0: they do not fit -/
def tyOp (op : Int) : List Int → Int
  | [a] => if op = 8 ∧ a = 2 then 2 else if op = 9 ∧ a = 1 then 1 else if op = 10 ∧ a = 4 then 2 else 0
  | [a, b] => if (11 ≤ op ∧ op ≤ 15) ∧ a = 2 ∧ b = 2 then 2 else if (16 ≤ op ∧ op ≤ 18) ∧ a = 4 ∧ b = 4 then 4
    else if (op = 19 ∨ op = 20) ∧ a = b then 1 else if (op = 21 ∨ op = 22) ∧ a = 2 ∧ b = 2 then 1 else if op = 23 ∧ a = 3 ∧ b = 4 then 1
    else if op = 24 ∧ a = 4 ∧ b = 4 then 1 else if (op = 25 ∨ op = 26) ∧ a = 1 ∧ b = 1 then 1 else 0
  | [a, b, c] => if a = 1 ∧ b = c then b else 0
  | _ => 0

/-- a type, or none -/
def nz (t : Int) : Option Int := if t = 0 then none else some t

theorem nz_some {t a : Int} (h : nz t = some a) : t = a ∧ a ≠ 0 := by
  unfold nz at h
  split at h
  · cases h
  · cases h; exact ⟨rfl, by assumption⟩

end Go.Proofs.YtddpcehgopeklaaGreatDoor

namespace Go.Proofs.YtddpcehgopeklaaGreatDoor
open Go.RowKit
set_option linter.unusedVariables false

/-- the type of a typed policy's tree, under the types of its lets -/
def tyE (ts : List Int) : Ex → Option Int
  | .int .. => some 2
  | .text .. => some 3
  | .bool .. => some 1
  | .set .. => some 4
  | .name .. => none
  | .attr _ n => some (attrTy n)
  | .lett _ n => if 0 ≤ n then ts[n.toNat]? else none
  | .un _ op k => match tyE ts k with
    | some a => nz (tyOp op [a])
    | none => none
  | .bin _ op l r => match tyE ts l with
    | some a => match tyE ts r with
      | some b => nz (tyOp op [a, b])
      | none => none
    | none => none
  | .ite _ c t e => match tyE ts c with
    | some a => match tyE ts t with
      | some b => match tyE ts e with
        | some d => nz (tyOp 27 [a, b, d])
        | none => none
      | none => none
    | none => none

/-- the kids of a tree -/
def Ex.kids : Ex → List Ex
  | .un _ _ k => [k]
  | .bin _ _ l r => [l, r]
  | .ite _ c t e => [c, t, e]
  | _ => []

/-- the types of all its nodes, in their order -/
def tysE (ts : List Int) : Ex → List Int
  | .un i op k => tysE ts k ++ [(tyE ts (.un i op k)).getD 0]
  | .bin i op l r => tysE ts l ++ tysE ts r ++ [(tyE ts (.bin i op l r)).getD 0]
  | .ite i c t e => tysE ts c ++ tysE ts t ++ tysE ts e ++ [(tyE ts (.ite i c t e)).getD 0]
  | e => [(tyE ts e).getD 0]

end Go.Proofs.YtddpcehgopeklaaGreatDoor

namespace Go.Proofs.YtddpcehgopeklaaGreatDoor
open Go.RowKit
set_option linter.unusedVariables false

/-- a row that is owned, shorter -/
theorem ownsRow_short {w : World} {base : Nat} {e : TypeId} {size : Nat} {x : Option Addr} {n m c : Nat} {xs : List Value} (h : w.ownsRow base e size (.slice x n c) n xs) (hm : m ≤ n) : w.ownsRow base e size (.slice x m c) m (xs.take (m * size)) := by
  have hl : m * size ≤ n * size := Nat.mul_le_mul_right _ hm
  refine ⟨by rw [List.length_take, h.1]; omega, ?_⟩
  rcases h.2 with ⟨hv, hn⟩ | ⟨g, cap, cur, hv, h1, h2, h3, h4, h5, h6⟩
  · cases hv
    exact .inl ⟨by rw [show m = 0 by omega], by omega⟩
  · cases hv
    refine .inr ⟨g, c, cur, rfl, h1, h2, by omega, h4, h5, ?_⟩
    rw [← h6, List.take_take]
    congr 1
    omega

theorem ownsRow_below {w w' : World} {base : Nat} {e : TypeId} {size : Nat} {v : Value} {n B : Nat} {xs : List Value} (h : w.ownsRow base e size v n xs) (hb : Below B w w') (hB : w.heap.size ≤ B) : w'.ownsRow base e size v n xs := by
  refine ⟨h.1, ?_⟩
  rcases h.2 with hn | ⟨g, cap, cur, hv, h1, h2, h3⟩
  · exact .inl hn
  · exact .inr ⟨g, cap, cur, hv, h1, (hb.block g (Nat.lt_of_lt_of_le (Array.getElem?_eq_some_iff.1 h2).1 hB)).trans h2, h3⟩

theorem owns_form2 {w : World} {base e size n : Nat} {v : Value} {xs : List Value} (h : w.ownsRow base e size v n xs) : ∃ x c, v = .slice x n c ∧ (0 < n → ∃ g, x = some ⟨g, 0, none⟩ ∧ base ≤ g ∧ ∀ j u, xs[j]? = some u → w.cell? ⟨g, j, none⟩ = some u) := by
  rcases h.2 with ⟨rfl, rfl⟩ | ⟨g, cap, cur, rfl, hb, _⟩
  · exact ⟨_, _, rfl, fun h => absurd h (by omega)⟩
  · refine ⟨_, _, rfl, fun _ => ⟨g, rfl, hb, fun j u hu => ?_⟩⟩
    have := h.cells (g := g) rfl j u hu
    have hadd : (⟨g, 0, none⟩ : Addr).add j = ⟨g, j, none⟩ := by unfold Addr.add; split <;> simp_all
    rwa [hadd] at this

theorem owns_blocks2 {w w' : World} {base : Nat} {e : TypeId} {size n : Nat} {v : Value} {xs : List Value} (h : w.ownsRow base e size v n xs) (hd : ∀ q, v.ownBlock = some q → w'.heap[q]? = w.heap[q]?) : w'.ownsRow base e size v n xs := by
  refine ⟨h.1, ?_⟩
  rcases h.2 with h2 | ⟨g, cap, cur, hv, h3, hg, h4⟩
  · exact .inl h2
  · exact .inr ⟨g, cap, cur, hv, h3, (hd g (by rw [hv]; rfl)).trans hg, h4⟩

theorem own_set3 {w : World} {base : Nat} {e : TypeId} {size n : Nat} {v : Value} {xs : List Value} (h : w.ownsRow base e size v n xs) (p : Addr) (u : Value) (hp : ∀ q, v.ownBlock = some q → q ≠ p.block) : (w.setCell p u).ownsRow base e size v n xs :=
  owns_blocks2 h (fun q hq => heap_setCell_other w p q u (hp q hq))

theorem own_ne_row {w : World} {B cb n size : Nat} {e T : TypeId} {v : Value} {xs : List Value} {cs : Array Value} (R : Row w cb cs T) (h : w.ownsRow B e size v n xs) (hT : T ≠ e) : v.ownBlock ≠ some cb := fun hq => by
  rcases h.2 with ⟨hv, _⟩ | ⟨g, cap, cur, hv, _, hg, _⟩
  · rw [hv] at hq; cases hq
  · rw [hv] at hq
    obtain rfl : g = cb := by simpa [Value.ownBlock] using hq
    have := R.out.symm.trans hg
    simp at this
    exact hT this.2

end Go.Proofs.YtddpcehgopeklaaGreatDoor
