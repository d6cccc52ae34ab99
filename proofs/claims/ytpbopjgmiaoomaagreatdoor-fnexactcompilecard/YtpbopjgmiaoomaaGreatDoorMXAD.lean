/-
  OWX, QA, PickP, Tab0, VPD, Mem, Ints0, JT0, JT. Own work.
-/
import Derived.Test.YtpbopjgmiaoomaaGreatDoorMXAB
import Derived.Laws.AppendOwn
import Derived.Test.YtpbopjgmiaoomaaGreatDoorMXAE
import Derived.Lib.ItoaNum
import Derived.WalkSpells
import Derived.WalkLawsBesides
import Derived.Deep.Draws
import Derived.Test.YtpbopjgmiaoomaaGreatDoorMXAA
namespace Go.Proofs.YtpbopjgmiaoomaaGreatDoor
open Go.RowKit
set_option linter.unusedVariables false

/-- a row that is owned, shorter -/
theorem ownsRow_short {w : World} {base : Nat} {e : TypeId} {size : Nat} {x : Option Addr} {n m c : Nat} {xs : List Value} (h : w.ownsRow base e size (.slice x n c) n xs) (hm : m ≤ n) : w.ownsRow base e size (.slice x m c) m (xs.take (m * size)) := by
  have hl : m * size ≤ n * size := Nat.mul_le_mul_right _ hm
  refine ⟨by rw [List.length_take, h.1]; omega, ?_⟩
  rcases h.2 with ⟨hv, hn⟩ | ⟨g, cap, cur, hv, h1, h2, h3, h4, h5, h6⟩
  · cases hv
    exact .inl ⟨by rw [show m = 0 by omega], by omega⟩
  · cases hv
    refine .inr ⟨g, c, cur, rfl, h1, h2, by omega, h4, h5, ?_⟩
    rw [← h6, List.take_take]
    congr 1
    omega

theorem ownsRow_below {w w' : World} {base : Nat} {e : TypeId} {size : Nat} {v : Value} {n B : Nat} {xs : List Value} (h : w.ownsRow base e size v n xs) (hb : Below B w w') (hB : w.heap.size ≤ B) : w'.ownsRow base e size v n xs := by
  refine ⟨h.1, ?_⟩
  rcases h.2 with hn | ⟨g, cap, cur, hv, h1, h2, h3⟩
  · exact .inl hn
  · exact .inr ⟨g, cap, cur, hv, h1, (hb.block g (Nat.lt_of_lt_of_le (Array.getElem?_eq_some_iff.1 h2).1 hB)).trans h2, h3⟩

theorem owns_form2 {w : World} {base e size n : Nat} {v : Value} {xs : List Value} (h : w.ownsRow base e size v n xs) : ∃ x c, v = .slice x n c ∧ (0 < n → ∃ g, x = some ⟨g, 0, none⟩ ∧ base ≤ g ∧ ∀ j u, xs[j]? = some u → w.cell? ⟨g, j, none⟩ = some u) := by
  rcases h.2 with ⟨rfl, rfl⟩ | ⟨g, cap, cur, rfl, hb, _⟩
  · exact ⟨_, _, rfl, fun h => absurd h (by omega)⟩
  · refine ⟨_, _, rfl, fun _ => ⟨g, rfl, hb, fun j u hu => ?_⟩⟩
    have := h.cells (g := g) rfl j u hu
    have hadd : (⟨g, 0, none⟩ : Addr).add j = ⟨g, j, none⟩ := by unfold Addr.add; split <;> simp_all
    rwa [hadd] at this

theorem owns_blocks2 {w w' : World} {base : Nat} {e : TypeId} {size n : Nat} {v : Value} {xs : List Value} (h : w.ownsRow base e size v n xs) (hd : ∀ q, v.ownBlock = some q → w'.heap[q]? = w.heap[q]?) : w'.ownsRow base e size v n xs := by
  refine ⟨h.1, ?_⟩
  rcases h.2 with h2 | ⟨g, cap, cur, hv, h3, hg, h4⟩
  · exact .inl h2
  · exact .inr ⟨g, cap, cur, hv, h3, (hd g (by rw [hv]; rfl)).trans hg, h4⟩

theorem own_set3 {w : World} {base : Nat} {e : TypeId} {size n : Nat} {v : Value} {xs : List Value} (h : w.ownsRow base e size v n xs) (p : Addr) (u : Value) (hp : ∀ q, v.ownBlock = some q → q ≠ p.block) : (w.setCell p u).ownsRow base e size v n xs :=
  owns_blocks2 h (fun q hq => heap_setCell_other w p q u (hp q hq))

theorem own_ne_row {w : World} {B cb n size : Nat} {e T : TypeId} {v : Value} {xs : List Value} {cs : Array Value} (R : Row w cb cs T) (h : w.ownsRow B e size v n xs) (hT : T ≠ e) : v.ownBlock ≠ some cb := fun hq => by
  rcases h.2 with ⟨hv, _⟩ | ⟨g, cap, cur, hv, _, hg, _⟩
  · rw [hv] at hq; cases hq
  · rw [hv] at hq
    obtain rfl : g = cb := by simpa [Value.ownBlock] using hq
    have := R.out.symm.trans hg
    simp at this
    exact hT this.2

end Go.Proofs.YtpbopjgmiaoomaaGreatDoor

namespace Go.Proofs.YtpbopjgmiaoomaaGreatDoor
open Go.RowKit
set_option linter.unusedVariables false

/-- a tree; a set bears where its names lie -/
inductive Ex where
  | int (i n : Int)
  | text (i : Int) (s : ByteArray)
  | bool (i : Int) (b : Bool)
  | set (i : Int) (a : Option Addr) (n c : Nat) (ss : List ByteArray)
  | name (i : Int) (s : ByteArray)
  | attr (i n : Int)
  | lett (i n : Int)
  | un (i op : Int) (k : Ex)
  | bin (i op : Int) (l r : Ex)
  | ite (i : Int) (c t e : Ex)

def Ex.val : Ex → Value
  | .int i n => .iface 181 (.agg #[.int .i64 i, .int .i64 n])
  | .text i s => .iface 183 (.agg #[.int .i64 i, .string s])
  | .bool i b => .iface 185 (.agg #[.int .i64 i, .bool b])
  | .set i a n c _ => .iface 187 (.agg #[.int .i64 i, .slice a n c])
  | .name i s => .iface 189 (.agg #[.int .i64 i, .string s])
  | .attr i n => .iface 153 (.agg #[.int .i64 i, .int .i64 n])
  | .lett i n => .iface 154 (.agg #[.int .i64 i, .int .i64 n])
  | .un i op k => .iface 156 (.agg #[.int .i64 i, .int .i64 op, k.val])
  | .bin i op l r => .iface 158 (.agg #[.int .i64 i, .int .i64 op, l.val, r.val])
  | .ite i c t e => .iface 161 (.agg #[.int .i64 i, c.val, t.val, e.val])

def Ex.op : Ex → Int
  | .int .. => 1 | .text .. => 2 | .bool .. => 3 | .set .. => 4 | .name .. => 5 | .attr .. => 6 | .lett .. => 7
  | .un _ op _ => op | .bin _ op _ _ => op | .ite .. => 27

def Ex.cnt : Ex → Nat
  | .un _ _ k => k.cnt + 1
  | .bin _ _ l r => l.cnt + r.cnt + 1
  | .ite _ c t e => c.cnt + t.cnt + e.cnt + 1
  | _ => 1

/-- the level of an operator -/
def lvN (op : Int) : Int :=
  if op = 27 then 0 else if op = 26 then 1 else if op = 25 then 2 else if op = 9 then 3 else if 19 ≤ op ∧ op ≤ 24 then 4
  else if op = 11 ∨ op = 12 ∨ op = 16 ∨ op = 18 then 5 else if op = 13 ∨ op = 14 ∨ op = 15 ∨ op = 17 then 6 else if op = 8 then 7 else 8

def signs : List ByteArray := [⟨#[43]⟩, ⟨#[45]⟩, ⟨#[42]⟩, ⟨#[47]⟩, ⟨#[37]⟩, ⟨#[124]⟩, ⟨#[38]⟩, ⟨#[92]⟩, ⟨#[61, 61]⟩, ⟨#[33, 61]⟩, ⟨#[60]⟩, ⟨#[60, 61]⟩, ⟨#[105, 110]⟩, ⟨#[119, 105, 116, 104, 105, 110]⟩, ⟨#[97, 110, 100]⟩, ⟨#[111, 114]⟩]

def signB (op : Int) : ByteArray := signs.getD (op - 11).toNat ⟨#[]⟩

def numB (k : Nat) : ByteArray := ⟨(Lib.decDigits k).toArray⟩

/-- the names of a set, each in quotes, with commas between -/
def itemsT (first : Bool) : List ByteArray → ByteArray
  | [] => ⟨#[]⟩
  | x :: r => (if first then ⟨#[]⟩ else ⟨#[44, 32]⟩) ++ (⟨#[34]⟩ ++ x ++ ⟨#[34]⟩) ++ itemsT false r

def setT (ss : List ByteArray) : ByteArray := ⟨#[123]⟩ ++ itemsT true ss ++ ⟨#[125]⟩

def par (b : Bool) (s : ByteArray) : ByteArray := if b then ⟨#[40]⟩ ++ s ++ ⟨#[41]⟩ else s

/-- the level that the left side of an operator is written for -/
def leftN (op : Int) : Int := if lvN op = 4 then 5 else lvN op

/-- a tree, with no parentheses about it -/
def Ex.pr : Ex → ByteArray
  | .int _ n => numB n.toNat
  | .text _ s => ⟨#[34]⟩ ++ s ++ ⟨#[34]⟩
  | .bool _ b => if b then ⟨#[116, 114, 117, 101]⟩ else ⟨#[102, 97, 108, 115, 101]⟩
  | .set _ _ _ _ ss => setT ss
  | .name _ s => s
  | .attr .. => ⟨#[]⟩
  | .lett .. => ⟨#[]⟩
  | .un _ op k => if op = 8 then ⟨#[45]⟩ ++ par (decide (lvN k.op < 7)) k.pr else if op = 9 then ⟨#[110, 111, 116, 32]⟩ ++ par (decide (lvN k.op < 3)) k.pr
    else ⟨#[115, 105, 122, 101, 40]⟩ ++ k.pr ++ ⟨#[41]⟩
  | .bin _ op l r => par (decide (lvN l.op < leftN op)) l.pr ++ (⟨#[32]⟩ ++ signB op ++ ⟨#[32]⟩) ++ par (decide (lvN r.op < lvN op + 1)) r.pr
  | .ite _ c t e => ⟨#[105, 102, 32]⟩ ++ c.pr ++ ⟨#[32, 116, 104, 101, 110, 32]⟩ ++ t.pr ++ ⟨#[32, 101, 108, 115, 101, 32]⟩ ++ e.pr

/-- a tree, for a place that wants a level -/
def Ex.put (e : Ex) (want : Int) : ByteArray := par (decide (lvN e.op < want)) e.pr

/-- what a printed tree is like -/
def Ex.fit (w : World) : Ex → Prop
  | .int _ n => 0 ≤ n ∧ n ≤ 9223372036854775807
  | .text _ s => s.size ≤ 32
  | .bool .. => True
  | .set _ a n c ss => Strs w a n c ss ∧ n ≤ 64 ∧ ∀ x ∈ ss, x.size ≤ 32
  | .name _ s => s.size ≤ 32
  | .attr .. => False
  | .lett .. => False
  | .un _ op k => (8 ≤ op ∧ op ≤ 10) ∧ k.fit w
  | .bin _ op l r => (11 ≤ op ∧ op ≤ 26) ∧ l.fit w ∧ r.fit w
  | .ite _ c t e => c.fit w ∧ t.fit w ∧ e.fit w

/-- it is the tree of a node -/
inductive IsT (N : List Nd) : Nat → Ex → Prop
  | int {i : Nat} {x : Nd} (h : N[i]? = some x) (ho : x.op = 1) (hk : x.kids = []) : IsT N i (.int i x.num)
  | text {i : Nat} {x : Nd} (h : N[i]? = some x) (ho : x.op = 2) (hk : x.kids = []) : IsT N i (.text i x.text)
  | bool {i : Nat} {x : Nd} (h : N[i]? = some x) (ho : x.op = 3) (hk : x.kids = []) : IsT N i (.bool i (decide (x.num = 1)))
  | set {i : Nat} {x : Nd} (h : N[i]? = some x) (ho : x.op = 4) (hk : x.kids = []) (a : Option Addr) (n c : Nat) : IsT N i (.set i a n c x.names)
  | name {i : Nat} {x : Nd} (h : N[i]? = some x) (ho : x.op = 5) (hk : x.kids = []) : IsT N i (.name i x.text)
  | attr {i : Nat} {x : Nd} (h : N[i]? = some x) (ho : x.op = 6) (hk : x.kids = []) : IsT N i (.attr i x.num)
  | lett {i : Nat} {x : Nd} (h : N[i]? = some x) (ho : x.op = 7) (hk : x.kids = []) : IsT N i (.lett i x.num)
  | un {i k : Nat} {x : Nd} {e : Ex} (h : N[i]? = some x) (ho : 8 ≤ x.op ∧ x.op ≤ 10) (hk : x.kids = [(k : Int)]) (hi : k < i) (t : IsT N k e) : IsT N i (.un i x.op e)
  | bin {i k l : Nat} {x : Nd} {e f : Ex} (h : N[i]? = some x) (ho : 11 ≤ x.op ∧ x.op ≤ 26) (hk : x.kids = [(k : Int), (l : Int)]) (hi : k < i ∧ l < i) (t : IsT N k e) (u : IsT N l f) : IsT N i (.bin i x.op e f)
  | ite {i k l m : Nat} {x : Nd} {e f g : Ex} (h : N[i]? = some x) (ho : x.op = 27) (hk : x.kids = [(k : Int), (l : Int), (m : Int)]) (hi : k < i ∧ l < i ∧ m < i) (t : IsT N k e) (u : IsT N l f) (v : IsT N m g) : IsT N i (.ite i e f g)

theorem IsT.lt {N : List Nd} {i : Nat} {e : Ex} (h : IsT N i e) : i < N.length := by
  cases h <;> exact (List.getElem?_eq_some_iff.1 (by assumption)).1

theorem IsT.op {N : List Nd} {i : Nat} {e : Ex} (h : IsT N i e) : ∃ x, N[i]? = some x ∧ x.op = e.op := by
  cases h <;> exact ⟨_, by assumption, by first | assumption | rfl⟩

def cnts (Es : List Ex) : Nat := (Es.map Ex.cnt).sum

/-- the trees of a forest have as many nodes as it has -/
theorem forest_cnt {N : List Nd} {a b : Nat} {fs : List (Nat × Nat)} (h : Forest (N.map Nd.kids) a fs b) : ∀ (Es : List Ex), Es.length = fs.length → (∀ j, (h1 : j < fs.length) → (h2 : j < Es.length) → IsT N fs[j].1 Es[j]) → a + cnts Es = b := by
  induction h with
  | nil a =>
    intro Es hl _
    have : Es = [] := List.eq_nil_of_length_eq_zero hl
    subst this
    simp [cnts]
  | @cons a t b ks fs hk ht hf i1 i2 =>
    intro Es hl hE
    match Es, hl with
    | e :: Es, hl =>
      have he : IsT N t e := hE 0 (by simp) (by simp)
      have hr := i2 Es (by simpa using hl) (fun j h1 h2 => hE (j + 1) (by simpa using h1) (by simpa using h2))
      have hkid : ∃ x, N[t]? = some x ∧ x.kids = topsI ks := by
        rw [List.getElem?_map] at ht
        cases hx : N[t]? with
        | none => rw [hx] at ht; cases ht
        | some x => rw [hx] at ht; exact ⟨x, rfl, Option.some.inj ht⟩
      obtain ⟨x, hx, hxk⟩ := hkid
      have key : a + e.cnt = t + 1 := by
        have kk : ∀ (Fs : List Ex) (qs : List Nat), x.kids = qs.map (fun (q : Nat) => (q : Int)) → Fs.length = qs.length → (∀ j, (h1 : j < qs.length) → (h2 : j < Fs.length) → IsT N qs[j] Fs[j]) → a + cnts Fs = t := by
          intro Fs qs hq hFl hF
          have e1 : ks.map (fun p => p.1) = qs := by
            have := hxk.symm.trans hq
            rw [topsI] at this
            have h2 := congrArg (List.map Int.toNat) this
            simpa [List.map_map, Function.comp_def] using h2
          have e2 : ks.length = Fs.length := by rw [hFl, ← e1, List.length_map]
          exact (i1 Fs e2.symm (fun j h1 h2 => by
            have := hF j (by rw [← e1, List.length_map]; exact h1) h2
            have e3 : qs[j]'(by rw [← e1, List.length_map]; exact h1) = ks[j].1 := by simp [← e1]
            rw [← e3]
            exact this))
        have one : ∀ {y : Nd}, N[t]? = some y → y = x := fun h => Option.some.inj (h.symm.trans hx)
        have none' : x.kids = [] → a = t := fun h0 => by
          have := kk [] [] (by rw [h0]; rfl) rfl (fun j h => absurd h (by simp))
          simpa [cnts] using this
        cases he with
        | int h ho hk => rw [none' (one h ▸ hk)]; rfl
        | text h ho hk => rw [none' (one h ▸ hk)]; rfl
        | bool h ho hk => rw [none' (one h ▸ hk)]; rfl
        | set h ho hk a n c => rw [none' (one h ▸ hk)]; rfl
        | name h ho hk => rw [none' (one h ▸ hk)]; rfl
        | attr h ho hk => rw [none' (one h ▸ hk)]; rfl
        | lett h ho hk => rw [none' (one h ▸ hk)]; rfl
        | @un i k y e h ho hk hi u =>
          have := kk [e] [k] (by rw [← one h, hk]; rfl) rfl (fun j h1 h2 => by
            have : j = 0 := by simpa using h1
            subst this
            exact u)
          simp [cnts] at this
          simp only [Ex.cnt]
          omega
        | @bin i k l y e f h ho hk hi u v =>
          have := kk [e, f] [k, l] (by rw [← one h, hk]; rfl) rfl (fun j h1 h2 => by
            match j, h1 with
            | 0, _ => exact u
            | 1, _ => exact v)
          simp [cnts] at this
          simp only [Ex.cnt]
          omega
        | @ite i k l m y e f g h ho hk hi u v z =>
          have := kk [e, f, g] [k, l, m] (by rw [← one h, hk]; rfl) rfl (fun j h1 h2 => by
            match j, h1 with
            | 0, _ => exact u
            | 1, _ => exact v
            | 2, _ => exact z)
          simp [cnts] at this
          simp only [Ex.cnt]
          omega
      have e5 : cnts (e :: Es) = e.cnt + cnts Es := by simp [cnts]
      rw [e5]
      omega

end Go.Proofs.YtpbopjgmiaoomaaGreatDoor

namespace Go.Proofs.YtpbopjgmiaoomaaGreatDoor
open Go.RowKit

/-- The value owns its row: its form. -/
theorem owns_form {w : World} {base e n : Nat} {v : Value} {xs : List Value} (h : w.ownsRow base e 1 v n xs) : ∃ x c, v = .slice x n c := by
  rcases h.2 with ⟨rfl, rfl⟩ | ⟨g, cap, cur, rfl, _⟩
  · exact ⟨_, _, rfl⟩
  · exact ⟨_, _, rfl⟩

end Go.Proofs.YtpbopjgmiaoomaaGreatDoor

namespace Go.Proofs.YtpbopjgmiaoomaaGreatDoor
open Go.RowKit
set_option linter.unusedVariables false

/-- a load of a whole row whose cells are known -/
theorem wpList_load_cells {P : Program} {ops : Array Oper} {rest : List Oper} {o : Oper} {a : Act} {w : World} {Q : Exit → Act → World → Prop} (hgd : o.guard = none) (ty : TypeId) (x : Operand) (ho : o.op = .load ty x)
    (g : Nat) (hx : a.eval x = .pointer (some ⟨g, 0, none⟩)) (cs : Array Value) (d : TypeDesc) (hc : ∀ j, w.cell? ⟨g, j, none⟩ = cs[j]?)
    (hu : P.underlying ty = some d) (hd : (match d with | .struct _ | .array _ _ => true | _ => false) = true) (hi : (P.info? ty).map (·.size) = some cs.size)
    (h : wpList P ops Q rest (a.put o.dst (.agg cs)) w) : wpList P ops Q (o :: rest) a w :=
  wpList_plain hgd fun _ hK => by
    have hl : (loadCells ⟨g, 0, none⟩ cs.toList.length).run P w = .ok cs.toList.toArray w :=
      run_loadCells_list (P := P) w ⟨g, 0, none⟩ cs.toList (fun j v hv => by
        have hadd : (⟨g, 0, none⟩ : Addr).add j = ⟨g, j, none⟩ := by unfold Addr.add; split <;> simp_all
        rw [hadd, hc j]
        simpa using hv)
    have hr : (loadVar ty ⟨g, 0, none⟩).run P w = .ok (.agg cs) w := by
      cases hq : P.info? ty with
      | none => simp [hq] at hi
      | some i =>
        have hs : i.size = cs.size := by simpa [hq] using hi
        have hagg : (isAgg ty).run P w = .ok true w := by
          unfold isAgg
          rw [Sem.run_bind, run_underlying hu w]
          cases d <;> simp_all
        simp only [Array.length_toList, Array.toArray_toList] at hl
        simp [loadVar, Sem.run_bind, hagg, sizeOf, typeInfo, hq, hs, hl]
    unfold Oper.wp execOp
    simp only [ho, hx, Instr.loadAt, Instr.sureAddr, Sem.run_bind, Sem.run_pure, Result.andThen_ok, hr]
    exact hK _ _ h

/-- an element of an array of structs that lies in a slot -/
theorem wpList_index_agg {P : Program} {ops : Array Oper} {rest : List Oper} {o : Oper} {a : Act} {w : World} {Q : Exit → Act → World → Prop} (hgd : o.guard = none) (ty : TypeId) (x y : Operand) (ho : o.op = .index ty x y)
    (cs : Array Value) (hx : a.eval x = .agg cs) (k : Nat) (hy : a.eval y = .int .i64 k) (n : Nat) (e : TypeId) (hu : P.underlying ty = some (.array n e)) (hk : k < n) (d : TypeDesc) (hue : P.underlying e = some d)
    (hd : (match d with | .struct _ | .array _ _ => true | _ => false) = true) (sz : Nat) (hi : (P.info? e).map (·.size) = some sz) (r : Array Value) (hr : cs.extract (k * sz) (k * sz + sz) = r)
    (h : wpList P ops Q rest (a.put o.dst (.agg r)) w) : wpList P ops Q (o :: rest) a w :=
  wpList_plain hgd fun _ hK => by
    have hq : (Instr.index ty (.agg cs) (.int .i64 k)).run P w = .ok (.agg r) w := by
      cases hq : P.info? e with
      | none => simp [hq] at hi
      | some i =>
        have hs : i.size = sz := by simpa [hq] using hi
        have hagg : (isAgg e).run P w = .ok true w := by
          unfold isAgg
          rw [Sem.run_bind, run_underlying hue w]
          cases d <;> simp_all
        have hk2 : (0 : Int) ≤ (k : Int) ∧ (k : Int) < (n : Int) := ⟨by omega, by omega⟩
        simp [Instr.index, run_underlying hu, asIntOf, hk2, hk, part, Sem.run_bind, hagg, sizeOf, typeInfo, hq, hs, hr]
    unfold Oper.wp execOp
    simp only [ho, hx, hy, Sem.run_bind, hq, Sem.run_pure, Result.andThen_ok]
    exact hK _ _ h

end Go.Proofs.YtpbopjgmiaoomaaGreatDoor

namespace Go.Proofs.YtpbopjgmiaoomaaGreatDoor
open Go.RowKit
set_option linter.unusedVariables false

/-- the cells of the table of operators -/
def binV : Array Value := #[.int .i64 26, .int .i64 1, .string ⟨#[111, 114]⟩, .int .i64 25, .int .i64 2, .string ⟨#[97, 110, 100]⟩, .int .i64 19, .int .i64 4, .string ⟨#[61, 61]⟩, .int .i64 20, .int .i64 4, .string ⟨#[33, 61]⟩, .int .i64 21, .int .i64 4, .string ⟨#[60]⟩, .int .i64 22, .int .i64 4, .string ⟨#[60, 61]⟩, .int .i64 23, .int .i64 4, .string ⟨#[105, 110]⟩, .int .i64 24, .int .i64 4, .string ⟨#[119, 105, 116, 104, 105, 110]⟩, .int .i64 11, .int .i64 5, .string ⟨#[43]⟩, .int .i64 12, .int .i64 5, .string ⟨#[45]⟩, .int .i64 16, .int .i64 5, .string ⟨#[124]⟩, .int .i64 18, .int .i64 5, .string ⟨#[92]⟩, .int .i64 13, .int .i64 6, .string ⟨#[42]⟩, .int .i64 14, .int .i64 6, .string ⟨#[47]⟩, .int .i64 15, .int .i64 6, .string ⟨#[37]⟩, .int .i64 17, .int .i64 6, .string ⟨#[38]⟩]

structure Opr where
  op : Int
  lv : Int
  text : ByteArray

def opr : Nat → Opr
  | 0 => ⟨26, 1, ⟨#[111, 114]⟩⟩
  | 1 => ⟨25, 2, ⟨#[97, 110, 100]⟩⟩
  | 2 => ⟨19, 4, ⟨#[61, 61]⟩⟩
  | 3 => ⟨20, 4, ⟨#[33, 61]⟩⟩
  | 4 => ⟨21, 4, ⟨#[60]⟩⟩
  | 5 => ⟨22, 4, ⟨#[60, 61]⟩⟩
  | 6 => ⟨23, 4, ⟨#[105, 110]⟩⟩
  | 7 => ⟨24, 4, ⟨#[119, 105, 116, 104, 105, 110]⟩⟩
  | 8 => ⟨11, 5, ⟨#[43]⟩⟩
  | 9 => ⟨12, 5, ⟨#[45]⟩⟩
  | 10 => ⟨16, 5, ⟨#[124]⟩⟩
  | 11 => ⟨18, 5, ⟨#[92]⟩⟩
  | 12 => ⟨13, 6, ⟨#[42]⟩⟩
  | 13 => ⟨14, 6, ⟨#[47]⟩⟩
  | 14 => ⟨15, 6, ⟨#[37]⟩⟩
  | 15 => ⟨17, 6, ⟨#[38]⟩⟩
  | _ => ⟨0, 0, ⟨#[]⟩⟩

theorem binV_row : ∀ k, k < 16 → binV.extract (k * 3) (k * 3 + 3) = #[.int .i64 (opr k).op, .int .i64 (opr k).lv, .string (opr k).text]
  | 0, _ => rfl
  | 1, _ => rfl
  | 2, _ => rfl
  | 3, _ => rfl
  | 4, _ => rfl
  | 5, _ => rfl
  | 6, _ => rfl
  | 7, _ => rfl
  | 8, _ => rfl
  | 9, _ => rfl
  | 10, _ => rfl
  | 11, _ => rfl
  | 12, _ => rfl
  | 13, _ => rfl
  | 14, _ => rfl
  | 15, _ => rfl
  | n + 16, h => absurd h (by omega)

theorem opr_some (op : Int) (h : 11 ≤ op ∧ op ≤ 26) : ∃ k, k < 16 ∧ (opr k).op = op := by
  have : op = 11 ∨ op = 12 ∨ op = 13 ∨ op = 14 ∨ op = 15 ∨ op = 16 ∨ op = 17 ∨ op = 18 ∨ op = 19 ∨ op = 20 ∨ op = 21 ∨ op = 22 ∨ op = 23 ∨ op = 24 ∨ op = 25 ∨ op = 26 := by omega
  rcases this with e | e | e | e | e | e | e | e | e | e | e | e | e | e | e | e <;> subst e
  · exact ⟨8, by decide, rfl⟩
  · exact ⟨9, by decide, rfl⟩
  · exact ⟨12, by decide, rfl⟩
  · exact ⟨13, by decide, rfl⟩
  · exact ⟨14, by decide, rfl⟩
  · exact ⟨10, by decide, rfl⟩
  · exact ⟨15, by decide, rfl⟩
  · exact ⟨11, by decide, rfl⟩
  · exact ⟨2, by decide, rfl⟩
  · exact ⟨3, by decide, rfl⟩
  · exact ⟨4, by decide, rfl⟩
  · exact ⟨5, by decide, rfl⟩
  · exact ⟨6, by decide, rfl⟩
  · exact ⟨7, by decide, rfl⟩
  · exact ⟨1, by decide, rfl⟩
  · exact ⟨0, by decide, rfl⟩

theorem opr_in : ∀ k, k < 16 → 11 ≤ (opr k).op ∧ (opr k).op ≤ 26
  | 0, _ | 1, _ | 2, _ | 3, _ | 4, _ | 5, _ | 6, _ | 7, _ | 8, _ | 9, _ | 10, _ | 11, _ | 12, _ | 13, _ | 14, _ | 15, _ => by decide
  | n + 16, h => absurd h (by omega)

/-- an operator of two -/
def isBin (op : Int) : Bool := decide (11 ≤ op ∧ op ≤ 26)

def BinAns (op : Int) (e : Ending) : Prop := ∃ (x y : Int) (s : ByteArray), e = .returned (.tuple #[.agg #[.int .i64 x, .int .i64 y, .string s], .bool (isBin op)])

theorem row3 {w : World} {b : Nat} {v0 v1 v2 : Value} {t : TypeId} (R : Row w b #[v0, v1, v2] t) : w.cell? ⟨b, 0, none⟩ = some v0 ∧ w.cell? ⟨b, 1, none⟩ = some v1 ∧ w.cell? ⟨b, 2, none⟩ = some v2 ∧ ∀ j, w.frozen? ⟨b, j, none⟩ = false :=
  ⟨R.cell 0, R.cell 1, R.cell 2, fun j => R.frozen j⟩

theorem res_bin {fn : Func} {a b : Tmp} (h : fn.results = #[.cell a 199, .tmp b]) {tmps : Array Value} {w : World} {g : Nat} {v0 v1 v2 u : Value} (ha : tmps.getD a undef = .pointer (some ⟨g, 0, none⟩)) (hb : tmps.getD b undef = u)
    (g0 : w.cell? ⟨g, 0, none⟩ = some v0) (g1 : w.cell? ⟨g, 1, none⟩ = some v1) (g2 : w.cell? ⟨g, 2, none⟩ = some v2) :
    (results fn tmps).run Tryz.prog w = .ok (.tuple #[.agg #[v0, v1, v2], u]) w := by
  rw [Array.getD_eq_getD_getElem?] at ha hb
  simp [results, h, ha, hb, go_sem, g0, g1, g2]

set_option maxRecDepth 100000 in
set_option maxHeartbeats 6400000 in
theorem binaryOperator_any (op : Int) (w : World) (hw : 3 < w.heap.size) (hc : ∀ k, w.cell? ⟨3, k, none⟩ = binV[k]?) :
    Calls Tryz.prog 111 #[.int .i64 op] w fun e w' => BinAns op e ∧ Below w.heap.size w w' := by
  have HC := hide (show ∀ k, (w.alloc (.cells #[.int .i64 0, .int .i64 0, .string ⟨#[]⟩] 199)).cell? ⟨3, k, none⟩ = binV[k]? from fun k => (World.cell?_alloc_lt _ _ ⟨3, k, none⟩ hw).trans (hc k))
  clear hc
  have B0 := (Below.refl w.heap.size w).alloc (Nat.le_refl _) (.cells #[.int .i64 0, .int .i64 0, .string ⟨#[]⟩] 199)
  have R0 := Row.new w #[.int .i64 0, .int .i64 0, .string ⟨#[]⟩] 199
  go_enter Tryz.func111, Tryz.ntmps111
  go_wp2_with (refine wpList_load_cells rfl 214 _ rfl 3 rfl binV _ (unhide HC) Tryz.underlying214 rfl (by kernel_rfl) ?_)
  clear HC
  go_loopw [7] (fun i wr => ∃ k : Nat, k ≤ 16 ∧ i = .int .i64 k ∧ Below w.heap.size w wr ∧ Row wr w.heap.size #[.int .i64 0, .int .i64 0, .string ⟨#[]⟩] 199 ∧ ∀ j, j < k → (opr j).op ≠ op) (fun i _ => 16 - (intOf i).toNat)
  case atStart => exact ⟨0, by omega, rfl, B0, R0, fun j h => absurd h (by omega)⟩
  case round =>
    obtain ⟨k, hk, rfl, B1, R1, hn⟩ := hrel
    have Hn := hide hn
    clear hn B0 R0
    by_cases hlt : k < 16
    · have ilt : (k : Int) < 16 := by omega
      have HR := hide (binV_row k hlt)
      have HI := hide (opr_in k hlt)
      have Hlt := hide hlt
      have z1 := R1.lt
      have HE := hide (show (opr k).op ≠ op → ∀ j, j < k + 1 → (opr j).op ≠ op from fun e j hj => by
        by_cases ej : j = k
        · subst ej; exact e
        · exact unhide Hn j (by omega))
      have HB := hide (show (opr k).op = op → isBin op = true from fun e => by rw [← e]; exact decide_eq_true (unhide HI))
      clear Hn HI hlt
      generalize opr k = o at HR HE HB
      have B2 := B1.alloc B1.size (.cells #[.int .i64 o.op, .int .i64 o.lv, .string o.text] 199)
      have R2 := R1.alloc (.cells #[.int .i64 o.op, .int .i64 o.lv, .string o.text] 199)
      have R3 := Row.new wr #[.int .i64 o.op, .int .i64 o.lv, .string o.text] 199
      by_cases ho : o.op = op
      · have eo : (o.op == op) = true := beq_iff_eq.2 ho
        have HB2 := hide (unhide HB ho)
        clear ho HB HE
        obtain ⟨q0, q1, q2, qf⟩ := row3 R1
        go_wp2_with (refine wpList_index_agg rfl 214 _ _ rfl binV rfl k rfl 16 199 Tryz.underlying214 (unhide Hlt) _ Tryz.underlying199 rfl 3 (by kernel_rfl) _ (unhide HR) ?_)
        have RF : Row _ w.heap.size #[.int .i64 o.op, .int .i64 o.lv, .string o.text] 199 := (((R1.set 0 (.int .i64 o.op)).set 1 (.int .i64 o.lv)).set 2 (.string o.text)).alloc (.cells #[.int .i64 o.op, .int .i64 o.lv, .string o.text] 199)
        have BF := (((B1.setCell (p := ⟨w.heap.size, 0, none⟩) (Nat.le_refl _) (.int .i64 o.op)).setCell (p := ⟨w.heap.size, 1, none⟩) (Nat.le_refl _) (.int .i64 o.lv)).setCell (p := ⟨w.heap.size, 2, none⟩) (Nat.le_refl _) (.string o.text))
        have BG := BF.alloc BF.size (.cells #[.int .i64 o.op, .int .i64 o.lv, .string o.text] 199)
        obtain ⟨g0, g1, g2, gf⟩ := row3 RF
        exact bodyPost_ret (res_bin Tryz.results111 rfl rfl g0 g1 g2) rfl ⟨⟨_, _, _, by rw [unhide HB2]; rfl⟩, BG⟩
      · have eo : (o.op == op) = false := beq_eq_false_iff_ne.2 ho
        have HE2 := hide (unhide HE ho)
        clear ho HB HE
        go_wp2_with (refine wpList_index_agg rfl 214 _ _ rfl binV rfl k rfl 16 199 Tryz.underlying214 (unhide Hlt) _ Tryz.underlying199 rfl 3 (by kernel_rfl) _ (unhide HR) ?_)
        go_roundw
        case rel => exact ⟨k + 1, unhide Hlt, by go_num, B2, R2, unhide HE2⟩
        case measure => have := unhide Hlt; simp [intOf]; omega
    · have e : k = 16 := by omega
      subst e
      have HB := hide (show isBin op = false from decide_eq_false fun h => by
        obtain ⟨j, hj, e⟩ := opr_some op h
        exact unhide Hn j hj e)
      clear Hn
      obtain ⟨q0, q1, q2, qf⟩ := row3 R1
      go_wp2_with fail
      have RF : Row _ w.heap.size #[.int .i64 0, .int .i64 0, .string ⟨#[]⟩] 199 := ((R1.set 0 (.int .i64 0)).set 1 (.int .i64 0)).set 2 (.string ⟨#[]⟩)
      have BF := (((B1.setCell (p := ⟨w.heap.size, 0, none⟩) (Nat.le_refl _) (.int .i64 0)).setCell (p := ⟨w.heap.size, 1, none⟩) (Nat.le_refl _) (.int .i64 0)).setCell (p := ⟨w.heap.size, 2, none⟩) (Nat.le_refl _) (.string ⟨#[]⟩))
      obtain ⟨g0, g1, g2, gf⟩ := row3 RF
      exact bodyPost_ret (res_bin Tryz.results111 rfl rfl g0 g1 g2) rfl ⟨⟨_, _, _, by rw [unhide HB]; rfl⟩, BF⟩

set_option maxHeartbeats 3200000 in
theorem kidCount_any (op : Int) (w : World) (hw : 3 < w.heap.size) (hc : ∀ k, w.cell? ⟨3, k, none⟩ = binV[k]?) :
    Calls Tryz.prog 98 #[.int .i64 op] w fun e w' => e = .returned (.int .i64 (kidN op)) ∧ Below w.heap.size w w' := by
  have HC := hide hc
  clear hc
  by_cases h0 : 1 ≤ op ∧ op ≤ 7
  · have : op = 1 ∨ op = 2 ∨ op = 3 ∨ op = 4 ∨ op = 5 ∨ op = 6 ∨ op = 7 := by omega
    rcases this with e | e | e | e | e | e | e <;> subst e <;> (go_enter Tryz.func98, Tryz.ntmps98; go_wp2; go_ret; exact ⟨rfl, Below.refl _ _⟩)
  by_cases h1 : 8 ≤ op ∧ op ≤ 10
  · have : op = 8 ∨ op = 9 ∨ op = 10 := by omega
    rcases this with e | e | e <;> subst e <;> (go_enter Tryz.func98, Tryz.ntmps98; go_wp2; go_ret; exact ⟨rfl, Below.refl _ _⟩)
  by_cases h3 : op = 27
  · subst h3
    go_enter Tryz.func98, Tryz.ntmps98
    go_wp2
    go_ret
    exact ⟨rfl, Below.refl _ _⟩
  have HK := hide (show kidN op = if isBin op = true then 2 else -1 by
    rw [kidN, if_neg h0, if_neg h1, isBin]
    by_cases h2 : 11 ≤ op ∧ op ≤ 26
    · rw [if_pos h2, if_pos (decide_eq_true h2)]
    · rw [if_neg h2, if_neg h3, if_neg (by rw [decide_eq_false h2]; decide)])
  have e1 : (op == 1) = false := beq_eq_false_iff_ne.2 (by omega)
  have e2 : (op == 2) = false := beq_eq_false_iff_ne.2 (by omega)
  have e3 : (op == 3) = false := beq_eq_false_iff_ne.2 (by omega)
  have e4 : (op == 4) = false := beq_eq_false_iff_ne.2 (by omega)
  have e5 : (op == 5) = false := beq_eq_false_iff_ne.2 (by omega)
  have e6 : (op == 6) = false := beq_eq_false_iff_ne.2 (by omega)
  have e7 : (op == 7) = false := beq_eq_false_iff_ne.2 (by omega)
  have e8 : (op == 8) = false := beq_eq_false_iff_ne.2 (by omega)
  have e9 : (op == 9) = false := beq_eq_false_iff_ne.2 (by omega)
  have e10 : (op == 10) = false := beq_eq_false_iff_ne.2 (by omega)
  have e27 : (op == 27) = false := beq_eq_false_iff_ne.2 (by omega)
  clear h0 h1 h3
  go_enter Tryz.func98, Tryz.ntmps98
  cases hb : isBin op
  · have Hb := hide hb
    clear hb
    go_wp2_with (go_at_call 111; refine (binaryOperator_any _ _ hw (unhide HC)).mono ?_; rintro e w2 ⟨⟨v0, v1, v2, rfl⟩, hb2⟩; rw [unhide Hb])
    go_ret
    exact ⟨by rw [unhide HK, unhide Hb]; rfl, hb2.alloc hb2.size _⟩
  · have Hb := hide hb
    clear hb
    go_wp2_with (go_at_call 111; refine (binaryOperator_any _ _ hw (unhide HC)).mono ?_; rintro e w2 ⟨⟨v0, v1, v2, rfl⟩, hb2⟩; rw [unhide Hb])
    go_ret
    exact ⟨by rw [unhide HK, unhide Hb]; rfl, hb2.alloc hb2.size _⟩

end Go.Proofs.YtpbopjgmiaoomaaGreatDoor

namespace Go.Proofs.YtpbopjgmiaoomaaGreatDoor
open Go.RowKit

/-- a store into another block -/
theorem Strs.setFar {w : World} {a : Option Addr} {n c : Nat} {ss : List ByteArray} (h : Strs w a n c ss) {p : Addr} (hp : ∀ x, a = some x → p.block ≠ x.block) (u : Value) : Strs (w.setCell p u) a n c ss :=
  ⟨h.len, h.cap, h.small, h.sizes, fun j hj => by
    obtain ⟨b, off, ha, hlt, hc⟩ := h.cells j hj
    refine ⟨b, off, ha, by simpa using hlt, ?_⟩
    rw [← hc]
    exact World.cell?_of_block (heap_setCell_other w p b u (fun e => hp _ ha e.symm))⟩

theorem Strs.drewN {w : World} {a : Option Addr} {n c : Nat} {ss : List ByteArray} (h : Strs w a n c ss) (k : Nat) : Strs (w.drewN k) a n c ss :=
  h.below (below_drewN (Below.refl w.heap.size w) k) (Nat.le_refl _)

end Go.Proofs.YtpbopjgmiaoomaaGreatDoor

namespace Go.Proofs.YtpbopjgmiaoomaaGreatDoor
open Go.RowKit
set_option linter.unusedVariables false

/-- A slice of numbers. -/
structure Ints (w : World) (a : Option Addr) (n c : Nat) (L : List Int) : Prop where
  len : L.length = n
  small : n ≤ 1048576
  cells : ∀ j, (h : j < L.length) → ∃ b off, a = some ⟨b, off, none⟩ ∧ b < w.heap.size ∧ w.cell? ⟨b, off + j, none⟩ = some (.int .i64 L[j])

theorem Ints.below {w w' : World} {B : Nat} {a : Option Addr} {n c : Nat} {L : List Int} (h : Ints w a n c L) (hb : Below B w w') (hB : w.heap.size ≤ B) : Ints w' a n c L :=
  ⟨h.len, h.small, fun j hj => by
    obtain ⟨b, off, ha, hl, c0⟩ := h.cells j hj
    exact ⟨b, off, ha, Nat.lt_of_lt_of_le hl hb.size, (hb.cell (p := ⟨b, off + j, none⟩) (by show b < B; omega)).trans c0⟩⟩

theorem eq_iff_at (A B : List Int) (hl : A.length = B.length) : A = B ↔ ∀ j, (h : j < A.length) → A[j] = B[j]'(hl ▸ h) := by
  constructor
  · intro e j h; subst e; rfl
  · intro h; exact List.ext_getElem hl (fun j h1 h2 => h j h1)

theorem below_drewM (w : World) (m : Nat) : Below w.heap.size w (w.drewN m) := by
  exact ⟨(Below.refl w.heap.size w).os, (Below.refl w.heap.size w).tape, (Below.refl w.heap.size w).output, Nat.le_refl _, fun _ _ => rfl⟩

theorem drewN_more {w wr : World} (h : ∃ m, wr = w.drewN m) : ∃ m, wr.drew = w.drewN m := by
  obtain ⟨m, rfl⟩ := h
  exact ⟨m + 1, rfl⟩

set_option maxRecDepth 100000 in
set_option maxHeartbeats 3200000 in
theorem equalI_q (a b : Option Addr) (n c m d : Nat) (A B : List Int) (w : World) (h1 : Ints w a n c A) (h2 : Ints w b m d B) :
    Calls Tryz.prog 55 #[.slice a n c, .slice b m d] w fun e w' => e = .returned (.bool (decide (A = B))) ∧ ∃ m, w' = w.drewN m := by
  have s1 := h1.small
  have s2 := h2.small
  have HA := hide h1.len
  have HB := hide h2.len
  by_cases hnm : n = m
  · have enm : ((n : Int) != (m : Int)) = false := by rw [hnm]; simp
    have Hll := hide (show A.length = B.length by rw [h1.len, h2.len, hnm])
    have HE := hide (eq_iff_at A B (unhide Hll))
    have Hnm := hide hnm
    clear hnm
    go_enter Tryz.func55, Tryz.ntmps55
    go_wp2_with fail
    go_loopw [13] (fun i wr => ∃ k : Nat, k ≤ n ∧ i = .int .i64 k ∧ (∃ m, wr = w.drewN m) ∧ ∀ j, (h : j < A.length) → j < k → A[j] = B[j]'(unhide Hll ▸ h)) (fun i _ => n - (intOf i).toNat)
    case atStart => exact ⟨0, by omega, rfl, ⟨0, rfl⟩, fun j _ h => absurd h (by omega)⟩
    case round =>
      obtain ⟨k, hk, rfl, hdr, hal⟩ := hrel
      have HD := hide hdr
      have B1 : Below w.heap.size w wr := by obtain ⟨dn, rfl⟩ := hdr; exact below_drewM w dn
      clear hdr
      have Ha := hide hal
      clear hal
      by_cases hlt : k < n
      · have ilt : (k : Int) < (n : Int) := by omega
        have ilm : (k : Int) < (m : Int) := by have := unhide Hnm; omega
        have hka : k < A.length := by rw [unhide HA]; exact hlt
        have hkb : k < B.length := by rw [unhide HB, ← unhide Hnm]; exact hlt
        obtain ⟨b1, o1, rfl, hl1, c1⟩ := (h1.below B1 (Nat.le_refl _)).cells k hka
        obtain ⟨b2, o2, rfl, hl2, c2⟩ := (h2.below B1 (Nat.le_refl _)).cells k hkb
        have Hno := hide (show A[k] ≠ B[k] → decide (A = B) = false from fun e => decide_eq_false (fun e' => e ((unhide HE).1 e' k hka)))
        have HN := hide (show A[k] = B[k] → ∀ j, (h : j < A.length) → j < k + 1 → A[j] = B[j]'(unhide Hll ▸ h) from fun e j hj h' => by
          by_cases ej : j = k
          · subst ej; exact e
          · exact unhide Ha j hj (by omega))
        have Hlt := hide hlt
        clear Ha
        generalize A[k] = x at c1 Hno HN
        generalize B[k] = y at c2 Hno HN
        by_cases hxy : x = y
        · have exy : (x != y) = false := by rw [hxy]; simp
          have HN2 := hide (unhide HN hxy)
          clear hxy Hno HN
          go_wp2_with fail
          go_region
          go_wp2_with fail
          go_roundw
          case rel => exact ⟨k + 1, unhide Hlt, by go_num, drewN_more (unhide HD), unhide HN2⟩
          case measure => have := unhide Hlt; simp [intOf]; omega
        · have exy : (x != y) = true := bne_iff_ne.2 hxy
          have HX := hide (unhide Hno hxy)
          clear hxy Hno HN
          go_wp2_with fail
          go_region
          go_wp2_with fail
          go_ret
          exact ⟨ret_bool (unhide HX).symm, drewN_more (unhide HD)⟩
      · have e : k = n := by omega
        subst e
        have HX := hide (show decide (A = B) = true from decide_eq_true ((unhide HE).2 (fun j hj => unhide Ha j hj (by have := unhide HA; omega))))
        go_wp2
        go_ret
        exact ⟨ret_bool (unhide HX).symm, unhide HD⟩
  · have enm : ((n : Int) != (m : Int)) = true := bne_iff_ne.2 (by omega)
    have HX := hide (show decide (A = B) = false from decide_eq_false (fun e => hnm (by rw [← h1.len, ← h2.len, e])))
    clear hnm
    go_enter Tryz.func55, Tryz.ntmps55
    go_wp2
    go_ret
    exact ⟨ret_bool (unhide HX).symm, 0, rfl⟩

theorem equalI_any (a b : Option Addr) (n c m d : Nat) (A B : List Int) (w : World) (h1 : Ints w a n c A) (h2 : Ints w b m d B) :
    Calls Tryz.prog 55 #[.slice a n c, .slice b m d] w fun e w' => e = .returned (.bool (decide (A = B))) ∧ Below w.heap.size w w' :=
  (equalI_q a b n c m d A B w h1 h2).mono fun e w' h => ⟨h.1, by obtain ⟨m, rfl⟩ := h.2; exact below_drewM w m⟩

end Go.Proofs.YtpbopjgmiaoomaaGreatDoor

namespace Go.Proofs.YtpbopjgmiaoomaaGreatDoor
open Go.RowKit
set_option linter.unusedVariables false

def attrTy (n : Int) : Int := if n < 2 then 3 else if n < 4 then 2 else 4

/-- the type that an operator gives over the types of its kids; 0: they do not fit -/
def tyOp (op : Int) : List Int → Int
  | [a] => if op = 8 ∧ a = 2 then 2 else if op = 9 ∧ a = 1 then 1 else if op = 10 ∧ a = 4 then 2 else 0
  | [a, b] => if (11 ≤ op ∧ op ≤ 15) ∧ a = 2 ∧ b = 2 then 2 else if (16 ≤ op ∧ op ≤ 18) ∧ a = 4 ∧ b = 4 then 4
    else if (op = 19 ∨ op = 20) ∧ a = b then 1 else if (op = 21 ∨ op = 22) ∧ a = 2 ∧ b = 2 then 1 else if op = 23 ∧ a = 3 ∧ b = 4 then 1
    else if op = 24 ∧ a = 4 ∧ b = 4 then 1 else if (op = 25 ∨ op = 26) ∧ a = 1 ∧ b = 1 then 1 else 0
  | [a, b, c] => if a = 1 ∧ b = c then b else 0
  | _ => 0

/-- a type, or none -/
def nz (t : Int) : Option Int := if t = 0 then none else some t

theorem attrTy_pos (n : Int) : 1 ≤ attrTy n ∧ attrTy n ≤ 4 := by unfold attrTy; repeat' split <;> try decide

theorem nz_some {t a : Int} (h : nz t = some a) : t = a ∧ a ≠ 0 := by
  unfold nz at h
  split at h
  · cases h
  · cases h; exact ⟨rfl, by assumption⟩

end Go.Proofs.YtpbopjgmiaoomaaGreatDoor

namespace Go.Proofs.YtpbopjgmiaoomaaGreatDoor
open Go.RowKit
set_option linter.unusedVariables false

/-- the type of a typed policy's tree, under the types of its lets -/
def tyE (ts : List Int) : Ex → Option Int
  | .int .. => some 2
  | .text .. => some 3
  | .bool .. => some 1
  | .set .. => some 4
  | .name .. => none
  | .attr _ n => some (attrTy n)
  | .lett _ n => if 0 ≤ n then ts[n.toNat]? else none
  | .un _ op k => match tyE ts k with
    | some a => nz (tyOp op [a])
    | none => none
  | .bin _ op l r => match tyE ts l with
    | some a => match tyE ts r with
      | some b => nz (tyOp op [a, b])
      | none => none
    | none => none
  | .ite _ c t e => match tyE ts c with
    | some a => match tyE ts t with
      | some b => match tyE ts e with
        | some d => nz (tyOp 27 [a, b, d])
        | none => none
      | none => none
    | none => none

/-- the kids of a tree -/
def Ex.kids : Ex → List Ex
  | .un _ _ k => [k]
  | .bin _ _ l r => [l, r]
  | .ite _ c t e => [c, t, e]
  | _ => []

/-- the types of all its nodes, in their order -/
def tysE (ts : List Int) : Ex → List Int
  | .un i op k => tysE ts k ++ [(tyE ts (.un i op k)).getD 0]
  | .bin i op l r => tysE ts l ++ tysE ts r ++ [(tyE ts (.bin i op l r)).getD 0]
  | .ite i c t e => tysE ts c ++ tysE ts t ++ tysE ts e ++ [(tyE ts (.ite i c t e)).getD 0]
  | e => [(tyE ts e).getD 0]

theorem tysE_len (ts : List Int) : ∀ (e : Ex), (tysE ts e).length = e.cnt
  | .int .. | .text .. | .bool .. | .set .. | .name .. | .attr .. | .lett .. => rfl
  | .un _ _ k => by simp [tysE, Ex.cnt, tysE_len ts k]
  | .bin _ _ l r => by simp [tysE, Ex.cnt, tysE_len ts l, tysE_len ts r]; omega
  | .ite _ c t e => by simp [tysE, Ex.cnt, tysE_len ts c, tysE_len ts t, tysE_len ts e]; omega

/-- what a typed tree is like -/
def Ex.typed : Ex → Prop
  | .name .. => False
  | .attr _ n => 0 ≤ n ∧ n < 6
  | .un _ op k => (8 ≤ op ∧ op ≤ 10) ∧ k.typed
  | .bin _ op l r => (11 ≤ op ∧ op ≤ 26) ∧ l.typed ∧ r.typed
  | .ite _ c t e => c.typed ∧ t.typed ∧ e.typed
  | _ => True

end Go.Proofs.YtpbopjgmiaoomaaGreatDoor
