/-
  Laws, AP, VPP, VPQ, TK, VPR, VPD, StepC, VR. Own work.
-/
import Derived.Test.YtogenboibgddaaaGreatDoorMXAB
import Derived.Laws.AppendOwnNone
import Derived.Deep.RegionLaw
import Derived.Test.YtogenboibgddaaaGreatDoorMXAA
import Derived.Test.YtogenboibgddaaaGreatDoorMXAC
import Derived.Deep.RegionHeld3
import Derived.Test.YtogenboibgddaaaGreatDoorMXAD
namespace Go.Proofs.YtogenboibgddaaaGreatDoor
open Go.RowKit

set_option maxHeartbeats 800000 in
theorem szStringS_any (a : Option Addr) (n c : Nat) (ss : List ByteArray) (L : Int) (w : World) (h : Strs w a n c ss) (hL : -1 ≤ L) (hL' : L ≤ 1048576) :
    Calls Tryz.prog 19 #[.slice a n c, .int .i64 L] w fun e w' => (∃ r : Int, e = .returned (.int .i64 r) ∧ (r = -1 ∨ 0 ≤ r ∧ r + n + tot ss = L)) ∧ w' = w := by
  have hn : n ≤ 9223372036854775807 := by have := h.cap; have := h.small; unfold maxLen at this; omega
  have Hl := hide h.len
  by_cases h0 : L - n < 0
  · go_enter Tryz.func19, Tryz.ntmps19
    go_wp2
    go_ret
    exact ⟨⟨_, rfl, .inl rfl⟩, rfl⟩
  · have h0' : 0 ≤ L - n := by omega
    have h0b : (L - n < 0) = False := by simp; omega
    go_enter Tryz.func19, Tryz.ntmps19
    go_wp2
    go_loop [1, 4, 5] (fun l _ i => ∃ k : Nat, k ≤ n ∧ i = .int .i64 k ∧ l = .int .i64 (L - n - tot (ss.take k)) ∧ 0 ≤ L - n - tot (ss.take k)) (fun _ _ i => n - (intOf i).toNat)
    case atStart => exact ⟨0, Nat.zero_le _, rfl, by simp [tot], by simp [tot]; omega⟩
    case round =>
      obtain ⟨k, hk, rfl, rfl, hp⟩ := hrel
      by_cases hlt : k < n
      · obtain ⟨b, off, ha', _, hc⟩ := h.cells k hlt
        have hsz := h.sizes k hlt
        subst ha'
        unfold maxLen at hsz
        have Ht := hide (tot_take_succ ss k (by have := unhide Hl; omega))
        generalize hT : tot (ss.take k) = T at *
        have HT := hide hT
        clear hT
        by_cases hneg : L - n - T - ((nth ss k).size : Int) < 0
        · go_wp2
          go_ret
          exact ⟨⟨_, rfl, .inl rfl⟩, rfl⟩
        · have hpos : 0 ≤ L - n - T - ((nth ss k).size : Int) := by omega
          go_wp2
          go_round
          case rel => exact ⟨k + 1, by omega, by go_num, by rw [unhide Ht]; go_num, by rw [unhide Ht]; omega⟩
          case measure => simp [intOf]; omega
      · go_wp2
        go_ret
        have e1 : ss.take k = ss := List.take_of_length_le (by have := unhide Hl; omega)
        rw [e1] at hp ⊢
        exact ⟨⟨_, rfl, .inr ⟨hp, by omega⟩⟩, rfl⟩

set_option maxHeartbeats 800000 in
theorem toStringS_any (a : Option Addr) (n c : Nat) (ss : List ByteArray) (w : World) (h : Strs w a n c ss) (hsm : n ≤ 1048576) :
    Calls Tryz.prog 25 #[.slice a n c] w fun e w' => e = .returned (.slice (some ⟨w.heap.size, 0, none⟩) n n) ∧ Below w.heap.size w w' ∧ w'.ownsRow w.heap.size 9 1 (.slice (some ⟨w.heap.size, 0, none⟩) n n) n (ss.map Value.string) := by
  obtain ⟨i, hi, hz0, hz1, hz2⟩ := info_parts infoS
  go_enter Tryz.func25, Tryz.ntmps25
  go_wp2_with (at_make; refine wpList_make_full _ rfl _ _ 26 rfl w.heap.size 9 i (.string ByteArray.empty) 1 Tryz.underlying26 hi hz0 hz1 _ _ _ _ n rfl rfl rfl rfl ?b2 ?b3 ?b4 ?_)
  case b2 => rw [hz2]; omega
  case b3 => unfold maxLen; omega
  case b4 => exact Nat.le_refl _
  intro w1 hown hgrow
  have hb1 : Below w.heap.size w w1 := (Below.refl _ _).grown hgrow (Nat.le_refl _) (fun k hk => by cases hk)
  clear hgrow
  have hown1 : w1.ownsRow w.heap.size 9 1 (.slice (some ⟨w.heap.size, 0, none⟩) n n) n ((half ss n 0).map Value.string) := by
    rw [half_zero, List.map_replicate, ← toList_madeCells_one, ← Nat.mul_one n]
    simpa using hown
  clear hown
  go_wp2
  go_loopw [4] (fun i wr => ∃ k : Nat, k ≤ n ∧ i = .int .i64 k ∧ wr.ownsRow w.heap.size 9 1 (.slice (some ⟨w.heap.size, 0, none⟩) n n) n ((half ss n k).map Value.string) ∧ Below w.heap.size w wr) (fun i _ => n - (intOf i).toNat)
  case atStart => exact ⟨0, Nat.zero_le _, rfl, hown1, hb1⟩
  case round =>
    obtain ⟨k, hk, rfl, hown, hb⟩ := hrel
    clear hown1 hb1
    by_cases hlt : k < n
    · obtain ⟨b, off, ha', _, hc⟩ := (h.below hb (Nat.le_refl _)).cells k hlt
      subst ha'
      have hfz := hown.frozenAt k
      have hck := (hown.cellAt k (by omega)).trans (half_at ss n k hlt)
      have Hst := hide (hown.stored k (.string (nth ss k))).1
      have Hown := hide hown
      clear hown
      go_wp2
      go_roundw
      case rel => exact ⟨k + 1, by omega, by go_num, by rw [← half_set]; exact unhide Hst, hb.setCell (Nat.le_refl _) _⟩
      case measure => simp [intOf]; omega
    · have e : k = n := by omega
      subst e
      go_wp2
      go_ret
      exact ⟨rfl, hb, by rw [half_full ss k h.len] at hown; exact hown⟩

end Go.Proofs.YtogenboibgddaaaGreatDoor

namespace Go.Proofs.YtogenboibgddaaaGreatDoor
open Go.RowKit
set_option linter.unusedVariables false

theorem Strs.cellsAt {w : World} {ad : Addr} {n c : Nat} {ss : List ByteArray} (hq : Strs w (some ad) n c ss) : ∀ j u, (ss.map Value.string)[j]? = some u → w.cell? (ad.add j) = some u := fun j u hu => by
  rw [List.getElem?_map, Option.map_eq_some_iff] at hu
  obtain ⟨s, hs, rfl⟩ := hu
  have hj : j < ss.length := (List.getElem?_eq_some_iff.1 hs).1
  obtain ⟨b1, off1, ha, _, hc⟩ := hq.cells j (by have := hq.len; omega)
  simp only [Option.some.injEq] at ha
  subst ha
  have hadd : (⟨b1, off1, none⟩ : Addr).add j = ⟨b1, off1 + j, none⟩ := by by_cases e : j = 0 <;> simp [Addr.add, e]
  rw [hadd, hc, nth_eq _ j hj]
  rw [List.getElem?_eq_getElem hj] at hs
  cases hs; rfl

theorem append_strs {w : World} {ops : Array Oper} {rest : List Oper} {o : Oper} {a : Act} {Q : Exit → Act → World → Prop} (hgd : o.guard = none) (s x : Operand)
    (ho : o.op = .call { callee := .builtin .append, args := #[s, x], argTypes := #[26, 26] })
    (base : Nat) (v : Value) (n : Nat) (xs : List Value) (hs : a.eval s = v) (hown : w.ownsRow base 9 1 v n xs)
    (ad : Option Addr) (m c : Nat) (ss : List ByteArray) (hx : a.eval x = .slice ad m c) (hq : Strs w ad m c ss) (hnil : ad = none → c = 0)
    (hsz : n + m ≤ 1048576) (hbase : base ≤ w.heap.size)
    (h : ∀ v' w', w'.ownsRow base 9 1 v' (n + m) (xs ++ ss.map Value.string) → w.grownBy w' v.ownBlock → wpList Tryz.prog ops Q rest (a.put o.dst v') w') : wpList Tryz.prog ops Q (o :: rest) a w := by
  obtain ⟨i, hi, hz0, hz1, hz2⟩ := info_parts infoS
  cases ad with
  | none =>
    obtain rfl := hnil rfl
    have hm : m = 0 := by have := hq.cap; omega
    subst hm
    have hss : ss = [] := List.eq_nil_of_length_eq_zero (by have := hq.len; omega)
    subst hss
    refine wpList_append_own_none hgd s x 26 ho base 9 i 1 Tryz.underlying26 hi v n xs hs hown hx (h v w (by simpa using hown) ?_)
    exact ⟨rfl, rfl, rfl, Nat.le_refl _, fun _ _ _ => rfl⟩
  | some ad =>
    refine wpList_append_own _ hgd s x 26 ho base 9 i (.string ByteArray.empty) 1 16 Tryz.underlying26 hi hz0 hz1 hz2 rfl (by decide) v n xs hs hown ad m c (ss.map Value.string) hx ?_ hq.cellsAt ?_ ?_ ?_ hbase (fun v' w' h1 h2 _ => h v' w' h1 h2)
    · have := hq.len; simp; omega
    · intro u hu; obtain ⟨s, _, rfl⟩ := List.mem_map.1 hu; rfl
    · unfold maxLen; omega
    · omega

/-- the same, at a step of a region that draws its order -/
theorem step_append_strs {w : World} {ops : Array Oper} {o : Oper} {a : Act} {K : Act → World → Prop} {Q : Exit → Act → World → Prop} {E : Prop} (hgd : o.guard = none) (s x : Operand)
    (ho : o.op = .call { callee := .builtin .append, args := #[s, x], argTypes := #[26, 26] })
    (base : Nat) (v : Value) (n : Nat) (xs : List Value) (hs : a.eval s = v) (hown : w.ownsRow base 9 1 v n xs)
    (ad : Option Addr) (m c : Nat) (ss : List ByteArray) (hx : a.eval x = .slice ad m c) (hq : Strs w ad m c ss) (hnil : ad = none → c = 0)
    (hsz : n + m ≤ 1048576) (hbase : base ≤ w.heap.size)
    (h : ∀ v' w', w'.ownsRow base 9 1 v' (n + m) (xs ++ ss.map Value.string) → w.grownBy w' v.ownBlock → K (a.put o.dst v') w') :
    if Region.wanted o (yielded ops a.tmps) = true then Oper.wp Tryz.prog o a w K Q else E := by
  have hw : Region.wanted o (yielded ops a.tmps) = true := by simp [Region.wanted, hgd]
  rw [if_pos hw]
  obtain ⟨i, hi, hz0, hz1, hz2⟩ := info_parts infoS
  cases ad with
  | none =>
    obtain rfl := hnil rfl
    have hm : m = 0 := by have := hq.cap; omega
    subst hm
    have hss : ss = [] := List.eq_nil_of_length_eq_zero (by have := hq.len; omega)
    subst hss
    have hrun := run_append_owned_none (P := Tryz.prog) (w := w) base 26 o.type 9 i 1 Tryz.underlying26 hi v n xs hown
    unfold Oper.wp
    simp [execOp, ho, resolve, invoke, builtin, hs, hx, hrun, Result.andThen]
    exact h v w (by simpa using hown) ⟨rfl, rfl, rfl, Nat.le_refl _, fun _ _ _ => rfl⟩
  | some ad =>
    refine wp_append_own w s x 26 ho base 9 i (.string ByteArray.empty) 1 16 Tryz.underlying26 hi hz0 hz1 hz2 rfl (by decide) v n xs hs hown ad m c (ss.map Value.string) hx ?_ hq.cellsAt ?_ ?_ ?_ hbase (fun v' w' h1 h2 _ => h v' w' h1 h2)
    · have := hq.len; simp; omega
    · intro u hu; obtain ⟨s, _, rfl⟩ := List.mem_map.1 hu; rfl
    · unfold maxLen; omega
    · omega

end Go.Proofs.YtogenboibgddaaaGreatDoor

namespace Go.Proofs.YtogenboibgddaaaGreatDoor
open Go.RowKit
set_option linter.unusedVariables false

/-- the greatest depth -/
def dep : List (Nat × Nat) → Nat
  | [] => 0
  | p :: ps => max p.2 (dep ps)

def topsI (ks : List (Nat × Nat)) : List Int := ks.map fun p => (p.1 : Int)

/-- Trees side by side, in post-order: from a place on, each with its top and depth, up to a place (K: the kids of each node). -/
inductive Forest (K : List (List Int)) : Nat → List (Nat × Nat) → Nat → Prop
  | nil (a : Nat) : Forest K a [] a
  | cons {a t b : Nat} {ks fs : List (Nat × Nat)} (hk : Forest K a ks t) (ht : K[t]? = some (topsI ks)) (hf : Forest K (t + 1) fs b) : Forest K a ((t, dep ks + 1) :: fs) b

theorem Forest.le {K : List (List Int)} {a b : Nat} {fs : List (Nat × Nat)} (h : Forest K a fs b) : a ≤ b := by
  induction h with
  | nil a => exact Nat.le_refl _
  | cons hk ht hf i1 i2 => omega

theorem Forest.lt {K : List (List Int)} {a b : Nat} {fs : List (Nat × Nat)} (h : Forest K a fs b) : ∀ p ∈ fs, a ≤ p.1 ∧ p.1 < b := by
  induction h with
  | nil a => intro p hp; cases hp
  | cons hk ht hf i1 i2 =>
    intro p hp
    have h1 := hk.le
    have h2 := hf.le
    rcases List.mem_cons.1 hp with e | e
    · subst e; exact ⟨h1, by show _ < _; omega⟩
    · have := i2 p e; omega

end Go.Proofs.YtogenboibgddaaaGreatDoor

namespace Go.Proofs.YtogenboibgddaaaGreatDoor
open Go.RowKit
set_option linter.unusedVariables false

/-- 0, 1, 2 and so on -/
def good (l : List Int) : Prop := ∀ (i : Nat) (x : Int), l[i]? = some x → x = i

theorem good.pre {l m : List Int} (h : good (l ++ m)) : good l := fun i x hx => by
  have hi : i < l.length := (List.getElem?_eq_some_iff.1 hx).1
  exact h i x (by rw [List.getElem?_append_left hi]; exact hx)

theorem good.last {l : List Int} {x : Int} (h : good (l ++ [x])) : x = l.length := h l.length x (by simp)

end Go.Proofs.YtogenboibgddaaaGreatDoor

namespace Go.Proofs.YtogenboibgddaaaGreatDoor
open Go.RowKit

def ltI (c : Int) : Bool := decide (97 ≤ c ∧ c ≤ 122)
def ltB (c : UInt8) : Bool := ltI (c.toNat : Int)
/-- a token, or what is wrong -/
inductive One where
  | bad (code : Int)
  | tok (kind num : Int) (text : List UInt8) (w : Nat)

/-- a number goes on as a word would -/
def follows (r : List UInt8) (w : Nat) : Bool := match r[w]? with
  | some x => ltB x || decide (x = 95)
  | none => false

end Go.Proofs.YtogenboibgddaaaGreatDoor

namespace Go.Proofs.YtogenboibgddaaaGreatDoor
open Go.RowKit
set_option linter.unusedVariables false

/-- how many kids -/
def kidN (op : Int) : Int := if 1 ≤ op ∧ op ≤ 7 then 0 else if 8 ≤ op ∧ op ≤ 10 then 1 else if 11 ≤ op ∧ op ≤ 26 then 2 else if op = 27 then 3 else -1

end Go.Proofs.YtogenboibgddaaaGreatDoor

namespace Go.Proofs.YtogenboibgddaaaGreatDoor
open Go.RowKit
set_option linter.unusedVariables false

/-- the cells of the table of operators -/
def binV : Array Value := #[.int .i64 26, .int .i64 1, .string ⟨#[111, 114]⟩, .int .i64 25, .int .i64 2, .string ⟨#[97, 110, 100]⟩, .int .i64 19, .int .i64 4, .string ⟨#[61, 61]⟩, .int .i64 20, .int .i64 4, .string ⟨#[33, 61]⟩, .int .i64 21, .int .i64 4, .string ⟨#[60]⟩, .int .i64 22, .int .i64 4, .string ⟨#[60, 61]⟩, .int .i64 23, .int .i64 4, .string ⟨#[105, 110]⟩, .int .i64 24, .int .i64 4, .string ⟨#[119, 105, 116, 104, 105, 110]⟩, .int .i64 11, .int .i64 5, .string ⟨#[43]⟩, .int .i64 12, .int .i64 5, .string ⟨#[45]⟩, .int .i64 16, .int .i64 5, .string ⟨#[124]⟩, .int .i64 18, .int .i64 5, .string ⟨#[92]⟩, .int .i64 13, .int .i64 6, .string ⟨#[42]⟩, .int .i64 14, .int .i64 6, .string ⟨#[47]⟩, .int .i64 15, .int .i64 6, .string ⟨#[37]⟩, .int .i64 17, .int .i64 6, .string ⟨#[38]⟩]

structure Opr where
  op : Int
  lv : Int
  text : ByteArray

def opr : Nat → Opr
  | 0 => ⟨26, 1, ⟨#[111, 114]⟩⟩
  | 1 => ⟨25, 2, ⟨#[97, 110, 100]⟩⟩
  | 2 => ⟨19, 4, ⟨#[61, 61]⟩⟩
  | 3 => ⟨20, 4, ⟨#[33, 61]⟩⟩
  | 4 => ⟨21, 4, ⟨#[60]⟩⟩
  | 5 => ⟨22, 4, ⟨#[60, 61]⟩⟩
  | 6 => ⟨23, 4, ⟨#[105, 110]⟩⟩
  | 7 => ⟨24, 4, ⟨#[119, 105, 116, 104, 105, 110]⟩⟩
  | 8 => ⟨11, 5, ⟨#[43]⟩⟩
  | 9 => ⟨12, 5, ⟨#[45]⟩⟩
  | 10 => ⟨16, 5, ⟨#[124]⟩⟩
  | 11 => ⟨18, 5, ⟨#[92]⟩⟩
  | 12 => ⟨13, 6, ⟨#[42]⟩⟩
  | 13 => ⟨14, 6, ⟨#[47]⟩⟩
  | 14 => ⟨15, 6, ⟨#[37]⟩⟩
  | 15 => ⟨17, 6, ⟨#[38]⟩⟩
  | _ => ⟨0, 0, ⟨#[]⟩⟩

theorem binV_row : ∀ k, k < 16 → binV.extract (k * 3) (k * 3 + 3) = #[.int .i64 (opr k).op, .int .i64 (opr k).lv, .string (opr k).text]
  | 0, _ => rfl
  | 1, _ => rfl
  | 2, _ => rfl
  | 3, _ => rfl
  | 4, _ => rfl
  | 5, _ => rfl
  | 6, _ => rfl
  | 7, _ => rfl
  | 8, _ => rfl
  | 9, _ => rfl
  | 10, _ => rfl
  | 11, _ => rfl
  | 12, _ => rfl
  | 13, _ => rfl
  | 14, _ => rfl
  | 15, _ => rfl
  | n + 16, h => absurd h (by omega)

theorem opr_some (op : Int) (h : 11 ≤ op ∧ op ≤ 26) : ∃ k, k < 16 ∧ (opr k).op = op := by
  have : op = 11 ∨ op = 12 ∨ op = 13 ∨ op = 14 ∨ op = 15 ∨ op = 16 ∨ op = 17 ∨ op = 18 ∨ op = 19 ∨ op = 20 ∨ op = 21 ∨ op = 22 ∨ op = 23 ∨ op = 24 ∨ op = 25 ∨ op = 26 := by omega
  rcases this with e | e | e | e | e | e | e | e | e | e | e | e | e | e | e | e <;> subst e
  · exact ⟨8, by decide, rfl⟩
  · exact ⟨9, by decide, rfl⟩
  · exact ⟨12, by decide, rfl⟩
  · exact ⟨13, by decide, rfl⟩
  · exact ⟨14, by decide, rfl⟩
  · exact ⟨10, by decide, rfl⟩
  · exact ⟨15, by decide, rfl⟩
  · exact ⟨11, by decide, rfl⟩
  · exact ⟨2, by decide, rfl⟩
  · exact ⟨3, by decide, rfl⟩
  · exact ⟨4, by decide, rfl⟩
  · exact ⟨5, by decide, rfl⟩
  · exact ⟨6, by decide, rfl⟩
  · exact ⟨7, by decide, rfl⟩
  · exact ⟨1, by decide, rfl⟩
  · exact ⟨0, by decide, rfl⟩

theorem opr_in : ∀ k, k < 16 → 11 ≤ (opr k).op ∧ (opr k).op ≤ 26
  | 0, _ | 1, _ | 2, _ | 3, _ | 4, _ | 5, _ | 6, _ | 7, _ | 8, _ | 9, _ | 10, _ | 11, _ | 12, _ | 13, _ | 14, _ | 15, _ => by decide
  | n + 16, h => absurd h (by omega)

/-- an operator of two -/
def isBin (op : Int) : Bool := decide (11 ≤ op ∧ op ≤ 26)

def BinAns (op : Int) (e : Ending) : Prop := ∃ (x y : Int) (s : ByteArray), e = .returned (.tuple #[.agg #[.int .i64 x, .int .i64 y, .string s], .bool (isBin op)])

theorem row3 {w : World} {b : Nat} {v0 v1 v2 : Value} {t : TypeId} (R : Row w b #[v0, v1, v2] t) : w.cell? ⟨b, 0, none⟩ = some v0 ∧ w.cell? ⟨b, 1, none⟩ = some v1 ∧ w.cell? ⟨b, 2, none⟩ = some v2 ∧ ∀ j, w.frozen? ⟨b, j, none⟩ = false :=
  ⟨R.cell 0, R.cell 1, R.cell 2, fun j => R.frozen j⟩

theorem res_bin {fn : Func} {a b : Tmp} (h : fn.results = #[.cell a 199, .tmp b]) {tmps : Array Value} {w : World} {g : Nat} {v0 v1 v2 u : Value} (ha : tmps.getD a undef = .pointer (some ⟨g, 0, none⟩)) (hb : tmps.getD b undef = u)
    (g0 : w.cell? ⟨g, 0, none⟩ = some v0) (g1 : w.cell? ⟨g, 1, none⟩ = some v1) (g2 : w.cell? ⟨g, 2, none⟩ = some v2) :
    (results fn tmps).run Tryz.prog w = .ok (.tuple #[.agg #[v0, v1, v2], u]) w := by
  rw [Array.getD_eq_getD_getElem?] at ha hb
  simp [results, h, ha, hb, go_sem, g0, g1, g2]

set_option maxRecDepth 100000 in
set_option maxHeartbeats 6400000 in
theorem binaryOperator_any (op : Int) (w : World) (hw : 7 < w.heap.size) (hc : ∀ k, w.cell? ⟨7, k, none⟩ = binV[k]?) :
    Calls Tryz.prog 122 #[.int .i64 op] w fun e w' => BinAns op e ∧ Below w.heap.size w w' := by
  have HC := hide (show ∀ k, (w.alloc (.cells #[.int .i64 0, .int .i64 0, .string ⟨#[]⟩] 199)).cell? ⟨7, k, none⟩ = binV[k]? from fun k => (World.cell?_alloc_lt _ _ ⟨7, k, none⟩ hw).trans (hc k))
  clear hc
  have B0 := (Below.refl w.heap.size w).alloc (Nat.le_refl _) (.cells #[.int .i64 0, .int .i64 0, .string ⟨#[]⟩] 199)
  have R0 := Row.new w #[.int .i64 0, .int .i64 0, .string ⟨#[]⟩] 199
  go_enter Tryz.func122, Tryz.ntmps122
  go_wp2_with (refine wpList_load_cells rfl 208 _ rfl 7 rfl binV _ (unhide HC) Tryz.underlying208 rfl (by kernel_rfl) ?_)
  clear HC
  go_loopw [7] (fun i wr => ∃ k : Nat, k ≤ 16 ∧ i = .int .i64 k ∧ Below w.heap.size w wr ∧ Row wr w.heap.size #[.int .i64 0, .int .i64 0, .string ⟨#[]⟩] 199 ∧ ∀ j, j < k → (opr j).op ≠ op) (fun i _ => 16 - (intOf i).toNat)
  case atStart => exact ⟨0, by omega, rfl, B0, R0, fun j h => absurd h (by omega)⟩
  case round =>
    obtain ⟨k, hk, rfl, B1, R1, hn⟩ := hrel
    have Hn := hide hn
    clear hn B0 R0
    by_cases hlt : k < 16
    · have ilt : (k : Int) < 16 := by omega
      have HR := hide (binV_row k hlt)
      have HI := hide (opr_in k hlt)
      have Hlt := hide hlt
      have z1 := R1.lt
      have HE := hide (show (opr k).op ≠ op → ∀ j, j < k + 1 → (opr j).op ≠ op from fun e j hj => by
        by_cases ej : j = k
        · subst ej; exact e
        · exact unhide Hn j (by omega))
      have HB := hide (show (opr k).op = op → isBin op = true from fun e => by rw [← e]; exact decide_eq_true (unhide HI))
      clear Hn HI hlt
      generalize opr k = o at HR HE HB
      have B2 := B1.alloc B1.size (.cells #[.int .i64 o.op, .int .i64 o.lv, .string o.text] 199)
      have R2 := R1.alloc (.cells #[.int .i64 o.op, .int .i64 o.lv, .string o.text] 199)
      have R3 := Row.new wr #[.int .i64 o.op, .int .i64 o.lv, .string o.text] 199
      by_cases ho : o.op = op
      · have eo : (o.op == op) = true := beq_iff_eq.2 ho
        have HB2 := hide (unhide HB ho)
        clear ho HB HE
        obtain ⟨q0, q1, q2, qf⟩ := row3 R1
        go_wp2_with (refine wpList_index_agg rfl 208 _ _ rfl binV rfl k rfl 16 199 Tryz.underlying208 (unhide Hlt) _ Tryz.underlying199 rfl 3 (by kernel_rfl) _ (unhide HR) ?_)
        have RF : Row _ w.heap.size #[.int .i64 o.op, .int .i64 o.lv, .string o.text] 199 := (((R1.set 0 (.int .i64 o.op)).set 1 (.int .i64 o.lv)).set 2 (.string o.text)).alloc (.cells #[.int .i64 o.op, .int .i64 o.lv, .string o.text] 199)
        have BF := (((B1.setCell (p := ⟨w.heap.size, 0, none⟩) (Nat.le_refl _) (.int .i64 o.op)).setCell (p := ⟨w.heap.size, 1, none⟩) (Nat.le_refl _) (.int .i64 o.lv)).setCell (p := ⟨w.heap.size, 2, none⟩) (Nat.le_refl _) (.string o.text))
        have BG := BF.alloc BF.size (.cells #[.int .i64 o.op, .int .i64 o.lv, .string o.text] 199)
        obtain ⟨g0, g1, g2, gf⟩ := row3 RF
        exact bodyPost_ret (res_bin Tryz.results122 rfl rfl g0 g1 g2) rfl ⟨⟨_, _, _, by rw [unhide HB2]; rfl⟩, BG⟩
      · have eo : (o.op == op) = false := beq_eq_false_iff_ne.2 ho
        have HE2 := hide (unhide HE ho)
        clear ho HB HE
        go_wp2_with (refine wpList_index_agg rfl 208 _ _ rfl binV rfl k rfl 16 199 Tryz.underlying208 (unhide Hlt) _ Tryz.underlying199 rfl 3 (by kernel_rfl) _ (unhide HR) ?_)
        go_roundw
        case rel => exact ⟨k + 1, unhide Hlt, by go_num, B2, R2, unhide HE2⟩
        case measure => have := unhide Hlt; simp [intOf]; omega
    · have e : k = 16 := by omega
      subst e
      have HB := hide (show isBin op = false from decide_eq_false fun h => by
        obtain ⟨j, hj, e⟩ := opr_some op h
        exact unhide Hn j hj e)
      clear Hn
      obtain ⟨q0, q1, q2, qf⟩ := row3 R1
      go_wp2_with fail
      have RF : Row _ w.heap.size #[.int .i64 0, .int .i64 0, .string ⟨#[]⟩] 199 := ((R1.set 0 (.int .i64 0)).set 1 (.int .i64 0)).set 2 (.string ⟨#[]⟩)
      have BF := (((B1.setCell (p := ⟨w.heap.size, 0, none⟩) (Nat.le_refl _) (.int .i64 0)).setCell (p := ⟨w.heap.size, 1, none⟩) (Nat.le_refl _) (.int .i64 0)).setCell (p := ⟨w.heap.size, 2, none⟩) (Nat.le_refl _) (.string ⟨#[]⟩))
      obtain ⟨g0, g1, g2, gf⟩ := row3 RF
      exact bodyPost_ret (res_bin Tryz.results122 rfl rfl g0 g1 g2) rfl ⟨⟨_, _, _, by rw [unhide HB]; rfl⟩, BF⟩

set_option maxHeartbeats 3200000 in
theorem kidCount_any (op : Int) (w : World) (hw : 7 < w.heap.size) (hc : ∀ k, w.cell? ⟨7, k, none⟩ = binV[k]?) :
    Calls Tryz.prog 119 #[.int .i64 op] w fun e w' => e = .returned (.int .i64 (kidN op)) ∧ Below w.heap.size w w' := by
  have HC := hide hc
  clear hc
  by_cases h0 : 1 ≤ op ∧ op ≤ 7
  · have : op = 1 ∨ op = 2 ∨ op = 3 ∨ op = 4 ∨ op = 5 ∨ op = 6 ∨ op = 7 := by omega
    rcases this with e | e | e | e | e | e | e <;> subst e <;> (go_enter Tryz.func119, Tryz.ntmps119; go_wp2; go_ret; exact ⟨rfl, Below.refl _ _⟩)
  by_cases h1 : 8 ≤ op ∧ op ≤ 10
  · have : op = 8 ∨ op = 9 ∨ op = 10 := by omega
    rcases this with e | e | e <;> subst e <;> (go_enter Tryz.func119, Tryz.ntmps119; go_wp2; go_ret; exact ⟨rfl, Below.refl _ _⟩)
  by_cases h3 : op = 27
  · subst h3
    go_enter Tryz.func119, Tryz.ntmps119
    go_wp2
    go_ret
    exact ⟨rfl, Below.refl _ _⟩
  have HK := hide (show kidN op = if isBin op = true then 2 else -1 by
    rw [kidN, if_neg h0, if_neg h1, isBin]
    by_cases h2 : 11 ≤ op ∧ op ≤ 26
    · rw [if_pos h2, if_pos (decide_eq_true h2)]
    · rw [if_neg h2, if_neg h3, if_neg (by rw [decide_eq_false h2]; decide)])
  have e1 : (op == 1) = false := beq_eq_false_iff_ne.2 (by omega)
  have e2 : (op == 2) = false := beq_eq_false_iff_ne.2 (by omega)
  have e3 : (op == 3) = false := beq_eq_false_iff_ne.2 (by omega)
  have e4 : (op == 4) = false := beq_eq_false_iff_ne.2 (by omega)
  have e5 : (op == 5) = false := beq_eq_false_iff_ne.2 (by omega)
  have e6 : (op == 6) = false := beq_eq_false_iff_ne.2 (by omega)
  have e7 : (op == 7) = false := beq_eq_false_iff_ne.2 (by omega)
  have e8 : (op == 8) = false := beq_eq_false_iff_ne.2 (by omega)
  have e9 : (op == 9) = false := beq_eq_false_iff_ne.2 (by omega)
  have e10 : (op == 10) = false := beq_eq_false_iff_ne.2 (by omega)
  have e27 : (op == 27) = false := beq_eq_false_iff_ne.2 (by omega)
  clear h0 h1 h3
  go_enter Tryz.func119, Tryz.ntmps119
  cases hb : isBin op
  · have Hb := hide hb
    clear hb
    go_wp2_with (go_at_call 122; refine (binaryOperator_any _ _ hw (unhide HC)).mono ?_; rintro e w2 ⟨⟨v0, v1, v2, rfl⟩, hb2⟩; rw [unhide Hb])
    go_ret
    exact ⟨by rw [unhide HK, unhide Hb]; rfl, hb2.alloc hb2.size _⟩
  · have Hb := hide hb
    clear hb
    go_wp2_with (go_at_call 122; refine (binaryOperator_any _ _ hw (unhide HC)).mono ?_; rintro e w2 ⟨⟨v0, v1, v2, rfl⟩, hb2⟩; rw [unhide Hb])
    go_ret
    exact ⟨by rw [unhide HK, unhide Hb]; rfl, hb2.alloc hb2.size _⟩

end Go.Proofs.YtogenboibgddaaaGreatDoor

namespace Go.Proofs.YtogenboibgddaaaGreatDoor
open Go.RowKit
set_option linter.unusedVariables false

/-- a call with two arguments, as one step of a region that draws its order -/
theorem step_callR2 {P : Program} {ops : Array Oper} {o : Oper} {a : Act} {w : World} {K : Act → World → Prop} {Q : Exit → Act → World → Prop} {E : Prop} (hgd : o.guard = none) (f : FuncId) (fn : Func) (hf : P.funcs[f]? = some fn) (hname : (fn.name == "runtime.NumGoroutine") = false) (hb : fn.body.isNone = false) (x y : Operand) (tys : Array TypeId)
    (ho : o.op = .call { callee := .value (.func f), args := #[x, y], argTypes := tys }) (v0 v1 : Value) (hx : a.eval x = v0) (hy : a.eval y = v1)
    (R : Value → World → Prop) (hc : Calls P f #[v0, v1] w fun e w' => ∃ v, e = .returned v ∧ R v w') (h : ∀ v w', R v w' → K (a.put o.dst v) w') :
    if Region.wanted o (yielded ops a.tmps) = true then Oper.wp P o a w K Q else E := by
  have hw : Region.wanted o (yielded ops a.tmps) = true := by simp [Region.wanted, hgd]
  rw [if_pos hw]
  unfold Oper.wp
  have hrun : (execOp a.eval o).run P w = .ok (.enter f #[v0, v1]) w := by
    subst hx hy
    have h1 : fn.name ≠ "runtime.NumGoroutine" := by simpa using hname
    have h2 : (callFunc f #[a.eval x, a.eval y]).run P w = .ok (.enter f #[a.eval x, a.eval y]) w := by
      have h3 : fn.body ≠ none := fun e => by rw [e] at hb; cases hb
      simp [callFunc, hf, h1, h3]
    simpa [execOp, ho, resolve, invoke, Act.eval, Result.andThen, go_sem] using h2
  rw [hrun, Oper.upon_enter]
  refine hc.mono ?_
  rintro e w' ⟨v, rfl, hr⟩
  exact h v w' hr

end Go.Proofs.YtogenboibgddaaaGreatDoor

namespace Go.Proofs.YtogenboibgddaaaGreatDoor
open Go.RowKit

def reqB (cl us : ByteArray) (s1 s2 : List ByteArray) : Bool := vnB cl && vnB us && setB s1 && setB s2

set_option maxHeartbeats 800000 in
theorem sValidRequest_any (cl us : ByteArray) (lv nw : Int) (a1 : Option Addr) (n1 c1 : Nat) (s1 : List ByteArray) (a2 : Option Addr) (n2 c2 : Nat) (s2 : List ByteArray) (w : World)
    (hcl : cl.size ≤ maxLen) (hus : us.size ≤ maxLen) (h1 : Strs w a1 n1 c1 s1) (h2 : Strs w a2 n2 c2 s2) :
    Calls Tryz.prog 21 #[.agg #[.string cl, .string us, .int .i64 lv, .int .i64 nw, .slice a1 n1 c1, .slice a2 n2 c2]] w fun e w' => e = .returned (.bool (reqB cl us s1 s2)) ∧ Below w.heap.size w w' := by
  have b0 : Below w.heap.size w (w.alloc (.cells #[.string cl, .string us, .int .i64 lv, .int .i64 nw, .slice a1 n1 c1, .slice a2 n2 c2] 41)) := (Below.refl _ _).alloc (Nat.le_refl _) _
  have g1 := h1.below b0 (Nat.le_refl _)
  have g2 := h2.below b0 (Nat.le_refl _)
  go_enter Tryz.func21, Tryz.ntmps21
  go_wp2_with fail
  refine (sValidName_any _ _ hcl).mono ?_
  rintro e w' ⟨rfl, rfl⟩
  cases v1 : vnB cl
  · go_wp2_with fail
    go_ret
    exact ⟨ret_bool (by simp [reqB, v1]), b0⟩
  · go_wp2_with fail
    refine (sValidName_any _ _ hus).mono ?_
    rintro e w' ⟨rfl, rfl⟩
    cases v2 : vnB us
    · go_wp2_with fail
      go_ret
      exact ⟨ret_bool (by simp [reqB, v2]), b0⟩
    · go_wp2_with fail
      refine (sIsSet_any _ _ _ _ _ g1).mono ?_
      rintro e w' ⟨rfl, rfl⟩
      cases v3 : setB s1
      · go_wp2_with fail
        go_ret
        exact ⟨ret_bool (by simp [reqB, v3]), b0⟩
      · go_wp2_with fail
        refine (sIsSet_any _ _ _ _ _ g2).mono ?_
        rintro e w' ⟨rfl, rfl⟩
        go_wp2_with fail
        go_ret
        exact ⟨ret_bool (by simp [reqB, v1, v2, v3]), b0⟩

set_option maxHeartbeats 800000 in
theorem iValidRequest_any (cl us : ByteArray) (lv nw : Int) (a1 : Option Addr) (n1 c1 : Nat) (s1 : List ByteArray) (a2 : Option Addr) (n2 c2 : Nat) (s2 : List ByteArray) (w : World)
    (hcl : cl.size ≤ maxLen) (hus : us.size ≤ maxLen) (h1 : Strs w a1 n1 c1 s1) (h2 : Strs w a2 n2 c2 s2) :
    Calls Tryz.prog 27 #[.agg #[.string cl, .string us, .int .i64 lv, .int .i64 nw, .slice a1 n1 c1, .slice a2 n2 c2]] w fun e w' => e = .returned (.bool (reqB cl us s1 s2)) ∧ Below w.heap.size w w' := by
  have b0 : Below w.heap.size w (w.alloc (.cells #[.string cl, .string us, .int .i64 lv, .int .i64 nw, .slice a1 n1 c1, .slice a2 n2 c2] 41)) := (Below.refl _ _).alloc (Nat.le_refl _) _
  have g1 := h1.below b0 (Nat.le_refl _)
  have g2 := h2.below b0 (Nat.le_refl _)
  go_enter Tryz.func27, Tryz.ntmps27
  go_wp2_with fail
  refine (iValidName_any _ _ hcl).mono ?_
  rintro e w' ⟨rfl, rfl⟩
  cases v1 : vnB cl
  · go_wp2_with fail
    go_ret
    exact ⟨ret_bool (by simp [reqB, v1]), b0⟩
  · go_wp2_with fail
    refine (iValidName_any _ _ hus).mono ?_
    rintro e w' ⟨rfl, rfl⟩
    cases v2 : vnB us
    · go_wp2_with fail
      go_ret
      exact ⟨ret_bool (by simp [reqB, v2]), b0⟩
    · go_wp2_with fail
      refine (iIsSet_any _ _ _ _ _ g1).mono ?_
      rintro e w1 ⟨rfl, hb1⟩
      cases v3 : setB s1
      · go_wp2_with fail
        go_ret
        exact ⟨ret_bool (by simp [reqB, v3]), b0.trans (hb1.mono (by simp))⟩
      · obtain ⟨hc, hf⟩ := bcell hb1
        have g2' := g2.below hb1 (Nat.le_refl _)
        go_wp2_with fail
        refine (iIsSet_any _ _ _ _ _ g2').mono ?_
        rintro e w2 ⟨rfl, hb2⟩
        go_wp2_with fail
        go_ret
        have z1 := hb1.size
        simp at z1
        exact ⟨ret_bool (by simp [reqB, v1, v2, v3]), (b0.trans (hb1.mono (by simp))).trans (hb2.mono (by omega))⟩

end Go.Proofs.YtogenboibgddaaaGreatDoor
