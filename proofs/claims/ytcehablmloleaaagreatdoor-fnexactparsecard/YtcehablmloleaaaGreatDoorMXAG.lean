/-
  TW, TV, VPA, VPB, VPC, VPE, VPF, VPG, VPH, QE0. Own work.
-/
import Derived.Test.YtcehablmloleaaaGreatDoorMXAF
import Derived.Test.YtcehablmloleaaaGreatDoorMXAC
import Derived.Test.YtcehablmloleaaaGreatDoorMXAD
import Derived.Deep.RegionHeld3
namespace Go.Proofs.YtcehablmloleaaaGreatDoor
open Go.RowKit
set_option linter.unusedVariables false

theorem isWd_mem {l : List UInt8} : isWd l = true ↔ l ∈ wordsL := by rw [isWd, List.contains_iff_mem]

theorem isWd_hit {s : ByteArray} {x : List UInt8} (h : (s.toList == x) = true) (hx : x ∈ wordsL) : isWd (toL s) = true := by
  rw [beq_iff_eq, ByteArray.toList_eq] at h
  rw [isWd_mem, toL, h]; exact hx

theorem isWd_miss {s : ByteArray} (h : ∀ x ∈ wordsL, (s.toList == x) = false) : isWd (toL s) = false := by
  cases hw : isWd (toL s)
  · rfl
  · have := h _ (isWd_mem.1 hw)
    rw [ByteArray.toList_eq, toL] at this
    simp at this

set_option maxHeartbeats 6400000 in
theorem isWord_any (s : ByteArray) (w : World) :
    Calls Tryz.prog 92 #[.string s] w fun e w' => e = .returned (.bool (isWd (toL s))) ∧ w' = w := by
  rcases Bool.eq_false_or_eq_true (s.toList == [108, 101, 116]) with h0 | h0
  · rw [isWd_hit h0 (by decide)]
    go_enter Tryz.func92, Tryz.ntmps92
    go_wp2
    go_ret
    exact ⟨rfl, rfl⟩
  rcases Bool.eq_false_or_eq_true (s.toList == [119, 104, 101, 110]) with h1 | h1
  · rw [isWd_hit h1 (by decide)]
    go_enter Tryz.func92, Tryz.ntmps92
    go_wp2
    go_ret
    exact ⟨rfl, rfl⟩
  rcases Bool.eq_false_or_eq_true (s.toList == [101, 108, 115, 101]) with h2 | h2
  · rw [isWd_hit h2 (by decide)]
    go_enter Tryz.func92, Tryz.ntmps92
    go_wp2
    go_ret
    exact ⟨rfl, rfl⟩
  rcases Bool.eq_false_or_eq_true (s.toList == [100, 101, 110, 121]) with h3 | h3
  · rw [isWd_hit h3 (by decide)]
    go_enter Tryz.func92, Tryz.ntmps92
    go_wp2
    go_ret
    exact ⟨rfl, rfl⟩
  rcases Bool.eq_false_or_eq_true (s.toList == [103, 114, 97, 110, 116]) with h4 | h4
  · rw [isWd_hit h4 (by decide)]
    go_enter Tryz.func92, Tryz.ntmps92
    go_wp2
    go_ret
    exact ⟨rfl, rfl⟩
  rcases Bool.eq_false_or_eq_true (s.toList == [105, 102]) with h5 | h5
  · rw [isWd_hit h5 (by decide)]
    go_enter Tryz.func92, Tryz.ntmps92
    go_wp2
    go_ret
    exact ⟨rfl, rfl⟩
  rcases Bool.eq_false_or_eq_true (s.toList == [116, 104, 101, 110]) with h6 | h6
  · rw [isWd_hit h6 (by decide)]
    go_enter Tryz.func92, Tryz.ntmps92
    go_wp2
    go_ret
    exact ⟨rfl, rfl⟩
  rcases Bool.eq_false_or_eq_true (s.toList == [110, 111, 116]) with h7 | h7
  · rw [isWd_hit h7 (by decide)]
    go_enter Tryz.func92, Tryz.ntmps92
    go_wp2
    go_ret
    exact ⟨rfl, rfl⟩
  rcases Bool.eq_false_or_eq_true (s.toList == [97, 110, 100]) with h8 | h8
  · rw [isWd_hit h8 (by decide)]
    go_enter Tryz.func92, Tryz.ntmps92
    go_wp2
    go_ret
    exact ⟨rfl, rfl⟩
  rcases Bool.eq_false_or_eq_true (s.toList == [111, 114]) with h9 | h9
  · rw [isWd_hit h9 (by decide)]
    go_enter Tryz.func92, Tryz.ntmps92
    go_wp2
    go_ret
    exact ⟨rfl, rfl⟩
  rcases Bool.eq_false_or_eq_true (s.toList == [105, 110]) with h10 | h10
  · rw [isWd_hit h10 (by decide)]
    go_enter Tryz.func92, Tryz.ntmps92
    go_wp2
    go_ret
    exact ⟨rfl, rfl⟩
  rcases Bool.eq_false_or_eq_true (s.toList == [119, 105, 116, 104, 105, 110]) with h11 | h11
  · rw [isWd_hit h11 (by decide)]
    go_enter Tryz.func92, Tryz.ntmps92
    go_wp2
    go_ret
    exact ⟨rfl, rfl⟩
  rcases Bool.eq_false_or_eq_true (s.toList == [115, 105, 122, 101]) with h12 | h12
  · rw [isWd_hit h12 (by decide)]
    go_enter Tryz.func92, Tryz.ntmps92
    go_wp2
    go_ret
    exact ⟨rfl, rfl⟩
  rcases Bool.eq_false_or_eq_true (s.toList == [116, 114, 117, 101]) with h13 | h13
  · rw [isWd_hit h13 (by decide)]
    go_enter Tryz.func92, Tryz.ntmps92
    go_wp2
    go_ret
    exact ⟨rfl, rfl⟩
  rcases Bool.eq_false_or_eq_true (s.toList == [102, 97, 108, 115, 101]) with h14 | h14
  · rw [isWd_hit h14 (by decide)]
    go_enter Tryz.func92, Tryz.ntmps92
    go_wp2
    go_ret
    exact ⟨rfl, rfl⟩
  rw [isWd_miss (s := s) (by
    intro x hx
    simp only [wordsL, List.mem_cons, List.not_mem_nil, or_false] at hx
    rcases hx with rfl | rfl | rfl | rfl | rfl | rfl | rfl | rfl | rfl | rfl | rfl | rfl | rfl | rfl | rfl <;> assumption)]
  go_enter Tryz.func92, Tryz.ntmps92
  go_wp2
  go_ret
  exact ⟨rfl, rfl⟩

end Go.Proofs.YtcehablmloleaaaGreatDoor

namespace Go.Proofs.YtcehablmloleaaaGreatDoor
open Go.RowKit
set_option linter.unusedVariables false

/-- a list of texts as cells -/
def textsV (L : List (List UInt8)) : Array Value := (L.map fun l => Value.string (ofL l)).toArray

theorem textsV_at {L : List (List UInt8)} {k : Nat} {x : List UInt8} (h : L[k]? = some x) : (textsV L)[k]? = some (.string (ofL x)) := by
  simp [textsV, h]

theorem beq_ofL_true {s : ByteArray} {x : List UInt8} (h : (s.toList == (ofL x).toList) = true) : toL s = x := by
  rw [beq_iff_eq, ByteArray.toList_eq, ByteArray.toList_eq] at h
  exact h

theorem beq_ofL_false {s : ByteArray} {x : List UInt8} (h : (s.toList == (ofL x).toList) = false) : toL s ≠ x := by
  rw [beq_eq_false_iff_ne, ByteArray.toList_eq, ByteArray.toList_eq] at h
  exact h

/-- none of the first is it -/
def noneOf (L : List (List UInt8)) (k : Nat) (l : List UInt8) : Prop := ∀ i, i < k → L[i]? ≠ some l

theorem noneOf.next {L : List (List UInt8)} {k : Nat} {l x : List UInt8} (h : noneOf L k l) (hx : L[k]? = some x) (hn : l ≠ x) : noneOf L (k + 1) l := fun i hi e => by
  by_cases hk : i = k
  · subst hk; rw [hx] at e; exact hn (Option.some.inj e).symm
  · exact h i (by omega) e

theorem noneOf.all {L : List (List UInt8)} {l : List UInt8} (h : noneOf L L.length l) : L.contains l = false := by
  rw [← Bool.not_eq_true, List.contains_iff_mem]
  intro hm
  obtain ⟨i, hi, e⟩ := List.getElem_of_mem hm
  exact h i hi (by rw [List.getElem?_eq_getElem hi, e])

theorem mem_of_at {L : List (List UInt8)} {k : Nat} {x : List UInt8} (h : L[k]? = some x) : L.contains x = true := by
  rw [List.contains_iff_mem]; exact List.mem_of_getElem? h

set_option maxHeartbeats 1600000 in
theorem l2word_any (s : ByteArray) (w : World) :
    Calls Tryz.prog 48 #[.string s] w fun e w' => e = .returned (.bool (isWd (toL s))) ∧ Below w.heap.size w w' := by
  have R : Row (w.alloc (.cells #[.string ⟨#[108, 101, 116]⟩, .string ⟨#[119, 104, 101, 110]⟩, .string ⟨#[101, 108, 115, 101]⟩, .string ⟨#[100, 101, 110, 121]⟩, .string ⟨#[103, 114, 97, 110, 116]⟩, .string ⟨#[105, 102]⟩, .string ⟨#[116, 104, 101, 110]⟩, .string ⟨#[110, 111, 116]⟩, .string ⟨#[97, 110, 100]⟩, .string ⟨#[111, 114]⟩, .string ⟨#[105, 110]⟩, .string ⟨#[119, 105, 116, 104, 105, 110]⟩, .string ⟨#[115, 105, 122, 101]⟩, .string ⟨#[116, 114, 117, 101]⟩, .string ⟨#[102, 97, 108, 115, 101]⟩] 9)) w.heap.size (textsV wordsL) 9 := Row.new w (textsV wordsL) 9
  have B0 := (Below.refl w.heap.size w).alloc (Nat.le_refl _) (.cells #[.string ⟨#[108, 101, 116]⟩, .string ⟨#[119, 104, 101, 110]⟩, .string ⟨#[101, 108, 115, 101]⟩, .string ⟨#[100, 101, 110, 121]⟩, .string ⟨#[103, 114, 97, 110, 116]⟩, .string ⟨#[105, 102]⟩, .string ⟨#[116, 104, 101, 110]⟩, .string ⟨#[110, 111, 116]⟩, .string ⟨#[97, 110, 100]⟩, .string ⟨#[111, 114]⟩, .string ⟨#[105, 110]⟩, .string ⟨#[119, 105, 116, 104, 105, 110]⟩, .string ⟨#[115, 105, 122, 101]⟩, .string ⟨#[116, 114, 117, 101]⟩, .string ⟨#[102, 97, 108, 115, 101]⟩] 9)
  go_enter Tryz.func48, Tryz.ntmps48
  go_wp2
  generalize w.alloc (.cells #[.string ⟨#[108, 101, 116]⟩, .string ⟨#[119, 104, 101, 110]⟩, .string ⟨#[101, 108, 115, 101]⟩, .string ⟨#[100, 101, 110, 121]⟩, .string ⟨#[103, 114, 97, 110, 116]⟩, .string ⟨#[105, 102]⟩, .string ⟨#[116, 104, 101, 110]⟩, .string ⟨#[110, 111, 116]⟩, .string ⟨#[97, 110, 100]⟩, .string ⟨#[111, 114]⟩, .string ⟨#[105, 110]⟩, .string ⟨#[119, 105, 116, 104, 105, 110]⟩, .string ⟨#[115, 105, 122, 101]⟩, .string ⟨#[116, 114, 117, 101]⟩, .string ⟨#[102, 97, 108, 115, 101]⟩] 9) = W at R B0 ⊢
  go_loop [7] (fun i => ∃ k : Nat, k ≤ 15 ∧ i = .int .i64 k ∧ noneOf wordsL k (toL s)) (fun i => 15 - (intOf i).toNat)
  case atStart => exact ⟨0, by omega, rfl, fun i hi => by omega⟩
  case round =>
    obtain ⟨k, hk, rfl, hn⟩ := hrel
    by_cases hlt : k < 15
    · have ilt : (k : Int) < 15 := by omega
      obtain ⟨x, hx⟩ : ∃ x, wordsL[k]? = some x := ⟨wordsL[k]'hlt, List.getElem?_eq_getElem hlt⟩
      have hc := (R.cell k).trans (textsV_at hx)
      rcases Bool.eq_false_or_eq_true (s.toList == (ofL x).toList) with h | h
      · have Hf := hide (show isWd (toL s) = true by rw [beq_ofL_true h]; exact mem_of_at hx)
        clear hn hx
        go_wp2
        go_ret
        exact ⟨ret_bool (unhide Hf).symm, B0⟩
      · have Hf := hide (hn.next hx (beq_ofL_false h))
        clear hn hx
        go_wp2
        go_round
        case rel => exact ⟨k + 1, by omega, by go_num, unhide Hf⟩
        case measure => simp [intOf]; omega
    · have e : k = 15 := by omega
      subst e
      have Hf := hide (show isWd (toL s) = false from noneOf.all hn)
      clear hn
      go_wp2
      go_ret
      exact ⟨ret_bool (unhide Hf).symm, B0⟩

end Go.Proofs.YtcehablmloleaaaGreatDoor

namespace Go.Proofs.YtcehablmloleaaaGreatDoor
open Go.RowKit
set_option linter.unusedVariables false

end Go.Proofs.YtcehablmloleaaaGreatDoor

namespace Go.Proofs.YtcehablmloleaaaGreatDoor
open Go.RowKit
set_option linter.unusedVariables false

end Go.Proofs.YtcehablmloleaaaGreatDoor

namespace Go.Proofs.YtcehablmloleaaaGreatDoor
open Go.RowKit
set_option linter.unusedVariables false

end Go.Proofs.YtcehablmloleaaaGreatDoor

namespace Go.Proofs.YtcehablmloleaaaGreatDoor
open Go.RowKit
set_option linter.unusedVariables false

end Go.Proofs.YtcehablmloleaaaGreatDoor

namespace Go.Proofs.YtcehablmloleaaaGreatDoor
open Go.RowKit
set_option linter.unusedVariables false

/-- A slice of statements. -/
structure Sts (w : World) (a : Option Addr) (n c : Nat) (L : List St) : Prop where
  len : L.length = n
  small : n ≤ 1048576
  sizes : ∀ s ∈ L, s.name.size ≤ 1048576
  cells : ∀ j, (h : j < L.length) → ∃ b off, a = some ⟨b, off, none⟩ ∧ b < w.heap.size ∧ w.cell? ⟨b, off + j * 4, none⟩ = some (.int .i64 L[j].kind) ∧ w.cell? ⟨b, off + j * 4 + 1, none⟩ = some (.string L[j].name) ∧ w.cell? ⟨b, off + j * 4 + 2, none⟩ = some (.int .i64 L[j].cond) ∧ w.cell? ⟨b, off + j * 4 + 3, none⟩ = some (.int .i64 L[j].grant)

theorem Sts.below {w w' : World} {B : Nat} {a : Option Addr} {n c : Nat} {L : List St} (h : Sts w a n c L) (hb : Below B w w') (hB : w.heap.size ≤ B) : Sts w' a n c L :=
  ⟨h.len, h.small, h.sizes, fun j hj => by
    obtain ⟨b, off, ha, hl, c0, c1, c2, c3⟩ := h.cells j hj
    have hl' : b < B := by omega
    exact ⟨b, off, ha, Nat.lt_of_lt_of_le hl hb.size, (hb.cell (p := ⟨b, off + j * 4, none⟩) hl').trans c0, (hb.cell (p := ⟨b, off + j * 4 + 1, none⟩) hl').trans c1, (hb.cell (p := ⟨b, off + j * 4 + 2, none⟩) hl').trans c2, (hb.cell (p := ⟨b, off + j * 4 + 3, none⟩) hl').trans c3⟩⟩

end Go.Proofs.YtcehablmloleaaaGreatDoor

namespace Go.Proofs.YtcehablmloleaaaGreatDoor
open Go.RowKit
set_option linter.unusedVariables false

def intsV (L : List Int) : List Value := L.map (Value.int .i64)

theorem one_cell (w : World) (v : Value) (t : TypeId) (b : Nat) (hb : b = w.heap.size) : ∀ j u, ([v] : List Value)[j]? = some u → (w.alloc (.cells #[v] t)).cell? ((⟨b, 0, none⟩ : Addr).add j) = some u := fun j u h => by
  subst hb
  have hj : j = 0 := by
    have := (List.getElem?_eq_some_iff.1 h).1
    simp at this
    exact this
  subst hj
  rw [← h]
  simp [Addr.add]

theorem Row.grown {w w' : World} {b : Nat} {cs : Array Value} {t : TypeId} {row : Option Nat} (h : Row w b cs t) (hg : w.grownBy w' row) (hne : some b = row → False) : Row w' b cs t := ⟨(hg.block b h.lt hne).trans h.out⟩

end Go.Proofs.YtcehablmloleaaaGreatDoor

namespace Go.Proofs.YtcehablmloleaaaGreatDoor
open Go.RowKit
set_option linter.unusedVariables false

/-- One node, at a place. -/
def NdAt (w : World) (b o : Nat) (x : Nd) : Prop := ∃ an nn cn ak nk ck, w.cell? ⟨b, o, none⟩ = some (.int .i64 x.op) ∧ w.cell? ⟨b, o + 1, none⟩ = some (.int .i64 x.num) ∧ w.cell? ⟨b, o + 2, none⟩ = some (.string x.text) ∧ w.cell? ⟨b, o + 3, none⟩ = some (.slice an nn cn) ∧ w.cell? ⟨b, o + 4, none⟩ = some (.slice ak nk ck) ∧ Strs w an nn cn x.names ∧ Ints w ak nk ck x.kids

/-- A slice of nodes. -/
structure Nds (w : World) (a : Option Addr) (n c : Nat) (L : List Nd) : Prop where
  len : L.length = n
  small : n ≤ 1048576
  sizes : ∀ x ∈ L, x.text.size ≤ 1048576
  cells : ∀ j, (h : j < L.length) → ∃ b off, a = some ⟨b, off, none⟩ ∧ b < w.heap.size ∧ NdAt w b (off + j * 5) L[j]

theorem NdAt.below {w w' : World} {B b o : Nat} {x : Nd} (h : NdAt w b o x) (hl : b < w.heap.size) (hb : Below B w w') (hB : w.heap.size ≤ B) : NdAt w' b o x := by
  obtain ⟨an, nn, cn, ak, nk, ck, c0, c1, c2, c3, c4, hN, hK⟩ := h
  have hl' : b < B := by omega
  exact ⟨an, nn, cn, ak, nk, ck, (hb.cell (p := ⟨b, o, none⟩) hl').trans c0, (hb.cell (p := ⟨b, o + 1, none⟩) hl').trans c1, (hb.cell (p := ⟨b, o + 2, none⟩) hl').trans c2, (hb.cell (p := ⟨b, o + 3, none⟩) hl').trans c3, (hb.cell (p := ⟨b, o + 4, none⟩) hl').trans c4, hN.below hb hB, hK.below hb hB⟩

theorem Nds.below {w w' : World} {B : Nat} {a : Option Addr} {n c : Nat} {L : List Nd} (h : Nds w a n c L) (hb : Below B w w') (hB : w.heap.size ≤ B) : Nds w' a n c L :=
  ⟨h.len, h.small, h.sizes, fun j hj => by
    obtain ⟨b, off, ha, hl, hc⟩ := h.cells j hj
    exact ⟨b, off, ha, Nat.lt_of_lt_of_le hl hb.size, hc.below hl hb hB⟩⟩

/-- The table of operators lies where it is laid. -/
structure TabOK (w : World) : Prop where
  lt : 13 < w.heap.size
  cells : ∀ k, w.cell? ⟨13, k, none⟩ = binV[k]?

theorem TabOK.below {w w' : World} {B : Nat} (h : TabOK w) (hb : Below B w w') (hB : w.heap.size ≤ B) : TabOK w' :=
  ⟨Nat.lt_of_lt_of_le h.lt hb.size, fun k => (hb.cell (p := ⟨13, k, none⟩) (Nat.lt_of_lt_of_le h.lt hB)).trans (h.cells k)⟩

end Go.Proofs.YtcehablmloleaaaGreatDoor

namespace Go.Proofs.YtcehablmloleaaaGreatDoor
open Go.RowKit
set_option linter.unusedVariables false

theorem Ex.form (e : Ex) : ∃ t u, e.val = .iface t u := by cases e <;> exact ⟨_, _, rfl⟩

theorem ta_hit {T : TypeId} {fs : Array Field} (hu : Tryz.prog.underlying T = some (.struct fs)) (xT : TypeId) (v : Value) (w : World) : (Instr.typeAssert (.iface T v) xT T true).run Tryz.prog w = .ok (.tuple #[v, .bool true]) w := by simp [Instr.typeAssert, run_underlying hu]

theorem ta_miss {S T : TypeId} {fs : Array Field} {z : Value} (hu : Tryz.prog.underlying T = some (.struct fs)) (hz : ∀ w, (zeroValue T).run Tryz.prog w = .ok z w) (h : S ≠ T) (xT : TypeId) (v : Value) (w : World) : (Instr.typeAssert (.iface S v) xT T true).run Tryz.prog w = .ok (.tuple #[z, .bool false]) w := by simp [Instr.typeAssert, run_underlying hu, hz, h]

end Go.Proofs.YtcehablmloleaaaGreatDoor
