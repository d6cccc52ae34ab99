/-
  Trees, written by the model. Own work.
-/
import Derived.Test.YtbdplgelkgngmaaGreatDoorQO
import Derived.Test.YtbdplgelkgngmaaGreatDoorQP
import Derived.Deep.RegionHeld3
namespace Go.Proofs.YtbdplgelkgngmaaGreatDoor
open Go.RowKit
set_option linter.unusedVariables false

/-- the model's text of a tree: of no level asked beyond its own, and of any -/
def InP (w : World) (a : Option Addr) (n c i : Nat) (op : Int) (pr : ByteArray) : Prop :=
  ∀ (want : Int) (W : World), want ≤ lvN op → Below w.heap.size w W → Calls Tryz.prog 12 #[.slice a n c, .int .i64 i, .int .i64 want] W fun r w' => r = .returned (.string pr) ∧ Below W.heap.size W w'

def PutV (w : World) (a : Option Addr) (n c i : Nat) (put : Int → ByteArray) : Prop :=
  ∀ (want : Int) (W : World), Below w.heap.size w W → Calls Tryz.prog 12 #[.slice a n c, .int .i64 i, .int .i64 want] W fun r w' => r = .returned (.string (put want)) ∧ Below W.heap.size W w'

theorem addS' {a b : ByteArray} (h : a.size + b.size ≤ 9223372036854775807) : ∀ w, (Op.stringOp .add a b).run Tryz.prog w = .ok (.string (a ++ b)) w := fun w => run_string_add_sum w a b h

theorem l2level_at {op : Int} (hop : 1 ≤ op ∧ op ≤ 27) {lv : Int} (h : lvN op = lv) : ∀ w : World, Calls Tryz.prog 24 #[.int .i64 op] w fun e w' => e = .returned (.int .i64 lv) ∧ w' = w := fun w => by
  rw [← h]
  exact l2level_any op w hop

set_option maxHeartbeats 1600000 in
set_option maxRecDepth 100000 in
theorem put_int (w : World) (a : Option Addr) (n c : Nat) (N : List Nd) (h : Nds w a n c N) (i : Nat) (x : Nd) (hx : N[i]? = some x) (ho : x.op = 1) (h0 : 0 ≤ x.num) (h1 : x.num ≤ 9223372036854775807) : InP w a n c i 1 (numB x.num.toNat) := by
  intro want W hl hw
  have hil : i < N.length := (List.getElem?_eq_some_iff.1 hx).1
  have ex : N[i] = x := (List.getElem?_eq_some_iff.1 hx).2
  obtain ⟨b, off, rfl, hb, an, nn, cn, ak, nk, ck, c0, c1, c2, c3, c4, hS, hI⟩ := (h.below hw (Nat.le_refl _)).cells i hil
  rw [ex] at c0 c1 c2 hS hI
  rw [ho] at c0
  have iln : (i : Int) < (n : Int) := by have := h.len; omega
  have hn := h.small
  have hd : decide (lvN 1 < want) = false := decide_eq_false (by omega)
  have HL := hide (l2level_at (op := 1) (by decide) rfl)
  generalize lvN 1 = lv at hd HL hl
  have B0 := (Below.refl W.heap.size W).alloc (Nat.le_refl _) (.cells #[.int .i64 1, .int .i64 x.num, .string x.text, .slice an nn cn, .slice ak nk ck] 67)
  have R0 := Row.new W #[.int .i64 1, .int .i64 x.num, .string x.text, .slice an nn cn, .slice ak nk ck] 67
  clear h hx hil ex ho hl hw
  obtain ⟨k, hk⟩ : ∃ k : Nat, x.num = k := ⟨x.num.toNat, by omega⟩
  rw [hk] at c1 B0 R0 ⊢
  rw [Int.toNat_natCast]
  have HN := hide (fun w => l1num_any k w (by omega))
  clear h0 h1 hk hS hI
  go_enter Tryz.func12, Tryz.ntmps12
  go_wp2_with fail
  refine (unhide HL _).mono ?_
  rintro r w1 ⟨rfl, hw1⟩
  rw [hw1]
  clear hw1 HL
  dsimp only
  go_wp2_with fail
  refine (unhide HN _).mono ?_
  rintro r w2 ⟨rfl, hb2⟩
  dsimp only
  go_wp2_with fail
  go_ret
  exact ⟨rfl, B0.trans (hb2.mono B0.size)⟩

set_option maxHeartbeats 1600000 in
set_option maxRecDepth 100000 in
theorem put_text (w : World) (a : Option Addr) (n c : Nat) (N : List Nd) (h : Nds w a n c N) (i : Nat) (x : Nd) (hx : N[i]? = some x) (ho : x.op = 2) (h0 : x.text.size ≤ 32) : InP w a n c i 2 (⟨#[34]⟩ ++ x.text ++ ⟨#[34]⟩) := by
  intro want W hl hw
  have hil : i < N.length := (List.getElem?_eq_some_iff.1 hx).1
  have ex : N[i] = x := (List.getElem?_eq_some_iff.1 hx).2
  obtain ⟨b, off, rfl, hb, an, nn, cn, ak, nk, ck, c0, c1, c2, c3, c4, hS, hI⟩ := (h.below hw (Nat.le_refl _)).cells i hil
  rw [ex] at c0 c1 c2 hS hI
  rw [ho] at c0
  have iln : (i : Int) < (n : Int) := by have := h.len; omega
  have hn := h.small
  have hd : decide (lvN 2 < want) = false := decide_eq_false (by omega)
  have HL := hide (l2level_at (op := 2) (by decide) rfl)
  generalize lvN 2 = lv at hd HL hl
  have B0 := (Below.refl W.heap.size W).alloc (Nat.le_refl _) (.cells #[.int .i64 2, .int .i64 x.num, .string x.text, .slice an nn cn, .slice ak nk ck] 67)
  have R0 := Row.new W #[.int .i64 2, .int .i64 x.num, .string x.text, .slice an nn cn, .slice ak nk ck] 67
  clear h hx hil ex ho hl hw
  clear hS hI
  go_enter Tryz.func12, Tryz.ntmps12
  go_wp2_with fail
  refine (unhide HL _).mono ?_
  rintro r w1 ⟨rfl, hw1⟩
  rw [hw1]
  clear hw1 HL
  dsimp only
  go_wp2_with fail
  go_ret
  exact ⟨rfl, B0⟩

set_option maxHeartbeats 1600000 in
set_option maxRecDepth 100000 in
theorem put_bool1 (w : World) (a : Option Addr) (n c : Nat) (N : List Nd) (h : Nds w a n c N) (i : Nat) (x : Nd) (hx : N[i]? = some x) (ho : x.op = 3) (h0 : x.num = 1) : InP w a n c i 3 (⟨#[116, 114, 117, 101]⟩) := by
  intro want W hl hw
  have hil : i < N.length := (List.getElem?_eq_some_iff.1 hx).1
  have ex : N[i] = x := (List.getElem?_eq_some_iff.1 hx).2
  obtain ⟨b, off, rfl, hb, an, nn, cn, ak, nk, ck, c0, c1, c2, c3, c4, hS, hI⟩ := (h.below hw (Nat.le_refl _)).cells i hil
  rw [ex] at c0 c1 c2 hS hI
  rw [ho] at c0
  have iln : (i : Int) < (n : Int) := by have := h.len; omega
  have hn := h.small
  have hd : decide (lvN 3 < want) = false := decide_eq_false (by omega)
  have HL := hide (l2level_at (op := 3) (by decide) rfl)
  generalize lvN 3 = lv at hd HL hl
  have B0 := (Below.refl W.heap.size W).alloc (Nat.le_refl _) (.cells #[.int .i64 3, .int .i64 x.num, .string x.text, .slice an nn cn, .slice ak nk ck] 67)
  have R0 := Row.new W #[.int .i64 3, .int .i64 x.num, .string x.text, .slice an nn cn, .slice ak nk ck] 67
  clear h hx hil ex ho hl hw
  rw [h0] at c1 B0 R0
  clear hS hI h0
  go_enter Tryz.func12, Tryz.ntmps12
  go_wp2_with fail
  refine (unhide HL _).mono ?_
  rintro r w1 ⟨rfl, hw1⟩
  rw [hw1]
  clear hw1 HL
  dsimp only
  go_wp2_with fail
  go_ret
  exact ⟨rfl, B0⟩

set_option maxHeartbeats 1600000 in
set_option maxRecDepth 100000 in
theorem put_bool0 (w : World) (a : Option Addr) (n c : Nat) (N : List Nd) (h : Nds w a n c N) (i : Nat) (x : Nd) (hx : N[i]? = some x) (ho : x.op = 3) (h0 : x.num ≠ 1) : InP w a n c i 3 (⟨#[102, 97, 108, 115, 101]⟩) := by
  intro want W hl hw
  have hil : i < N.length := (List.getElem?_eq_some_iff.1 hx).1
  have ex : N[i] = x := (List.getElem?_eq_some_iff.1 hx).2
  obtain ⟨b, off, rfl, hb, an, nn, cn, ak, nk, ck, c0, c1, c2, c3, c4, hS, hI⟩ := (h.below hw (Nat.le_refl _)).cells i hil
  rw [ex] at c0 c1 c2 hS hI
  rw [ho] at c0
  have iln : (i : Int) < (n : Int) := by have := h.len; omega
  have hn := h.small
  have hd : decide (lvN 3 < want) = false := decide_eq_false (by omega)
  have HL := hide (l2level_at (op := 3) (by decide) rfl)
  generalize lvN 3 = lv at hd HL hl
  have B0 := (Below.refl W.heap.size W).alloc (Nat.le_refl _) (.cells #[.int .i64 3, .int .i64 x.num, .string x.text, .slice an nn cn, .slice ak nk ck] 67)
  have R0 := Row.new W #[.int .i64 3, .int .i64 x.num, .string x.text, .slice an nn cn, .slice ak nk ck] 67
  clear h hx hil ex ho hl hw
  have hb1 : (x.num == 1) = false := beq_eq_false_iff_ne.2 h0
  clear hS hI h0
  go_enter Tryz.func12, Tryz.ntmps12
  go_wp2_with fail
  refine (unhide HL _).mono ?_
  rintro r w1 ⟨rfl, hw1⟩
  rw [hw1]
  clear hw1 HL
  dsimp only
  go_wp2_with fail
  go_ret
  exact ⟨rfl, B0⟩

set_option maxHeartbeats 1600000 in
set_option maxRecDepth 100000 in
theorem put_name (w : World) (a : Option Addr) (n c : Nat) (N : List Nd) (h : Nds w a n c N) (i : Nat) (x : Nd) (hx : N[i]? = some x) (ho : x.op = 5) : InP w a n c i 5 x.text := by
  intro want W hl hw
  have hil : i < N.length := (List.getElem?_eq_some_iff.1 hx).1
  have ex : N[i] = x := (List.getElem?_eq_some_iff.1 hx).2
  obtain ⟨b, off, rfl, hb, an, nn, cn, ak, nk, ck, c0, c1, c2, c3, c4, hS, hI⟩ := (h.below hw (Nat.le_refl _)).cells i hil
  rw [ex] at c0 c1 c2 hS hI
  rw [ho] at c0
  have iln : (i : Int) < (n : Int) := by have := h.len; omega
  have hn := h.small
  have hd : decide (lvN 5 < want) = false := decide_eq_false (by omega)
  have HL := hide (l2level_at (op := 5) (by decide) rfl)
  generalize lvN 5 = lv at hd HL hl
  have B0 := (Below.refl W.heap.size W).alloc (Nat.le_refl _) (.cells #[.int .i64 5, .int .i64 x.num, .string x.text, .slice an nn cn, .slice ak nk ck] 67)
  have R0 := Row.new W #[.int .i64 5, .int .i64 x.num, .string x.text, .slice an nn cn, .slice ak nk ck] 67
  clear h hx hil ex ho hl hw
  clear hS hI
  go_enter Tryz.func12, Tryz.ntmps12
  go_wp2_with fail
  refine (unhide HL _).mono ?_
  rintro r w1 ⟨rfl, hw1⟩
  rw [hw1]
  clear hw1 HL
  dsimp only
  go_wp2_with fail
  go_ret
  exact ⟨rfl, B0⟩

set_option maxHeartbeats 1600000 in
set_option maxRecDepth 100000 in
theorem put_set (w : World) (a : Option Addr) (n c : Nat) (N : List Nd) (h : Nds w a n c N) (i : Nat) (x : Nd) (hx : N[i]? = some x) (ho : x.op = 4) (h0 : x.names.length ≤ 64) (h1 : ∀ y ∈ x.names, y.size ≤ 32) : InP w a n c i 4 (setT x.names) := by
  intro want W hl hw
  have hil : i < N.length := (List.getElem?_eq_some_iff.1 hx).1
  have ex : N[i] = x := (List.getElem?_eq_some_iff.1 hx).2
  obtain ⟨b, off, rfl, hb, an, nn, cn, ak, nk, ck, c0, c1, c2, c3, c4, hS, hI⟩ := (h.below hw (Nat.le_refl _)).cells i hil
  rw [ex] at c0 c1 c2 hS hI
  rw [ho] at c0
  have iln : (i : Int) < (n : Int) := by have := h.len; omega
  have hn := h.small
  have hd : decide (lvN 4 < want) = false := decide_eq_false (by omega)
  have HL := hide (l2level_at (op := 4) (by decide) rfl)
  generalize lvN 4 = lv at hd HL hl
  have B0 := (Below.refl W.heap.size W).alloc (Nat.le_refl _) (.cells #[.int .i64 4, .int .i64 x.num, .string x.text, .slice an nn cn, .slice ak nk ck] 67)
  have R0 := Row.new W #[.int .i64 4, .int .i64 x.num, .string x.text, .slice an nn cn, .slice ak nk ck] 67
  clear h hx hil ex ho hl hw
  have hln := hS.len
  by_cases h00 : x.names = []
  · have e0 : setT x.names = ⟨#[123, 125]⟩ := by rw [h00]; decide
    obtain rfl : nn = 0 := by rw [hln, h00]; rfl
    rw [e0]
    clear hS hI h0 h1 hln h00
    go_enter Tryz.func12, Tryz.ntmps12
    go_wp2_with fail
    refine (unhide HL _).mono ?_
    rintro r w1 ⟨rfl, hw1⟩
    rw [hw1]
    clear hw1 HL
    dsimp only
    go_wp2_with fail
    go_ret
    exact ⟨rfl, B0⟩
  · have HQ := hide (set_quotes h00)
    have nz : ((nn : Int) == 0) = false := beq_eq_false_iff_ne.2 (by have : x.names.length ≠ 0 := fun e => h00 (List.eq_nil_of_length_eq_zero e); omega)
    have HJ := hide (l1join_any an nn cn x.names _ (hS.below B0 (Nat.le_refl _)) (by omega) h1)
    have zj := jn_size true x.names h1
    rw [← unhide HQ]
    generalize jn true x.names = J at HJ zj ⊢
    have zj2 : J.size ≤ 2304 := by omega
    clear hS hI h0 h1 hln h00 HQ zj
    go_enter Tryz.func12, Tryz.ntmps12
    go_wp2_with fail
    refine (unhide HL _).mono ?_
    rintro r w1 ⟨rfl, hw1⟩
    rw [hw1]
    clear hw1 HL
    dsimp only
    go_wp2_with fail
    refine (unhide HJ).mono ?_
    rintro r w2 ⟨rfl, hw2⟩
    rw [hw2]
    clear hw2
    have e1 : (⟨#[123, 34]⟩ : ByteArray).size = 2 := rfl
    have e2 : (⟨#[34, 125]⟩ : ByteArray).size = 2 := rfl
    dsimp only
    go_wp2_with fail
    go_ret
    exact ⟨rfl, B0⟩

set_option maxHeartbeats 1600000 in
set_option maxRecDepth 100000 in
theorem full_put (w : World) (a : Option Addr) (n c : Nat) (N : List Nd) (h : Nds w a n c N) (i : Nat) (x : Nd) (hx : N[i]? = some x) (hop : 1 ≤ x.op ∧ x.op ≤ 27) (pr : ByteArray) (hz : pr.size ≤ 100000000000) (hI : InP w a n c i x.op pr) : PutV w a n c i (fun want => par (decide (lvN x.op < want)) pr) := by
  intro want W hw
  by_cases hl : lvN x.op < want
  · have HE := hide (show par (decide (lvN x.op < want)) pr = ⟨#[40]⟩ ++ pr ++ ⟨#[41]⟩ by rw [decide_eq_true hl]; rfl)
    dsimp only
    rw [unhide HE]
    have hil : i < N.length := (List.getElem?_eq_some_iff.1 hx).1
    have ex : N[i] = x := (List.getElem?_eq_some_iff.1 hx).2
    obtain ⟨b, off, rfl, hb, an, nn, cn, ak, nk, ck, c0, c1, c2, c3, c4, hS, hI'⟩ := (h.below hw (Nat.le_refl _)).cells i hil
    rw [ex] at c0 c1 c2 hS hI'
    have iln : (i : Int) < (n : Int) := by have := h.len; omega
    have hn := h.small
    have hd : decide (lvN x.op < want) = true := decide_eq_true hl
    have HL := hide (l2level_at hop rfl)
    have HI := hide (fun W hW => hI 0 W (lvN_pos _) hW)
    have B0 := (Below.refl W.heap.size W).alloc (Nat.le_refl _) (.cells #[.int .i64 x.op, .int .i64 x.num, .string x.text, .slice an nn cn, .slice ak nk ck] 67)
    have HW := hide (hw.trans (B0.mono hw.size))
    have e40 : (⟨#[40]⟩ : ByteArray).size = 1 := rfl
    have e41 : (⟨#[41]⟩ : ByteArray).size = 1 := rfl
    generalize lvN x.op = lv at hd HL
    clear h hx hil ex hl hw hI hS hI' hop HE
    go_enter Tryz.func12, Tryz.ntmps12
    go_wp2_with fail
    refine (unhide HL _).mono ?_
    rintro r w1 ⟨rfl, hw1⟩
    rw [hw1]
    clear hw1 HL
    dsimp only
    go_wp2_with fail
    refine (unhide HI _ (unhide HW)).mono ?_
    rintro r w2 ⟨rfl, hb2⟩
    dsimp only
    go_wp2_with fail
    go_ret
    exact ⟨rfl, B0.trans (hb2.mono B0.size)⟩
  · dsimp only
    rw [decide_eq_false hl]
    exact hI want W (by omega) hw

set_option maxHeartbeats 1600000 in
set_option maxRecDepth 100000 in
theorem put_neg (w : World) (a : Option Addr) (n c : Nat) (N : List Nd) (h : Nds w a n c N) (i : Nat) (x : Nd) (hx : N[i]? = some x) (ho : x.op = 8) (k : Nat) (hk : x.kids = [(k : Int)]) (p : Int → ByteArray) (hP : PutV w a n c k p) (hz : (p 7).size ≤ 50000000000) : InP w a n c i 8 (⟨#[45]⟩ ++ p 7) := by
  intro want W hl hw
  have hil : i < N.length := (List.getElem?_eq_some_iff.1 hx).1
  have ex : N[i] = x := (List.getElem?_eq_some_iff.1 hx).2
  obtain ⟨b, off, rfl, hb, an, nn, cn, ak, nk, ck, c0, c1, c2, c3, c4, hS, hI⟩ := (h.below hw (Nat.le_refl _)).cells i hil
  rw [ex] at c0 c1 c2 hS hI
  rw [ho] at c0
  have iln : (i : Int) < (n : Int) := by have := h.len; omega
  have hn := h.small
  have hd : decide (lvN 8 < want) = false := decide_eq_false (by omega)
  have HL := hide (l2level_at (op := 8) (by decide) rfl)
  generalize lvN 8 = lv at hd HL hl
  have B0 := (Below.refl W.heap.size W).alloc (Nat.le_refl _) (.cells #[.int .i64 8, .int .i64 x.num, .string x.text, .slice an nn cn, .slice ak nk ck] 67)
  have R0 := Row.new W #[.int .i64 8, .int .i64 x.num, .string x.text, .slice an nn cn, .slice ak nk ck] 67
  have HW := hide (hw.trans (B0.mono hw.size))
  clear h hx hil ex ho hl hw
  rw [hk] at hI
  obtain ⟨bk, ok, rfl, lk, ck0⟩ := hI.cells 0 (by simp)
  obtain rfl : nk = 1 := hI.len.symm
  simp only [List.getElem_cons_zero, Nat.add_zero] at ck0
  have HP := hide hP
  have eL : (⟨#[45]⟩ : ByteArray).size = 1 := rfl
  have e41 : (⟨#[41]⟩ : ByteArray).size = 1 := rfl
  clear hS hI hk hP
  go_enter Tryz.func12, Tryz.ntmps12
  go_wp2_with fail
  refine (unhide HL _).mono ?_
  rintro r w1 ⟨rfl, hw1⟩
  rw [hw1]
  clear hw1 HL
  dsimp only
  go_wp2_with fail
  refine (unhide HP _ _ (unhide HW)).mono ?_
  rintro r w2 ⟨rfl, hb2⟩
  dsimp only
  go_wp2_with fail
  go_ret
  exact ⟨rfl, B0.trans (hb2.mono B0.size)⟩

set_option maxHeartbeats 1600000 in
set_option maxRecDepth 100000 in
theorem put_not (w : World) (a : Option Addr) (n c : Nat) (N : List Nd) (h : Nds w a n c N) (i : Nat) (x : Nd) (hx : N[i]? = some x) (ho : x.op = 9) (k : Nat) (hk : x.kids = [(k : Int)]) (p : Int → ByteArray) (hP : PutV w a n c k p) (hz : (p 3).size ≤ 50000000000) : InP w a n c i 9 (⟨#[110, 111, 116, 32]⟩ ++ p 3) := by
  intro want W hl hw
  have hil : i < N.length := (List.getElem?_eq_some_iff.1 hx).1
  have ex : N[i] = x := (List.getElem?_eq_some_iff.1 hx).2
  obtain ⟨b, off, rfl, hb, an, nn, cn, ak, nk, ck, c0, c1, c2, c3, c4, hS, hI⟩ := (h.below hw (Nat.le_refl _)).cells i hil
  rw [ex] at c0 c1 c2 hS hI
  rw [ho] at c0
  have iln : (i : Int) < (n : Int) := by have := h.len; omega
  have hn := h.small
  have hd : decide (lvN 9 < want) = false := decide_eq_false (by omega)
  have HL := hide (l2level_at (op := 9) (by decide) rfl)
  generalize lvN 9 = lv at hd HL hl
  have B0 := (Below.refl W.heap.size W).alloc (Nat.le_refl _) (.cells #[.int .i64 9, .int .i64 x.num, .string x.text, .slice an nn cn, .slice ak nk ck] 67)
  have R0 := Row.new W #[.int .i64 9, .int .i64 x.num, .string x.text, .slice an nn cn, .slice ak nk ck] 67
  have HW := hide (hw.trans (B0.mono hw.size))
  clear h hx hil ex ho hl hw
  rw [hk] at hI
  obtain ⟨bk, ok, rfl, lk, ck0⟩ := hI.cells 0 (by simp)
  obtain rfl : nk = 1 := hI.len.symm
  simp only [List.getElem_cons_zero, Nat.add_zero] at ck0
  have HP := hide hP
  have eL : (⟨#[110, 111, 116, 32]⟩ : ByteArray).size = 4 := rfl
  have e41 : (⟨#[41]⟩ : ByteArray).size = 1 := rfl
  clear hS hI hk hP
  go_enter Tryz.func12, Tryz.ntmps12
  go_wp2_with fail
  refine (unhide HL _).mono ?_
  rintro r w1 ⟨rfl, hw1⟩
  rw [hw1]
  clear hw1 HL
  dsimp only
  go_wp2_with fail
  refine (unhide HP _ _ (unhide HW)).mono ?_
  rintro r w2 ⟨rfl, hb2⟩
  dsimp only
  go_wp2_with fail
  go_ret
  exact ⟨rfl, B0.trans (hb2.mono B0.size)⟩

set_option maxHeartbeats 1600000 in
set_option maxRecDepth 100000 in
theorem put_size (w : World) (a : Option Addr) (n c : Nat) (N : List Nd) (h : Nds w a n c N) (i : Nat) (x : Nd) (hx : N[i]? = some x) (ho : x.op = 10) (k : Nat) (hk : x.kids = [(k : Int)]) (p : Int → ByteArray) (hP : PutV w a n c k p) (hz : (p 0).size ≤ 50000000000) : InP w a n c i 10 (⟨#[115, 105, 122, 101, 40]⟩ ++ p 0 ++ ⟨#[41]⟩) := by
  intro want W hl hw
  have hil : i < N.length := (List.getElem?_eq_some_iff.1 hx).1
  have ex : N[i] = x := (List.getElem?_eq_some_iff.1 hx).2
  obtain ⟨b, off, rfl, hb, an, nn, cn, ak, nk, ck, c0, c1, c2, c3, c4, hS, hI⟩ := (h.below hw (Nat.le_refl _)).cells i hil
  rw [ex] at c0 c1 c2 hS hI
  rw [ho] at c0
  have iln : (i : Int) < (n : Int) := by have := h.len; omega
  have hn := h.small
  have hd : decide (lvN 10 < want) = false := decide_eq_false (by omega)
  have HL := hide (l2level_at (op := 10) (by decide) rfl)
  generalize lvN 10 = lv at hd HL hl
  have B0 := (Below.refl W.heap.size W).alloc (Nat.le_refl _) (.cells #[.int .i64 10, .int .i64 x.num, .string x.text, .slice an nn cn, .slice ak nk ck] 67)
  have R0 := Row.new W #[.int .i64 10, .int .i64 x.num, .string x.text, .slice an nn cn, .slice ak nk ck] 67
  have HW := hide (hw.trans (B0.mono hw.size))
  clear h hx hil ex ho hl hw
  rw [hk] at hI
  obtain ⟨bk, ok, rfl, lk, ck0⟩ := hI.cells 0 (by simp)
  obtain rfl : nk = 1 := hI.len.symm
  simp only [List.getElem_cons_zero, Nat.add_zero] at ck0
  have HP := hide hP
  have eL : (⟨#[115, 105, 122, 101, 40]⟩ : ByteArray).size = 5 := rfl
  have e41 : (⟨#[41]⟩ : ByteArray).size = 1 := rfl
  clear hS hI hk hP
  go_enter Tryz.func12, Tryz.ntmps12
  go_wp2_with fail
  refine (unhide HL _).mono ?_
  rintro r w1 ⟨rfl, hw1⟩
  rw [hw1]
  clear hw1 HL
  dsimp only
  go_wp2_with fail
  refine (unhide HP _ _ (unhide HW)).mono ?_
  rintro r w2 ⟨rfl, hb2⟩
  dsimp only
  go_wp2_with fail
  go_ret
  exact ⟨rfl, B0.trans (hb2.mono B0.size)⟩

set_option maxHeartbeats 1600000 in
set_option maxRecDepth 100000 in
theorem put_ite (w : World) (a : Option Addr) (n c : Nat) (N : List Nd) (h : Nds w a n c N) (i : Nat) (x : Nd) (hx : N[i]? = some x) (ho : x.op = 27) (k l q : Nat) (hk : x.kids = [(k : Int), (l : Int), (q : Int)]) (p1 p2 p3 : Int → ByteArray) (h1 : PutV w a n c k p1) (h2 : PutV w a n c l p2) (h3 : PutV w a n c q p3) (z1 : (p1 0).size ≤ 16000010) (z2 : (p2 0).size ≤ 16000010) (z3 : (p3 0).size ≤ 16000010) : InP w a n c i 27 (⟨#[105, 102, 32]⟩ ++ p1 0 ++ ⟨#[32, 116, 104, 101, 110, 32]⟩ ++ p2 0 ++ ⟨#[32, 101, 108, 115, 101, 32]⟩ ++ p3 0) := by
  intro want W hl hw
  have hil : i < N.length := (List.getElem?_eq_some_iff.1 hx).1
  have ex : N[i] = x := (List.getElem?_eq_some_iff.1 hx).2
  obtain ⟨b, off, rfl, hb, an, nn, cn, ak, nk, ck, c0, c1, c2, c3, c4, hS, hI⟩ := (h.below hw (Nat.le_refl _)).cells i hil
  rw [ex] at c0 c1 c2 hS hI
  rw [ho] at c0
  have iln : (i : Int) < (n : Int) := by have := h.len; omega
  have hn := h.small
  have hd : decide (lvN 27 < want) = false := decide_eq_false (by omega)
  have HL := hide (l2level_at (op := 27) (by decide) rfl)
  generalize lvN 27 = lv at hd HL hl
  have B0 := (Below.refl W.heap.size W).alloc (Nat.le_refl _) (.cells #[.int .i64 27, .int .i64 x.num, .string x.text, .slice an nn cn, .slice ak nk ck] 67)
  have R0 := Row.new W #[.int .i64 27, .int .i64 x.num, .string x.text, .slice an nn cn, .slice ak nk ck] 67
  have HW := hide (hw.trans (B0.mono hw.size))
  clear h hx hil ex ho hl hw
  rw [hk] at hI
  obtain ⟨bk, ok, rfl, lk, ck0⟩ := hI.cells 0 (by simp)
  have ck1 : W.cell? ⟨bk, ok + 1, none⟩ = some (.int .i64 l) := by
    obtain ⟨b2, o2, e2, _, d2⟩ := hI.cells 1 (by simp)
    obtain ⟨rfl, rfl⟩ : bk = b2 ∧ ok = o2 := by simpa using e2
    simpa using d2
  have ck2 : W.cell? ⟨bk, ok + 2, none⟩ = some (.int .i64 q) := by
    obtain ⟨b2, o2, e2, _, d2⟩ := hI.cells 2 (by simp)
    obtain ⟨rfl, rfl⟩ : bk = b2 ∧ ok = o2 := by simpa using e2
    simpa using d2
  obtain rfl : nk = 3 := hI.len.symm
  simp only [List.getElem_cons_zero, Nat.add_zero] at ck0
  have H1 := hide (h1 0)
  have H2 := hide (h2 0)
  have H3 := hide (h3 0)
  generalize p1 0 = t1 at H1 z1 ⊢
  generalize p2 0 = t2 at H2 z2 ⊢
  generalize p3 0 = t3 at H3 z3 ⊢
  clear hS hI hk h1 h2 h3
  go_enter Tryz.func12, Tryz.ntmps12
  go_wp2_with fail
  refine (unhide HL _).mono ?_
  rintro r w1 ⟨rfl, hw1⟩
  rw [hw1]
  clear hw1 HL
  dsimp only
  have W0E : ∃ W0, W0 = W.alloc (.cells #[.int .i64 27, .int .i64 x.num, .string x.text, .slice an nn cn, .slice (some ⟨bk, ok, none⟩) 3 ck] 67) := ⟨_, rfl⟩
  go_wp2_with fail
  obtain ⟨W0, hW0⟩ := W0E
  rw [← hW0] at B0 R0 HW ⊢
  have C0 := (B0.cell (p := ⟨bk, ok, none⟩) lk).trans ck0
  have C1 := (B0.cell (p := ⟨bk, ok + 1, none⟩) lk).trans ck1
  have C2 := (B0.cell (p := ⟨bk, ok + 2, none⟩) lk).trans ck2
  have CR : W0.cell? ⟨W.heap.size, 4, none⟩ = some (.slice (some ⟨bk, ok, none⟩) 3 ck) := R0.cell 4
  have LR := R0.lt
  have LK : bk < W0.heap.size := Nat.lt_of_lt_of_le lk B0.size
  clear hW0 R0 ck0 ck1 ck2 c0 c1 c2 c3 c4
  have D1 : Below W0.heap.size W0 W0.drew := (Below.refl _ _).drew
  have HWD := hide ((unhide HW).trans (D1.mono (unhide HW).size))
  have keep : ∀ w', Below W0.heap.size W0 w' → w'.cell? ⟨W.heap.size, 4, none⟩ = some (.slice (some ⟨bk, ok, none⟩) 3 ck) ∧ w'.cell? ⟨bk, ok, none⟩ = some (.int .i64 k) ∧ w'.cell? ⟨bk, ok + 1, none⟩ = some (.int .i64 l) ∧ w'.cell? ⟨bk, ok + 2, none⟩ = some (.int .i64 q) := fun w' hb => ⟨(hb.cell (p := ⟨W.heap.size, 4, none⟩) LR).trans CR, (hb.cell (p := ⟨bk, ok, none⟩) LK).trans C0, (hb.cell (p := ⟨bk, ok + 1, none⟩) LK).trans C1, (hb.cell (p := ⟨bk, ok + 2, none⟩) LK).trans C2⟩
  have KP := hide keep
  have q1 := keep _ D1
  have e1 : (⟨#[105, 102, 32]⟩ : ByteArray).size = 3 := rfl
  have e2 : (⟨#[32, 116, 104, 101, 110, 32]⟩ : ByteArray).size = 6 := rfl
  have e3 : (⟨#[32, 101, 108, 115, 101, 32]⟩ : ByteArray).size = 6 := rfl
  have s1 := addS' (a := ⟨#[105, 102, 32]⟩) (b := t1) (by rw [e1]; omega)
  have s2 := addS' (a := ⟨#[105, 102, 32]⟩ ++ t1) (b := ⟨#[32, 116, 104, 101, 110, 32]⟩) (by rw [ByteArray.size_append, e1, e2]; omega)
  have s3 := addS' (a := ⟨#[105, 102, 32]⟩ ++ t1 ++ ⟨#[32, 116, 104, 101, 110, 32]⟩) (b := t2) (by simp only [ByteArray.size_append, e1, e2]; omega)
  have s4 := addS' (a := ⟨#[105, 102, 32]⟩ ++ t1 ++ ⟨#[32, 116, 104, 101, 110, 32]⟩ ++ t2) (b := ⟨#[32, 101, 108, 115, 101, 32]⟩) (by simp only [ByteArray.size_append, e1, e2, e3]; omega)
  have s5 := addS' (a := ⟨#[105, 102, 32]⟩ ++ t1 ++ ⟨#[32, 116, 104, 101, 110, 32]⟩ ++ t2 ++ ⟨#[32, 101, 108, 115, 101, 32]⟩) (b := t3) (by simp only [ByteArray.size_append, e1, e2, e3]; omega)
  clear keep C0 C1 C2 CR z1 z2 z3
  go_region_held3 (fun w' => w'.cell? ⟨W.heap.size, 4, none⟩ = some (.slice (some ⟨bk, ok, none⟩) 3 ck) ∧ w'.cell? ⟨bk, ok, none⟩ = some (.int .i64 k) ∧ w'.cell? ⟨bk, ok + 1, none⟩ = some (.int .i64 l) ∧ w'.cell? ⟨bk, ok + 2, none⟩ = some (.int .i64 q)) (first | assumption | go_keep)
    (first
      | (go_at_call 12; refine (unhide H3 _ (unhide HW3)).mono ?_; rintro r w4 ⟨rfl, hb4⟩; have G4 := G3.trans (hb4.mono G3.size); have HW4 := hide ((unhide HW3).trans (hb4.mono (unhide HW3).size)); have q4 := unhide KP _ G4)
      | (go_at_call 12; refine (unhide H2 _ (unhide HW2)).mono ?_; rintro r w3 ⟨rfl, hb3⟩; have G3 := G2.trans (hb3.mono G2.size); have HW3 := hide ((unhide HW2).trans (hb3.mono (unhide HW2).size)); have q3 := unhide KP _ G3)
      | (go_at_call 12; refine (unhide H1 _ (unhide HWD)).mono ?_; rintro r w2 ⟨rfl, hb2⟩; have G2 := D1.trans (hb2.mono D1.size); have HW2 := hide ((unhide HWD).trans (hb2.mono (unhide HWD).size)); have q2 := unhide KP _ G2))
  go_wp2_with fail
  go_ret
  exact ⟨rfl, B0.trans (G4.mono B0.size)⟩

end Go.Proofs.YtbdplgelkgngmaaGreatDoor
