/-
  DVE, DVQ. Own work.
-/
import Derived.Test.YtogenboibgddaaaGreatDoorMXAF
import Derived.Test.YtogenboibgddaaaGreatDoorMXAH
namespace Go.Proofs.YtogenboibgddaaaGreatDoor
open Go.RowKit
set_option linter.unusedVariables false

variable {aS aO aZ aW : Addr} {G : Nat → Prop}

set_option maxRecDepth 100000 in
set_option maxHeartbeats 3200000 in
theorem nums_any (op a b : Int) (w : World) (hs : Sent w aS aO aZ aW) (ha : I64 a) (hb : I64 b) (ho : op = 11 ∨ op = 12 ∨ op = 13 ∨ op = 14 ∨ op = 15 ∨ op = 21 ∨ op = 22) :
    Calls Tryz.prog 126 #[.int .i64 op, .int .i64 a, .int .i64 b] w (OAns G aS aO aZ aW (evBin op (.int a) (.int b)) w) := by
  rcases ho with rfl | rfl | rfl | rfl | rfl | rfl | rfl
  · have HC := hide (calculate_any 1 a b w hs ha hb)
    have h1 := calcF_code4 1 a b
    have h2 := calcF_i64 1 a b
    have HE := hide (evBin_num (op := 11) (a := a) (b := b) (by decide))
    rw [show (11 : Int) - 10 = 1 by decide] at HE
    generalize calcF 1 a b = p at HC h1 h2 HE
    obtain ⟨p1, p2⟩ := p
    by_cases h0 : p2 = 0
    · subst h0
      go_enter Tryz.func126, Tryz.ntmps126
      go_wp2_with fail
      refine (unhide HC).mono ?_
      rintro r w1 ⟨rfl, hb1⟩
      dsimp only [pairV, errV, if_true]
      go_wp2_with fail
      refine bodyPost_ret (v := .tuple #[.iface 165 (.int .i64 p1), .nilIface]) (by simp [results, Tryz.results126, go_sem]) rfl ?_
      rw [unhide HE]
      exact ⟨⟨_, rfl, rfl, h2⟩, hb1⟩
    · obtain ⟨e, he⟩ := errV_form (aS := aS) (aO := aO) (aZ := aZ) (aW := aW) (c := p2) (by dsimp only at h1; omega)
      have Hp := hide h0
      have Hh := hide h1
      clear h0 h1
      go_enter Tryz.func126, Tryz.ntmps126
      go_wp2_with fail
      refine (unhide HC).mono ?_
      rintro r w1 ⟨rfl, hb1⟩
      dsimp only [pairV]
      rw [he]
      go_wp2_with fail
      refine bodyPost_ret (v := .tuple #[.iface 165 (.int .i64 p1), .iface 216 (.pointer (some e))]) (by simp [results, Tryz.results126, go_sem]) rfl ?_
      rw [unhide HE, ofCalc, if_neg (unhide Hp)]
      have := unhide Hh
      have := unhide Hp
      exact ⟨⟨_, by rw [he], by dsimp only at *; omega, by dsimp only at *; omega⟩, hb1⟩
  · have HC := hide (calculate_any 2 a b w hs ha hb)
    have h1 := calcF_code4 2 a b
    have h2 := calcF_i64 2 a b
    have HE := hide (evBin_num (op := 12) (a := a) (b := b) (by decide))
    rw [show (12 : Int) - 10 = 2 by decide] at HE
    generalize calcF 2 a b = p at HC h1 h2 HE
    obtain ⟨p1, p2⟩ := p
    by_cases h0 : p2 = 0
    · subst h0
      go_enter Tryz.func126, Tryz.ntmps126
      go_wp2_with fail
      refine (unhide HC).mono ?_
      rintro r w1 ⟨rfl, hb1⟩
      dsimp only [pairV, errV, if_true]
      go_wp2_with fail
      refine bodyPost_ret (v := .tuple #[.iface 165 (.int .i64 p1), .nilIface]) (by simp [results, Tryz.results126, go_sem]) rfl ?_
      rw [unhide HE]
      exact ⟨⟨_, rfl, rfl, h2⟩, hb1⟩
    · obtain ⟨e, he⟩ := errV_form (aS := aS) (aO := aO) (aZ := aZ) (aW := aW) (c := p2) (by dsimp only at h1; omega)
      have Hp := hide h0
      have Hh := hide h1
      clear h0 h1
      go_enter Tryz.func126, Tryz.ntmps126
      go_wp2_with fail
      refine (unhide HC).mono ?_
      rintro r w1 ⟨rfl, hb1⟩
      dsimp only [pairV]
      rw [he]
      go_wp2_with fail
      refine bodyPost_ret (v := .tuple #[.iface 165 (.int .i64 p1), .iface 216 (.pointer (some e))]) (by simp [results, Tryz.results126, go_sem]) rfl ?_
      rw [unhide HE, ofCalc, if_neg (unhide Hp)]
      have := unhide Hh
      have := unhide Hp
      exact ⟨⟨_, by rw [he], by dsimp only at *; omega, by dsimp only at *; omega⟩, hb1⟩
  · have HC := hide (calculate_any 3 a b w hs ha hb)
    have h1 := calcF_code4 3 a b
    have h2 := calcF_i64 3 a b
    have HE := hide (evBin_num (op := 13) (a := a) (b := b) (by decide))
    rw [show (13 : Int) - 10 = 3 by decide] at HE
    generalize calcF 3 a b = p at HC h1 h2 HE
    obtain ⟨p1, p2⟩ := p
    by_cases h0 : p2 = 0
    · subst h0
      go_enter Tryz.func126, Tryz.ntmps126
      go_wp2_with fail
      refine (unhide HC).mono ?_
      rintro r w1 ⟨rfl, hb1⟩
      dsimp only [pairV, errV, if_true]
      go_wp2_with fail
      refine bodyPost_ret (v := .tuple #[.iface 165 (.int .i64 p1), .nilIface]) (by simp [results, Tryz.results126, go_sem]) rfl ?_
      rw [unhide HE]
      exact ⟨⟨_, rfl, rfl, h2⟩, hb1⟩
    · obtain ⟨e, he⟩ := errV_form (aS := aS) (aO := aO) (aZ := aZ) (aW := aW) (c := p2) (by dsimp only at h1; omega)
      have Hp := hide h0
      have Hh := hide h1
      clear h0 h1
      go_enter Tryz.func126, Tryz.ntmps126
      go_wp2_with fail
      refine (unhide HC).mono ?_
      rintro r w1 ⟨rfl, hb1⟩
      dsimp only [pairV]
      rw [he]
      go_wp2_with fail
      refine bodyPost_ret (v := .tuple #[.iface 165 (.int .i64 p1), .iface 216 (.pointer (some e))]) (by simp [results, Tryz.results126, go_sem]) rfl ?_
      rw [unhide HE, ofCalc, if_neg (unhide Hp)]
      have := unhide Hh
      have := unhide Hp
      exact ⟨⟨_, by rw [he], by dsimp only at *; omega, by dsimp only at *; omega⟩, hb1⟩
  · have HC := hide (calculate_any 4 a b w hs ha hb)
    have h1 := calcF_code4 4 a b
    have h2 := calcF_i64 4 a b
    have HE := hide (evBin_num (op := 14) (a := a) (b := b) (by decide))
    rw [show (14 : Int) - 10 = 4 by decide] at HE
    generalize calcF 4 a b = p at HC h1 h2 HE
    obtain ⟨p1, p2⟩ := p
    by_cases h0 : p2 = 0
    · subst h0
      go_enter Tryz.func126, Tryz.ntmps126
      go_wp2_with fail
      refine (unhide HC).mono ?_
      rintro r w1 ⟨rfl, hb1⟩
      dsimp only [pairV, errV, if_true]
      go_wp2_with fail
      refine bodyPost_ret (v := .tuple #[.iface 165 (.int .i64 p1), .nilIface]) (by simp [results, Tryz.results126, go_sem]) rfl ?_
      rw [unhide HE]
      exact ⟨⟨_, rfl, rfl, h2⟩, hb1⟩
    · obtain ⟨e, he⟩ := errV_form (aS := aS) (aO := aO) (aZ := aZ) (aW := aW) (c := p2) (by dsimp only at h1; omega)
      have Hp := hide h0
      have Hh := hide h1
      clear h0 h1
      go_enter Tryz.func126, Tryz.ntmps126
      go_wp2_with fail
      refine (unhide HC).mono ?_
      rintro r w1 ⟨rfl, hb1⟩
      dsimp only [pairV]
      rw [he]
      go_wp2_with fail
      refine bodyPost_ret (v := .tuple #[.iface 165 (.int .i64 p1), .iface 216 (.pointer (some e))]) (by simp [results, Tryz.results126, go_sem]) rfl ?_
      rw [unhide HE, ofCalc, if_neg (unhide Hp)]
      have := unhide Hh
      have := unhide Hp
      exact ⟨⟨_, by rw [he], by dsimp only at *; omega, by dsimp only at *; omega⟩, hb1⟩
  · have HC := hide (calculate_any 5 a b w hs ha hb)
    have h1 := calcF_code4 5 a b
    have h2 := calcF_i64 5 a b
    have HE := hide (evBin_num (op := 15) (a := a) (b := b) (by decide))
    rw [show (15 : Int) - 10 = 5 by decide] at HE
    generalize calcF 5 a b = p at HC h1 h2 HE
    obtain ⟨p1, p2⟩ := p
    by_cases h0 : p2 = 0
    · subst h0
      go_enter Tryz.func126, Tryz.ntmps126
      go_wp2_with fail
      refine (unhide HC).mono ?_
      rintro r w1 ⟨rfl, hb1⟩
      dsimp only [pairV, errV, if_true]
      go_wp2_with fail
      refine bodyPost_ret (v := .tuple #[.iface 165 (.int .i64 p1), .nilIface]) (by simp [results, Tryz.results126, go_sem]) rfl ?_
      rw [unhide HE]
      exact ⟨⟨_, rfl, rfl, h2⟩, hb1⟩
    · obtain ⟨e, he⟩ := errV_form (aS := aS) (aO := aO) (aZ := aZ) (aW := aW) (c := p2) (by dsimp only at h1; omega)
      have Hp := hide h0
      have Hh := hide h1
      clear h0 h1
      go_enter Tryz.func126, Tryz.ntmps126
      go_wp2_with fail
      refine (unhide HC).mono ?_
      rintro r w1 ⟨rfl, hb1⟩
      dsimp only [pairV]
      rw [he]
      go_wp2_with fail
      refine bodyPost_ret (v := .tuple #[.iface 165 (.int .i64 p1), .iface 216 (.pointer (some e))]) (by simp [results, Tryz.results126, go_sem]) rfl ?_
      rw [unhide HE, ofCalc, if_neg (unhide Hp)]
      have := unhide Hh
      have := unhide Hp
      exact ⟨⟨_, by rw [he], by dsimp only at *; omega, by dsimp only at *; omega⟩, hb1⟩
  · go_enter Tryz.func126, Tryz.ntmps126
    go_wp2_with fail
    refine bodyPost_ret (v := .tuple #[.iface 142 (.bool (decide (a < b))), .nilIface]) (by simp [results, Tryz.results126, go_sem]) rfl ?_
    exact ⟨⟨_, rfl, rfl⟩, Below.refl _ _⟩
  · go_enter Tryz.func126, Tryz.ntmps126
    go_wp2_with fail
    refine bodyPost_ret (v := .tuple #[.iface 142 (.bool (decide (a ≤ b))), .nilIface]) (by simp [results, Tryz.results126, go_sem]) rfl ?_
    exact ⟨⟨_, rfl, rfl⟩, Below.refl _ _⟩

theorem sizes_of {w : World} {a : Option Addr} {n c : Nat} {ss : List ByteArray} (h : Strs w a n c ss) : ∀ j, j < ss.length → (nth ss j).size ≤ maxLen := fun j hj => h.sizes j (by rw [h.len]; exact hj)

theorem own_good {w w1 : World} {e : TypeId} {size n k c : Nat} {x : Option Addr} {xs : List Value} (h : w1.ownsRow w.heap.size e size (.slice x k c) n xs) (hG : ∀ b, w.heap.size ≤ b → G b) : ∀ ad, x = some ad → 0 < k → G ad.block := fun ad e _ => hG _ (h.lt ad.block (by rw [e]; rfl)).1

set_option maxRecDepth 100000 in
set_option maxHeartbeats 3200000 in
theorem sets_any (op : Int) (a : Option Addr) (n c : Nat) (ss : List ByteArray) (b : Option Addr) (m d : Nat) (tt : List ByteArray) (w : World) (hs : Sent w aS aO aZ aW) (h1 : Strs w a n c ss) (h2 : Strs w b m d tt) (l1 : ss.length ≤ 1048576) (hG : ∀ b, w.heap.size ≤ b → G b) (ho : op = 16 ∨ op = 17 ∨ op = 18 ∨ op = 24) :
    Calls Tryz.prog 125 #[.int .i64 op, .slice a n c, .slice b m d] w (OAns G aS aO aZ aW (evBin op (.set ss) (.set tt)) w) := by
  rcases ho with rfl | rfl | rfl | rfl
  · have HC := hide (unite_any a n c ss b m d tt w hs h1 h2)
    go_enter Tryz.func125, Tryz.ntmps125
    go_wp2_with fail
    refine (unhide HC).mono ?_
    rintro r w1 ⟨x, cx, K, e, rfl, O1, hb1, hU⟩
    have HU := hide hU
    have hS := Strs.of_owns O1 (hU.sizes (sizes_of h1) (sizes_of h2))
    have HG := hide (own_good O1 hG)
    have hc := hU.code
    clear hU O1
    by_cases h0 : e = 0
    · subst h0
      dsimp only [errV, if_true]
      go_wp2_with fail
      refine bodyPost_ret (v := .tuple #[.iface 167 (.slice x K.length cx), .nilIface]) (by simp [results, Tryz.results125, go_sem]) rfl ?_
      rw [evBin_union, unionK_of (unhide HU)]
      exact ⟨⟨_, rfl, _, _, _, rfl, hS, by have := (unhide HU).len; show K.length ≤ 1048576; omega, unhide HG⟩, hb1⟩
    · obtain ⟨q, hq⟩ := errV_form (aS := aS) (aO := aO) (aZ := aZ) (aW := aW) (c := e) (by omega)
      have Hp := hide h0
      have Hh := hide hc
      clear h0 hc
      rw [hq]
      dsimp only
      go_wp2_with fail
      refine bodyPost_ret (v := .tuple #[.iface 167 (.slice x K.length cx), .iface 216 (.pointer (some q))]) (by simp [results, Tryz.results125, go_sem]) rfl ?_
      rw [evBin_union, unionK_of (unhide HU), ofUnion, if_neg (unhide Hp)]
      have := unhide Hh
      have := unhide Hp
      exact ⟨⟨_, by rw [hq], by dsimp only at *; omega, by dsimp only at *; omega⟩, hb1⟩
  · have HC := hide (iMeet_any a n c ss b m d tt w h1 h2)
    have HZ := hide (meet_sizes ss tt (sizes_of h1))
    have HW := hide (Nat.le_trans (meet_len ss tt) l1)
    generalize hL : meetL ss tt = K at HZ HW
    have HL := hide hL
    clear hL
    go_enter Tryz.func125, Tryz.ntmps125
    go_wp2_with fail
    refine (unhide HC).mono ?_
    rintro r w1 ⟨x, cx, rfl, O1, hb1⟩
    rw [unhide HL] at O1 ⊢
    have hS := Strs.of_owns O1 (unhide HZ)
    have HG := hide (own_good O1 hG)
    clear O1
    dsimp only
    go_wp2_with fail
    refine bodyPost_ret (v := .tuple #[.iface 167 (.slice x K.length cx), .nilIface]) (by simp [results, Tryz.results125, go_sem]) rfl ?_
    rw [evBin_meet, unhide HL]
    exact ⟨⟨_, rfl, _, _, _, rfl, hS, unhide HW, unhide HG⟩, hb1⟩
  · have HC := hide (iMinus_any a n c ss b m d tt w h1 h2)
    have HZ := hide (minus_sizes ss tt (sizes_of h1))
    have HW := hide (Nat.le_trans (minus_len ss tt) l1)
    generalize hL : minusL ss tt = K at HZ HW
    have HL := hide hL
    clear hL
    go_enter Tryz.func125, Tryz.ntmps125
    go_wp2_with fail
    refine (unhide HC).mono ?_
    rintro r w1 ⟨x, cx, rfl, O1, hb1⟩
    rw [unhide HL] at O1 ⊢
    have hS := Strs.of_owns O1 (unhide HZ)
    have HG := hide (own_good O1 hG)
    clear O1
    dsimp only
    go_wp2_with fail
    refine bodyPost_ret (v := .tuple #[.iface 167 (.slice x K.length cx), .nilIface]) (by simp [results, Tryz.results125, go_sem]) rfl ?_
    rw [evBin_minus, unhide HL]
    exact ⟨⟨_, rfl, _, _, _, rfl, hS, unhide HW, unhide HG⟩, hb1⟩
  · have HC := hide (iWithin_any a n c ss b m d tt w h1 h2)
    go_enter Tryz.func125, Tryz.ntmps125
    go_wp2_with fail
    refine (unhide HC).mono ?_
    rintro r w1 ⟨rfl, hb1⟩
    generalize hW : withinB ss tt = q
    have HW := hide hW
    clear hW
    dsimp only
    go_wp2_with fail
    refine bodyPost_ret (v := .tuple #[.iface 142 (.bool q), .nilIface]) (by simp [results, Tryz.results125, go_sem]) rfl ?_
    rw [evBin_within, unhide HW]
    exact ⟨⟨_, rfl, rfl⟩, hb1⟩

theorem ms_bool (b : Bool) : ∀ w, (method 358 142 (.bool b) "loop.example/s01308/impl.same").run Tryz.prog w = .ok (156, (.bool b)) w := fun _ => by kernel_rfl
theorem ms_int (n : Int) : ∀ w, (method 358 165 (.int .i64 n) "loop.example/s01308/impl.same").run Tryz.prog w = .ok (157, (.int .i64 n)) w := fun _ => by kernel_rfl
theorem ms_text (s : ByteArray) : ∀ w, (method 358 166 (.string s) "loop.example/s01308/impl.same").run Tryz.prog w = .ok (158, (.string s)) w := fun _ => by kernel_rfl
theorem ms_set (a : Option Addr) (n c : Nat) : ∀ w, (method 358 167 (.slice a n c) "loop.example/s01308/impl.same").run Tryz.prog w = .ok (159, (.slice a n c)) w := fun _ => by kernel_rfl

/-- what is said of two values of one type -/
def SmAns (v u : Vv) (w : World) (r : Ending) (w' : World) : Prop := r = .returned (.bool (sameV v u)) ∧ Below w.heap.size w w'

open Classical in
theorem same_bool_b (a b : Bool) : sameV (.bool a) (.bool b) = (a == b) := by
  rw [sameV]
  by_cases h : a = b
  · subst h; simp
  · rw [decide_eq_false (fun e => h (by cases e; rfl))]; exact (beq_eq_false_iff_ne.2 h).symm
open Classical in
theorem same_int_b (a b : Int) : sameV (.int a) (.int b) = (a == b) := by
  rw [sameV]
  by_cases h : a = b
  · subst h; simp
  · rw [decide_eq_false (fun e => h (by cases e; rfl))]; exact (beq_eq_false_iff_ne.2 h).symm
open Classical in
theorem same_text_b (a b : ByteArray) : sameV (.text a) (.text b) = (a.toList == b.toList) := by
  rw [sameV]
  by_cases h : a = b
  · subst h; simp
  · rw [decide_eq_false (fun e => h (by cases e; rfl))]
    symm
    rw [Bool.eq_false_iff]
    exact fun k => h ((tlED a b).1 k)
open Classical in
theorem same_set_b (a b : List ByteArray) : sameV (.set a) (.set b) = decide (a = b) := by
  rw [sameV]
  by_cases h : a = b
  · subst h; simp
  · rw [decide_eq_false (fun e => h (by cases e; rfl)), decide_eq_false h]

set_option maxRecDepth 100000 in
theorem sameB_any (a b : Bool) (w : World) : Calls Tryz.prog 156 #[.bool a, .iface 142 (.bool b)] w (SmAns (.bool a) (.bool b) w) := by
  have t1 := tk_bool
  go_enter Tryz.func156, Tryz.ntmps156
  go_wp2_with fail
  go_ret
  exact ⟨by rw [same_bool_b]; rfl, Below.refl _ _⟩

set_option maxRecDepth 100000 in
theorem sameI_any (a b : Int) (w : World) : Calls Tryz.prog 157 #[.int .i64 a, .iface 165 (.int .i64 b)] w (SmAns (.int a) (.int b) w) := by
  have t1 := tk_int
  have HX := hide (same_int_b a b)
  generalize (a == b) = q at HX
  go_enter Tryz.func157, Tryz.ntmps157
  go_wp2_with fail
  go_ret
  exact ⟨by rw [same_int_b]; rfl, Below.refl _ _⟩

set_option maxRecDepth 100000 in
theorem sameT_any (a b : ByteArray) (w : World) : Calls Tryz.prog 158 #[.string a, .iface 166 (.string b)] w (SmAns (.text a) (.text b) w) := by
  have t1 := tk_text
  go_enter Tryz.func158, Tryz.ntmps158
  go_wp2_with fail
  go_ret
  exact ⟨by rw [same_text_b]; rfl, Below.refl _ _⟩

set_option maxRecDepth 100000 in
theorem sameS_any (a : Option Addr) (n c : Nat) (ss : List ByteArray) (b : Option Addr) (m d : Nat) (tt : List ByteArray) (w : World) (h1 : Strs w a n c ss) (h2 : Strs w b m d tt) : Calls Tryz.prog 159 #[.slice a n c, .iface 167 (.slice b m d)] w (SmAns (.set ss) (.set tt) w) := by
  have t1 := tk_set
  have HC := hide (equalS_any a b n c m d ss tt w h1 h2)
  have HX := hide (same_set_b ss tt)
  generalize sameV (.set ss) (.set tt) = q at HX
  rw [← unhide HX] at HC
  go_enter Tryz.func159, Tryz.ntmps159
  go_wp2_with fail
  refine (unhide HC).mono ?_
  rintro r w1 ⟨rfl, hb1⟩
  dsimp only
  go_wp2_with fail
  go_ret
  exact ⟨by rw [same_set_b, ← unhide HX]; rfl, hb1⟩

end Go.Proofs.YtogenboibgddaaaGreatDoor

namespace Go.Proofs.YtogenboibgddaaaGreatDoor
open Go.RowKit
set_option linter.unusedVariables false

/-- where a set lies: nowhere, with no room, or in a block of texts -/
def ZS (w : World) (a : Option Addr) (c : Nat) : Prop := (a = none → c = 0) ∧ ∀ ad, a = some ad → ∃ cs, Row w ad.block cs 9

theorem ZS.below {w w' : World} {B : Nat} {a : Option Addr} {c : Nat} (h : ZS w a c) (hb : Below B w w') (hB : w.heap.size ≤ B) : ZS w' a c := ⟨h.1, fun ad e => by
  obtain ⟨cs, r⟩ := h.2 ad e
  exact ⟨cs, r.after hb hB⟩⟩

theorem ZS.setCell {w : World} {a : Option Addr} {c : Nat} (h : ZS w a c) (b j : Nat) (u : Value) : ZS (w.setCell ⟨b, j, none⟩ u) a c := ⟨h.1, fun ad e => by
  obtain ⟨cs, r⟩ := h.2 ad e
  by_cases hp : ad.block = b
  · rw [hp] at r ⊢
    exact ⟨_, r.set j u⟩
  · exact ⟨cs, r.setFar hp u⟩⟩

theorem ZS.of_owns {w : World} {B : Nat} {x : Option Addr} {n cx : Nat} {xs : List Value} (h : w.ownsRow B 9 1 (.slice x n cx) n xs) : ZS w x cx := by
  rcases h.2 with ⟨q, _⟩ | ⟨g, cap, cur, q, _, hg, _⟩
  · simp only [Value.slice.injEq] at q
    obtain ⟨rfl, _, rfl⟩ := q
    exact ⟨fun _ => rfl, fun ad e => nomatch e⟩
  · simp only [Value.slice.injEq] at q
    obtain ⟨rfl, _, rfl⟩ := q
    exact ⟨fun e => (nomatch e), fun ad e => ⟨cur, by cases e; exact ⟨hg⟩⟩⟩

/-- a value of the model's, by its parts -/
def MVs (w : World) (num : Int) (text : ByteArray) (a : Option Addr) (n c : Nat) : Vv → Prop
  | .bool b => num = (if b then 1 else 0) ∧ text = ⟨#[]⟩ ∧ a = none ∧ n = 0 ∧ c = 0
  | .int k => (num = k ∧ I64 k) ∧ text = ⟨#[]⟩ ∧ a = none ∧ n = 0 ∧ c = 0
  | .text s => num = 0 ∧ text = s ∧ a = none ∧ n = 0 ∧ c = 0
  | .set ss => num = 0 ∧ text = ⟨#[]⟩ ∧ Strs w a n c ss ∧ ss.length ≤ 1048576 ∧ ZS w a c

theorem MVs.below {w w' : World} {B : Nat} {num : Int} {text : ByteArray} {a : Option Addr} {n c : Nat} {v : Vv} (h : MVs w num text a n c v) (hb : Below B w w') (hB : w.heap.size ≤ B) : MVs w' num text a n c v := by
  cases v with
  | bool b => exact h
  | int k => exact h
  | text s => exact h
  | set ss =>
    obtain ⟨h1, h2, h3, h4, h5⟩ := h
    exact ⟨h1, h2, h3.below hb hB, h4, h5.below hb hB⟩

/-- the names in it -/
def Vv.names : Vv → List ByteArray
  | .set ss => ss
  | _ => []

theorem MVs.strs {w : World} {num : Int} {text : ByteArray} {a : Option Addr} {n c : Nat} {v : Vv} (h : MVs w num text a n c v) : Strs w a n c v.names ∧ v.names.length ≤ 1048576 ∧ (a = none → c = 0) := by
  have nil : Strs w none 0 0 [] := ⟨rfl, Nat.le_refl _, Nat.zero_le _, fun j h => absurd h (by omega), fun j h => absurd h (by omega)⟩
  cases v with
  | bool b => obtain ⟨_, _, rfl, rfl, rfl⟩ := h; exact ⟨nil, Nat.zero_le _, fun _ => rfl⟩
  | int k => obtain ⟨_, _, rfl, rfl, rfl⟩ := h; exact ⟨nil, Nat.zero_le _, fun _ => rfl⟩
  | text s => obtain ⟨_, _, rfl, rfl, rfl⟩ := h; exact ⟨nil, Nat.zero_le _, fun _ => rfl⟩
  | set ss => exact ⟨h.2.2.1, h.2.2.2.1, h.2.2.2.2.1⟩

open Classical in
/-- their parts are the same -/
noncomputable def eqP (num num' : Int) (text text' : ByteArray) (A A' : List ByteArray) : Bool := decide (num = num' ∧ text = text' ∧ A = A')

open Classical in
/-- two values of one type are the same where their parts are -/
theorem MVs.same {w : World} {num num' : Int} {text text' : ByteArray} {a a' : Option Addr} {n c n' c' : Nat} {v u : Vv} (h : MVs w num text a n c v) (h' : MVs w num' text' a' n' c' u) (ht : v.ty = u.ty) : sameV v u = eqP num num' text text' v.names u.names := by
  rw [sameV, eqP, decide_eq_decide]
  cases v with
  | bool b =>
    obtain ⟨d, rfl⟩ := Vv.bool_of (v := u) ht.symm
    obtain ⟨rfl, rfl, _⟩ := h
    obtain ⟨rfl, rfl, _⟩ := h'
    cases b <;> cases d <;> simp [Vv.names]
  | int k =>
    obtain ⟨d, rfl⟩ := Vv.int_of (v := u) ht.symm
    obtain ⟨⟨rfl, _⟩, rfl, _⟩ := h
    obtain ⟨⟨rfl, _⟩, rfl, _⟩ := h'
    simp [Vv.names]
  | text s =>
    obtain ⟨d, rfl⟩ := Vv.text_of (v := u) ht.symm
    obtain ⟨rfl, rfl, _⟩ := h
    obtain ⟨rfl, rfl, _⟩ := h'
    simp [Vv.names]
  | set ss =>
    obtain ⟨d, rfl⟩ := Vv.set_of (v := u) ht.symm
    obtain ⟨rfl, rfl, _⟩ := h
    obtain ⟨rfl, rfl, _⟩ := h'
    simp [Vv.names]

def MAns (o : Ev) (w : World) (r : Ending) (w' : World) : Prop :=
  (∃ code num text a n c, r = .returned (.agg #[.int .i64 code, .int .i64 num, .string text, .slice a n c]) ∧ (match o with
    | .ok v => code = 0 ∧ MVs w' num text a n c v
    | .err e => code = e ∧ e ≠ 0)) ∧ Below w.heap.size w w'

set_option maxRecDepth 100000 in
set_option maxHeartbeats 1600000 in
theorem l3truth_any (b : Bool) (w : World) : Calls Tryz.prog 71 #[.bool b] w (MAns (.ok (.bool b)) w) := by
  have B0 : ∀ cs, Below w.heap.size w (w.alloc (.cells cs 90)) := fun cs => (Below.refl w.heap.size w).alloc (Nat.le_refl _) _
  cases b with
  | true =>
    go_enter Tryz.func71, Tryz.ntmps71
    go_wp2_with fail
    refine bodyPost_ret (v := .agg #[.int .i64 0, .int .i64 1, .string ⟨#[]⟩, .slice none 0 0]) (by simp [results, Tryz.results71, go_sem]) rfl ?_
    exact ⟨⟨_, _, _, _, _, _, rfl, rfl, rfl, rfl, rfl, rfl, rfl⟩, B0 _⟩
  | false =>
    go_enter Tryz.func71, Tryz.ntmps71
    go_wp2_with fail
    refine bodyPost_ret (v := .agg #[.int .i64 0, .int .i64 0, .string ⟨#[]⟩, .slice none 0 0]) (by simp [results, Tryz.results71, go_sem]) rfl ?_
    exact ⟨⟨_, _, _, _, _, _, rfl, rfl, rfl, rfl, rfl, rfl, rfl⟩, B0 _⟩

set_option maxRecDepth 100000 in
set_option maxHeartbeats 6400000 in
open Classical in
theorem l3same_any (c0 num : Int) (text : ByteArray) (a : Option Addr) (n c : Nat) (A : List ByteArray) (c0' num' : Int) (text' : ByteArray) (a' : Option Addr) (n' c' : Nat) (A' : List ByteArray) (w : World) (h : Strs w a n c A) (h' : Strs w a' n' c' A') :
    Calls Tryz.prog 72 #[.agg #[.int .i64 c0, .int .i64 num, .string text, .slice a n c], .agg #[.int .i64 c0', .int .i64 num', .string text', .slice a' n' c']] w fun r w' => r = .returned (.bool (eqP num num' text text' A A')) ∧ Below w.heap.size w w' := by
  have B0 := ((Below.refl w.heap.size w).alloc (Nat.le_refl _) (.cells #[.int .i64 c0, .int .i64 num, .string text, .slice a n c] 90)).alloc (by simp) (.cells #[.int .i64 c0', .int .i64 num', .string text', .slice a' n' c'] 90)
  have R0 := (Row.new w #[.int .i64 c0, .int .i64 num, .string text, .slice a n c] 90).alloc (.cells #[.int .i64 c0', .int .i64 num', .string text', .slice a' n' c'] 90)
  have R1 := Row.new (w.alloc (.cells #[.int .i64 c0, .int .i64 num, .string text, .slice a n c] 90)) #[.int .i64 c0', .int .i64 num', .string text', .slice a' n' c'] 90
  simp only [World.size_alloc] at R1
  have H0 := h.below B0 (Nat.le_refl _)
  have H1 := h'.below B0 (Nat.le_refl _)
  have s1 : n ≤ 9223372036854775807 := by have := h.cap; have := h.small; unfold maxLen at this; omega
  have s2 : n' ≤ 9223372036854775807 := by have := h'.cap; have := h'.small; unfold maxLen at this; omega
  have HA := hide h.len
  have HB := hide h'.len
  clear h h'
  by_cases hn : num = num'
  · have en : (num != num') = false := by rw [hn]; simp
    by_cases ht : text = text'
    · have et : (text.toList != text'.toList) = false := by rw [ht]; simp
      have et2 : (text.toList == text'.toList) = true := by rw [ht]; simp
      by_cases hl : n = n'
      · have el : ((n : Int) != (n' : Int)) = false := by rw [hl]; simp
        have HE := hide (eq_iff_nth (A := A) (B := A') (by rw [← unhide HA, ← unhide HB, hl]))
        have HQ := hide (show eqP num num' text text' A A' = decide (A = A') by simp [eqP, hn, ht])
        have Hnm := hide hl
        clear hn ht hl
        go_enter Tryz.func72, Tryz.ntmps72
        go_wp2_with fail
        generalize ((w.alloc (.cells #[.int .i64 c0, .int .i64 num, .string text, .slice a n c] 90)).alloc (.cells #[.int .i64 c0', .int .i64 num', .string text', .slice a' n' c'] 90)) = W1 at B0 R0 R1 H0 H1 ⊢
        go_loopw [31] (fun i wr => ∃ k : Nat, k ≤ n ∧ i = .int .i64 k ∧ Below W1.heap.size W1 wr ∧ Hid (∀ j, j < k → nth A j = nth A' j)) (fun i _ => n - (intOf i).toNat)
        case atStart => exact ⟨0, by omega, rfl, Below.refl _ _, hide (fun j h => absurd h (by omega))⟩
        case round =>
          obtain ⟨k, hk, rfl, D1, Ha⟩ := hrel
          have B1 := B0.trans (D1.mono B0.size)
          by_cases hlt : k < n
          · have ilt : (k : Int) < (n : Int) := by omega
            have ilm : (k : Int) < (n' : Int) := by have := unhide Hnm; omega
            obtain ⟨b1, o1, rfl, hl1, c1⟩ := (H0.below D1 (Nat.le_refl _)).cells k hlt
            obtain ⟨b2, o2, rfl, hl2, c2⟩ := (H1.below D1 (Nat.le_refl _)).cells k (by have := unhide Hnm; omega)
            have q3 : wr.cell? ⟨w.heap.size + 1, 3, none⟩ = some (.slice (some ⟨b2, o2, none⟩) n' c') := (R1.after D1 (Nat.le_refl _)).cell 3
            have Hno := hide (show nth A k ≠ nth A' k → decide (A = A') = false from fun e => decide_eq_false (fun e' => e ((unhide HE).1 e' k (by rw [← unhide HA]; exact hlt))))
            have HN := hide (show nth A k = nth A' k → ∀ j, j < k + 1 → nth A j = nth A' j from fun e j h' => by
              by_cases ej : j = k
              · subst ej; exact e
              · exact unhide Ha j (by omega))
            have Hlt := hide hlt
            clear Ha hlt
            generalize nth A k = x at c1 Hno HN
            generalize nth A' k = y at c2 Hno HN
            by_cases hxy : x = y
            · have exy : (y.toList == x.toList) = true := (tlED y x).2 hxy.symm
              have nxy : (y.toList != x.toList) = false := by rw [bne, exy]; rfl
              have HN2 := hide (unhide HN hxy)
              clear hxy Hno HN
              go_wp2_with fail
              go_roundw
              case rel => exact ⟨k + 1, unhide Hlt, by go_num, D1, HN2⟩
              case measure => have := unhide Hlt; simp [intOf]; omega
            · have exy : (y.toList == x.toList) = false := by rw [Bool.eq_false_iff]; exact fun h => hxy ((tlED y x).1 h).symm
              have nxy : (y.toList != x.toList) = true := by rw [bne, exy]; rfl
              have HX := hide (unhide Hno hxy)
              clear hxy Hno HN
              go_wp2_with fail
              go_ret
              exact ⟨ret_bool ((unhide HQ).trans (unhide HX)).symm, B1⟩
          · have e : k = n := by omega
            subst e
            have HX := hide (show decide (A = A') = true from decide_eq_true ((unhide HE).2 (fun j hj => unhide Ha j (by have := unhide HA; omega))))
            go_wp2_with fail
            go_ret
            exact ⟨ret_bool ((unhide HQ).trans (unhide HX)).symm, B1⟩
      · have el : ((n : Int) != (n' : Int)) = true := bne_iff_ne.2 (by omega)
        have HX := hide (show eqP num num' text text' A A' = false from decide_eq_false (fun e => hl (by rw [unhide HA, unhide HB, e.2.2])))
        clear hn ht hl
        go_enter Tryz.func72, Tryz.ntmps72
        go_wp2_with fail
        go_ret
        exact ⟨ret_bool (unhide HX).symm, B0⟩
    · have et : (text.toList != text'.toList) = true := by rw [bne, Bool.eq_false_iff.2 (fun k => ht ((tlED _ _).1 k))]; rfl
      have et2 : (text.toList == text'.toList) = false := Bool.eq_false_iff.2 (fun k => ht ((tlED _ _).1 k))
      have HX := hide (show eqP num num' text text' A A' = false from decide_eq_false (fun e => ht e.2.1))
      clear hn ht
      go_enter Tryz.func72, Tryz.ntmps72
      go_wp2_with fail
      go_ret
      exact ⟨ret_bool (unhide HX).symm, B0⟩
  · have en : (num != num') = true := bne_iff_ne.2 hn
    have HX := hide (show eqP num num' text text' A A' = false from decide_eq_false (fun e => hn e.1))
    clear hn
    go_enter Tryz.func72, Tryz.ntmps72
    go_wp2_with fail
    go_ret
    exact ⟨ret_bool (unhide HX).symm, B0⟩

end Go.Proofs.YtogenboibgddaaaGreatDoor
