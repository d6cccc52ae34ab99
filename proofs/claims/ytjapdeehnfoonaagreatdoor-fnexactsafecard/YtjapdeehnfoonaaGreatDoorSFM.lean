/-
  The model's trees, and its look at one. Own work.
-/
import Derived.Test.YtjapdeehnfoonaaGreatDoorSFA
import Derived.Test.YtjapdeehnfoonaaGreatDoorMWL
namespace Go.Proofs.YtjapdeehnfoonaaGreatDoor
open Go.RowKit
set_option linter.unusedVariables false

/-- a tree of the model, as it lies: its node, and where its kids lie -/
structure K5 where
  op : Int
  num : Int
  text : ByteArray
  an : Option Addr
  nn : Nat
  cn : Nat
  ka : Option Addr
  kn : Nat
  kc : Nat

def K5.cs (k : K5) : List Value := [.int .i64 k.op, .int .i64 k.num, .string k.text, .slice k.an k.nn k.cn, .slice k.ka k.kn k.kc]

/-- blocks that are as they were -/
def KeptR (lo hi : Nat) (w W : World) : Prop := hi ≤ W.heap.size ∧ ∀ q, lo ≤ q → q < hi → W.heap[q]? = w.heap[q]?

theorem KeptR.trans {lo hi : Nat} {w w1 w2 : World} (h : KeptR lo hi w w1) (k : KeptR lo hi w1 w2) : KeptR lo hi w w2 := ⟨k.1, fun q h1 h2 => (k.2 q h1 h2).trans (h.2 q h1 h2)⟩

theorem KeptR.of_below {lo hi B : Nat} {w w1 : World} (h : Below B w w1) (h1 : hi ≤ B) (h2 : hi ≤ w.heap.size) : KeptR lo hi w w1 := ⟨Nat.le_trans h2 h.size, fun q _ h3 => h.block q (by omega)⟩

theorem KeptR.sub {lo hi lo' hi' : Nat} {w W : World} (h : KeptR lo hi w W) (h1 : lo ≤ lo') (h2 : hi' ≤ hi) : KeptR lo' hi' w W := ⟨Nat.le_trans h2 h.1, fun q h3 h4 => h.2 q (by omega) (by omega)⟩

/-- what the model says of it, wherever its blocks are kept -/
def SmV (lo hi : Nat) (w : World) (k : K5) (b : Bool) : Prop := ∀ W, KeptR lo hi w W → Calls Tryz.prog 14 #[.agg #[.int .i64 k.op, .int .i64 k.num, .string k.text, .slice k.an k.nn k.cn, .slice k.ka k.kn k.kc]] W (SfAns b W)

theorem SmV.keep {lo hi : Nat} {w w' : World} {k : K5} {b : Bool} (h : SmV lo hi w k b) (hk : KeptR lo hi w w') : SmV lo hi w' k b := fun W hW => h W (hk.trans hW)

def safeL (op : Int) (bs : List Bool) : Bool := !decide (op = 8 ∨ (11 ≤ op ∧ op ≤ 16)) && bs.all id

theorem flat5_at (vs : List K5) (j : Nat) (h : j < vs.length) : ∀ r, r < 5 → (vs.flatMap K5.cs)[j * 5 + r]? = (vs[j].cs)[r]? := by
  induction vs generalizing j with
  | nil => simp at h
  | cons k vs ih =>
    intro r hr
    have hl : k.cs.length = 5 := rfl
    cases j with
    | zero =>
      rw [List.flatMap_cons, List.getElem?_append_left (by rw [hl]; omega)]
      simp
    | succ j =>
      rw [List.flatMap_cons, List.getElem?_append_right (by rw [hl]; omega), hl, show (j + 1) * 5 + r - 5 = j * 5 + r by omega, ih j (by simpa using h) r hr]
      simp

theorem flat5_len : ∀ (vs : List K5), (vs.flatMap K5.cs).length = vs.length * 5
  | [] => rfl
  | k :: vs => by
    have hl : k.cs.length = 5 := rfl
    rw [List.flatMap_cons, List.length_append, flat5_len vs, hl, List.length_cons]
    omega

/-- the kids' rows, one behind the other -/
def Rows5 (w : World) (ka : Option Addr) (vs : List K5) : Prop := ∀ j, (h : j < vs.length) → ∃ b off, ka = some ⟨b, off, none⟩ ∧ b < w.heap.size ∧ ∀ r, r < 5 → w.cell? ⟨b, off + j * 5 + r, none⟩ = (vs[j].cs)[r]?

theorem Rows5.below {w w' : World} {B : Nat} {ka : Option Addr} {vs : List K5} (h : Rows5 w ka vs) (hb : Below B w w') (hB : w.heap.size ≤ B) : Rows5 w' ka vs := fun j hj => by
  obtain ⟨b, off, h1, h2, h3⟩ := h j hj
  exact ⟨b, off, h1, Nat.lt_of_lt_of_le h2 hb.size, fun r hr => (hb.cell (p := ⟨b, off + j * 5 + r, none⟩) (by show b < B; omega)).trans (h3 r hr)⟩

theorem all_take {bs : List Bool} {j : Nat} (h : j < bs.length) (ha : (bs.take j).all id = true) (hb : bs[j] = true) : (bs.take (j + 1)).all id = true := by
  rw [List.take_succ_eq_append_getElem h, List.all_append, ha]
  simp [hb]

theorem all_no {bs : List Bool} {j : Nat} (h : j < bs.length) (hb : bs[j] = false) : bs.all id = false := by
  rw [List.all_eq_false]
  exact ⟨bs[j], List.getElem_mem h, by simp [hb]⟩

set_option maxRecDepth 100000 in
set_option maxHeartbeats 3200000 in
theorem safeM_rec (op num : Int) (text : ByteArray) (an : Option Addr) (nn cn : Nat) (ka : Option Addr) (m kc : Nat) (hm : m ≤ 1048576) (vs : List K5) (hvs : vs.length = m) (bs : List Bool) (hbs : bs.length = m) (w : World) (hr : Rows5 w ka vs)
    (V : ∀ j, (h1 : j < vs.length) → (h2 : j < bs.length) → ∀ W, Below w.heap.size w W → Calls Tryz.prog 14 #[.agg #[.int .i64 vs[j].op, .int .i64 vs[j].num, .string vs[j].text, .slice vs[j].an vs[j].nn vs[j].cn, .slice vs[j].ka vs[j].kn vs[j].kc]] W (SfAns bs[j] W)) :
    Calls Tryz.prog 14 #[.agg #[.int .i64 op, .int .i64 num, .string text, .slice an nn cn, .slice ka m kc]] w (SfAns (safeL op bs) w) := by
  have R0 := Row.new w #[.int .i64 op, .int .i64 num, .string text, .slice an nn cn, .slice ka m kc] 43
  have B0 := (Below.refl w.heap.size w).alloc (Nat.le_refl _) (.cells #[.int .i64 op, .int .i64 num, .string text, .slice an nn cn, .slice ka m kc] 43)
  have HV := hide V
  have HM := hide hvs
  have HB := hide hbs
  have H0 := hr.below B0 (Nat.le_refl _)
  clear V hvs hbs hr
  by_cases hop : op = 8 ∨ (11 ≤ op ∧ op ≤ 16)
  · have HX := hide (show safeL op bs = false by rw [safeL, decide_eq_true hop]; rfl)
    rcases hop with h8 | ⟨h11, h16⟩
    · subst h8
      go_enter Tryz.func14, Tryz.ntmps14
      go_wp2_with fail
      go_ret
      exact ⟨by rw [unhide HX]; rfl, B0⟩
    · have e8 : (op == 8) = false := beq_eq_false_iff_ne.2 (by omega)
      go_enter Tryz.func14, Tryz.ntmps14
      go_wp2_with fail
      go_ret
      exact ⟨by rw [unhide HX]; rfl, B0⟩
  · have HX := hide (show safeL op bs = bs.all id by rw [safeL, decide_eq_false hop]; rfl)
    have e8 : (op == 8) = false := beq_eq_false_iff_ne.2 (by omega)
    by_cases h11 : 11 ≤ op
    · have h16 : ¬ (op ≤ 16) := by omega
      clear hop
      go_enter Tryz.func14, Tryz.ntmps14
      go_wp2_with fail
      generalize w.alloc (.cells #[.int .i64 op, .int .i64 num, .string text, .slice an nn cn, .slice ka m kc] 43) = w1 at R0 B0 H0 ⊢
      go_loopw [21] (fun i wr => ∃ j : Nat, j ≤ m ∧ i = .int .i64 j ∧ Below w1.heap.size w1 wr ∧ Hid ((bs.take j).all id = true)) (fun i _ => m - (intOf i).toNat)
      case atStart => exact ⟨0, Nat.zero_le _, rfl, Below.refl _ _, hide rfl⟩
      case round =>
        obtain ⟨j, hj, rfl, D1, HA⟩ := hrel
        by_cases hlt : j < m
        · have ilt : (j : Int) < (m : Int) := by omega
          have j1 : j < vs.length := by rw [unhide HM]; exact hlt
          have j2 : j < bs.length := by rw [unhide HB]; exact hlt
          obtain ⟨b, off, rfl, hb, hc⟩ := (H0.below D1 (Nat.le_refl _)) j j1
          have c0 := hc 0 (by decide)
          have c1 := hc 1 (by decide)
          have c2 := hc 2 (by decide)
          have c3 := hc 3 (by decide)
          have c4 := hc 4 (by decide)
          simp only [K5.cs, Nat.add_zero, List.getElem?_cons_zero, List.getElem?_cons_succ] at c0 c1 c2 c3 c4
          have HC := hide (unhide HV j j1 j2)
          have HS := hide (show bs[j] = true → (bs.take (j + 1)).all id = true from fun h => all_take j2 (unhide HA) h)
          have HN := hide (show bs[j] = false → bs.all id = false from fun h => all_no j2 h)
          have Hlt := hide hlt
          generalize vs[j] = k at c0 c1 c2 c3 c4 HC
          generalize bs[j] = bj at HC HS HN
          obtain ⟨kop, knum, ktext, kan, knn, kcn, kka, kkn, kkc⟩ := k
          dsimp only at c0 c1 c2 c3 c4 HC
          clear hc hlt j1 j2
          have B2 := B0.trans (D1.mono B0.size)
          have C2 := (Below.refl wr.heap.size wr).alloc (Nat.le_refl _) (.cells #[.int .i64 kop, .int .i64 knum, .string ktext, .slice kan knn kcn, .slice kka kkn kkc] 43)
          have B3 := B2.trans (C2.mono B2.size)
          obtain ⟨d0, d1, d2, d3, d4, _⟩ := row5 (Row.new wr #[.int .i64 kop, .int .i64 knum, .string ktext, .slice kan knn kcn, .slice kka kkn kkc] 43)
          go_wp2_with fail
          refine (unhide HC _ B3).mono ?_
          rintro r w3 ⟨rfl, hb3⟩
          have D3 := (D1.trans (C2.mono D1.size)).trans (hb3.mono (Nat.le_trans D1.size C2.size))
          cases bj with
          | false =>
            have HQ := hide (unhide HN rfl)
            dsimp only
            go_wp2_with fail
            go_ret
            exact ⟨by rw [unhide HX, unhide HQ]; rfl, B0.trans (D3.mono B0.size)⟩
          | true =>
            have HQ := hide (unhide HS rfl)
            dsimp only
            go_wp2_with fail
            go_roundw
            case rel => exact ⟨j + 1, unhide Hlt, by go_num, D3, HQ⟩
            case measure => have := unhide Hlt; simp [intOf]; omega
        · have e : j = m := by omega
          subst e
          have HQ := hide (show bs.all id = true by rw [← unhide HA, List.take_of_length_le (by rw [unhide HB]; exact Nat.le_refl _)])
          go_wp2_with fail
          go_ret
          exact ⟨by rw [unhide HX, unhide HQ]; rfl, B0.trans (D1.mono B0.size)⟩
    · clear hop
      go_enter Tryz.func14, Tryz.ntmps14
      go_wp2_with fail
      generalize w.alloc (.cells #[.int .i64 op, .int .i64 num, .string text, .slice an nn cn, .slice ka m kc] 43) = w1 at R0 B0 H0 ⊢
      go_loopw [21] (fun i wr => ∃ j : Nat, j ≤ m ∧ i = .int .i64 j ∧ Below w1.heap.size w1 wr ∧ Hid ((bs.take j).all id = true)) (fun i _ => m - (intOf i).toNat)
      case atStart => exact ⟨0, Nat.zero_le _, rfl, Below.refl _ _, hide rfl⟩
      case round =>
        obtain ⟨j, hj, rfl, D1, HA⟩ := hrel
        by_cases hlt : j < m
        · have ilt : (j : Int) < (m : Int) := by omega
          have j1 : j < vs.length := by rw [unhide HM]; exact hlt
          have j2 : j < bs.length := by rw [unhide HB]; exact hlt
          obtain ⟨b, off, rfl, hb, hc⟩ := (H0.below D1 (Nat.le_refl _)) j j1
          have c0 := hc 0 (by decide)
          have c1 := hc 1 (by decide)
          have c2 := hc 2 (by decide)
          have c3 := hc 3 (by decide)
          have c4 := hc 4 (by decide)
          simp only [K5.cs, Nat.add_zero, List.getElem?_cons_zero, List.getElem?_cons_succ] at c0 c1 c2 c3 c4
          have HC := hide (unhide HV j j1 j2)
          have HS := hide (show bs[j] = true → (bs.take (j + 1)).all id = true from fun h => all_take j2 (unhide HA) h)
          have HN := hide (show bs[j] = false → bs.all id = false from fun h => all_no j2 h)
          have Hlt := hide hlt
          generalize vs[j] = k at c0 c1 c2 c3 c4 HC
          generalize bs[j] = bj at HC HS HN
          obtain ⟨kop, knum, ktext, kan, knn, kcn, kka, kkn, kkc⟩ := k
          dsimp only at c0 c1 c2 c3 c4 HC
          clear hc hlt j1 j2
          have B2 := B0.trans (D1.mono B0.size)
          have C2 := (Below.refl wr.heap.size wr).alloc (Nat.le_refl _) (.cells #[.int .i64 kop, .int .i64 knum, .string ktext, .slice kan knn kcn, .slice kka kkn kkc] 43)
          have B3 := B2.trans (C2.mono B2.size)
          obtain ⟨d0, d1, d2, d3, d4, _⟩ := row5 (Row.new wr #[.int .i64 kop, .int .i64 knum, .string ktext, .slice kan knn kcn, .slice kka kkn kkc] 43)
          go_wp2_with fail
          refine (unhide HC _ B3).mono ?_
          rintro r w3 ⟨rfl, hb3⟩
          have D3 := (D1.trans (C2.mono D1.size)).trans (hb3.mono (Nat.le_trans D1.size C2.size))
          cases bj with
          | false =>
            have HQ := hide (unhide HN rfl)
            dsimp only
            go_wp2_with fail
            go_ret
            exact ⟨by rw [unhide HX, unhide HQ]; rfl, B0.trans (D3.mono B0.size)⟩
          | true =>
            have HQ := hide (unhide HS rfl)
            dsimp only
            go_wp2_with fail
            go_roundw
            case rel => exact ⟨j + 1, unhide Hlt, by go_num, D3, HQ⟩
            case measure => have := unhide Hlt; simp [intOf]; omega
        · have e : j = m := by omega
          subst e
          have HQ := hide (show bs.all id = true by rw [← unhide HA, List.take_of_length_le (by rw [unhide HB]; exact Nat.le_refl _)])
          go_wp2_with fail
          go_ret
          exact ⟨by rw [unhide HX, unhide HQ]; rfl, B0.trans (D1.mono B0.size)⟩

end Go.Proofs.YtjapdeehnfoonaaGreatDoor
