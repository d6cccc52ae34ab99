/-
  The draws, exactly: what each is of the bytes. Own work.
-/
import Derived.Test.YtnahfogbemfngaaGreatDoorDC0
namespace Go.Proofs.YtnahfogbemfngaaGreatDoor
open Go.RowKit Go.ChangeShapes
set_option linter.unusedVariables false

/-- A slice of bytes in memory: its elements, one by one. -/
structure BytesX (w : World) (a : Option Addr) (n c : Nat) (zs : List Int) : Prop where
  len : n = zs.length
  cap : n ≤ c
  small : c ≤ maxLen
  cells : ∀ j, j < n → ∃ b off, a = some ⟨b, off, none⟩ ∧ b < w.heap.size ∧ w.cell? ⟨b, off + j, none⟩ = some (.int .u8 (zs.getD j 0)) ∧ 0 ≤ zs.getD j 0 ∧ zs.getD j 0 ≤ 255

theorem BytesX.below {w w' : World} {B : Nat} {a : Option Addr} {n c : Nat} {zs : List Int} (h : BytesX w a n c zs) (hb : Below B w w') (hB : w.heap.size ≤ B) : BytesX w' a n c zs :=
  ⟨h.len, h.cap, h.small, fun j hj => by
    obtain ⟨b, off, ha, hlt, hc, hz⟩ := h.cells j hj
    exact ⟨b, off, ha, Nat.lt_of_lt_of_le hlt hb.size, by rw [← hc]; exact hb.cell (p := ⟨b, off + j, none⟩) (Nat.lt_of_lt_of_le hlt hB), hz⟩⟩

theorem BytesX.plain {w : World} {a : Option Addr} {n c : Nat} {zs : List Int} (h : BytesX w a n c zs) : Bytes w a n c zs :=
  ⟨h.cap, h.small, fun j hj => by
    obtain ⟨b, off, ha, hlt, hc, hz⟩ := h.cells j hj
    exact ⟨b, off, _, ha, hlt, hc, hz⟩⟩

theorem BytesX.of_trod {H : Type} {enc : TypeId × Value → H} {P : Program} {w : World} {held : Bool} {t e : TypeId} {fuel : Nat} {x : DataW H × List MemPlace} {a : Option Addr} {n c : Nat}
    (ht : P.underlying t = some (.slice e)) (he : P.underlying e = some (.int .u8)) (hc : P.cellsOf e = 1)
    (h : DataW.trod enc P w 0 (fun _ => true) held fuel t [.slice a n c] = some x) : ∃ zs, BytesX w a n c zs := by
  rcases open_ints ht he hc h with ⟨hcs, _⟩ | ⟨ad, len, cap, zs, hcs, _, hl, hm, hz, _, hcell, hwz⟩
  · simp only [List.cons.injEq, Value.slice.injEq, and_true] at hcs
    obtain ⟨rfl, rfl, rfl⟩ := hcs
    exact ⟨[], rfl, Nat.le_refl _, Nat.zero_le _, fun j hj => by omega⟩
  · simp only [List.cons.injEq, Value.slice.injEq, and_true] at hcs
    obtain ⟨rfl, rfl, rfl⟩ := hcs
    simp only [if_true] at hz
    refine ⟨zs.take n, by simp; omega, hl, hm, fun j hj => ?_⟩
    have hg : (zs.take n).getD j 0 = zs.getD j 0 := by simp [List.getD, hj]
    rw [hg]
    have hs := World.cell?_spot (hcell 0 (by omega))
    obtain ⟨b, off, spot⟩ := ad
    simp only [Addr.add, if_true] at hs
    subst hs
    have hcj := hcell j (by omega)
    have hadd : (⟨b, off, none⟩ : Addr).add j = ⟨b, off + j, none⟩ := by
      by_cases e : j = 0 <;> simp [Addr.add, e]
    rw [hadd] at hcj
    have hw := bounds_u8 (hwz (zs.getD j 0) (by simp [List.getD, show j < zs.length from by omega]))
    refine ⟨b, off, rfl, ?_, hcj, hw.1, hw.2⟩
    by_cases hb : b < w.heap.size
    · exact hb
    · have : w.heap[b]? = none := Array.getElem?_eq_none (by omega)
      simp [World.cell?, this] at hcj

/-- The reader lies in block R and stands at p; its bytes below it. -/
structure RdX (w : World) (R : Nat) (a : Option Addr) (n c : Nat) (zs : List Int) (p : Nat) : Prop where
  row : Row w R #[.slice a n c, .int .i64 (p : Int)] 35
  len : n = zs.length
  le : p ≤ n
  small : n ≤ 1048576
  cells : ∀ j, j < n → ∃ b off, a = some ⟨b, off, none⟩ ∧ b < R ∧ w.cell? ⟨b, off + j, none⟩ = some (.int .u8 (zs.getD j 0)) ∧ 0 ≤ zs.getD j 0 ∧ zs.getD j 0 ≤ 255

theorem RdX.after {w w' : World} {B R : Nat} {a : Option Addr} {n c : Nat} {zs : List Int} {p : Nat} (h : RdX w R a n c zs p) (hb : Below B w w') (hB : R < B) : RdX w' R a n c zs p :=
  ⟨h.row.below hb hB, h.len, h.le, h.small, fun j hj => by
    obtain ⟨b, off, ha, hlt, hc, hz⟩ := h.cells j hj
    exact ⟨b, off, ha, hlt, by rw [← hc]; exact hb.cell (p := ⟨b, off + j, none⟩) (by show b < B; omega), hz⟩⟩

theorem RdX.new {w : World} {a : Option Addr} {n c : Nat} {zs : List Int} (h : BytesX w a n c zs) (hn : n ≤ 1048576) : RdX (w.alloc (.cells #[.slice a n c, .int .i64 0] 35)) w.heap.size a n c zs 0 :=
  ⟨Row.new _ _ _, h.len, Nat.zero_le _, hn, fun j hj => by
    obtain ⟨b, off, ha, hlt, hc, hz⟩ := h.cells j hj
    exact ⟨b, off, ha, hlt, by rw [← hc]; exact ((Below.refl w.heap.size w).alloc (Nat.le_refl _) _).cell (p := ⟨b, off + j, none⟩) hlt, hz⟩⟩

theorem RdX.step {w : World} {R : Nat} {a : Option Addr} {n c : Nat} {zs : List Int} {p : Nat} (h : RdX w R a n c zs p) (hp : p < n) : RdX (w.setCell ⟨R, 1, none⟩ (.int .i64 ((p + 1 : Nat) : Int))) R a n c zs (p + 1) :=
  ⟨by simpa using h.row.set 1 (.int .i64 ((p + 1 : Nat) : Int)), h.len, hp, h.small, fun j hj => by
    obtain ⟨b, off, ha, hlt, hc, hz⟩ := h.cells j hj
    refine ⟨b, off, ha, hlt, ?_, hz⟩
    rw [← hc]
    exact World.cell?_of_block (heap_setCell_other w ⟨R, 1, none⟩ b _ (by show b ≠ R; omega))⟩

theorem RdX.lt {w : World} {R : Nat} {a : Option Addr} {n c : Nat} {zs : List Int} {p : Nat} (h : RdX w R a n c zs p) : R < w.heap.size := h.row.lt

/-- the next byte, and where the reader stands then -/
def nx (zs : List Int) (p : Nat) : Int × Nat := if p < zs.length then (zs.getD p 0, p + 1) else (0, p)

set_option maxHeartbeats 800000 in
theorem next_x (R : Nat) (a : Option Addr) (n c : Nat) (zs : List Int) (p : Nat) (w : World) (h : RdX w R a n c zs p) :
    Calls Tryz.prog 11 #[.pointer (some ⟨R, 0, none⟩)] w fun e w' => ∃ (r : Int) (q : Nat), e = .returned (.int .i64 r) ∧ Hid (nx zs p = (r, q)) ∧ 0 ≤ r ∧ r ≤ 255 ∧ RdX w' R a n c zs q ∧ Touch R (R + 1) w w' := by
  have c0 := h.row.cell 0
  have c1 := h.row.cell 1
  have f1 := h.row.frozen 1
  simp at c0 c1
  have hsm := h.small
  by_cases hp : p < n
  · obtain ⟨b, off, ha, hbR, hz, z0, z1⟩ := h.cells p hp
    have Hn := hide (show nx zs p = (zs.getD p 0, p + 1) by rw [nx, if_pos (by have := h.len; omega)])
    generalize zs.getD p 0 = z at hz z0 z1 Hn
    subst ha
    have ip : (p : Int) < (n : Int) := by omega
    go_enter Tryz.func11, Tryz.ntmps11
    go_wp2
    go_quiet (fail)
    go_wp2
    go_quiet (fail)
    go_wp2
    go_ret
    refine ⟨_, p + 1, rfl, Hn, z0, z1, ?_, ?_⟩
    · rw [show ((p : Int) + 1) = ((p + 1 : Nat) : Int) from by omega]
      exact (h.after (below_drewN (Below.refl (R + 1) w) _) (by omega)).step hp
    · exact (Touch.drewN w _).trans (Touch.setCell _ ⟨R, 1, none⟩ _ (Nat.le_refl R) (Nat.lt_succ_self R))
  · have Hn := hide (show nx zs p = (0, p) by rw [nx, if_neg (by have := h.len; omega)])
    have ip : (n : Int) ≤ (p : Int) := by omega
    go_enter Tryz.func11, Tryz.ntmps11
    go_wp2
    go_quiet (fail)
    go_wp2
    go_ret
    exact ⟨_, p, rfl, Hn, by omega, by omega, h.after (below_drewN (Below.refl (R + 1) w) _) (by omega), Touch.drewN w _⟩

/-- one of eight words -/
def wordT (k : Nat) : ByteArray := [⟨#[114, 101, 97, 100]⟩, ⟨#[119, 114, 105, 116, 101]⟩, ⟨#[97, 100, 109, 105, 110]⟩, ⟨#[109, 97, 105, 108]⟩, ⟨#[97]⟩, ⟨#[98]⟩, ⟨#[99, 46, 100]⟩, ⟨#[122, 95, 57]⟩].getD k ⟨#[]⟩

theorem word_atT (w : World) (k : Nat) (hk : k < 8) : (wordT k).size ≤ 10 ∧ (w.alloc (.cells #[.string ⟨#[114, 101, 97, 100]⟩, .string ⟨#[119, 114, 105, 116, 101]⟩, .string ⟨#[97, 100, 109, 105, 110]⟩, .string ⟨#[109, 97, 105, 108]⟩, .string ⟨#[97]⟩, .string ⟨#[98]⟩, .string ⟨#[99, 46, 100]⟩, .string ⟨#[122, 95, 57]⟩] 9)).cell? ⟨w.heap.size, k, none⟩ = some (.string (wordT k)) := by
  have h := (Row.new w #[.string ⟨#[114, 101, 97, 100]⟩, .string ⟨#[119, 114, 105, 116, 101]⟩, .string ⟨#[97, 100, 109, 105, 110]⟩, .string ⟨#[109, 97, 105, 108]⟩, .string ⟨#[97]⟩, .string ⟨#[98]⟩, .string ⟨#[99, 46, 100]⟩, .string ⟨#[122, 95, 57]⟩] 9).cell k
  match k, hk with
  | 0, _ => exact ⟨by decide, h⟩
  | 1, _ => exact ⟨by decide, h⟩
  | 2, _ => exact ⟨by decide, h⟩
  | 3, _ => exact ⟨by decide, h⟩
  | 4, _ => exact ⟨by decide, h⟩
  | 5, _ => exact ⟨by decide, h⟩
  | 6, _ => exact ⟨by decide, h⟩
  | 7, _ => exact ⟨by decide, h⟩

/-- what l1word is -/
def wordF (zs : List Int) (p : Nat) : ByteArray × Nat :=
  if (nx zs p).1 % 8 = 6 then ((((⟨#[115]⟩ : ByteArray) ++ decB ((nx zs p).1 / 8).toNat) ++ ⟨#[58]⟩) ++ decB (nx zs (nx zs p).2).1.toNat, (nx zs (nx zs p).2).2)
  else if (nx zs p).1 % 8 = 7 then
    if 240 < (nx zs p).1 then (⟨#[97, 45, 110, 97, 109, 101, 45, 116, 104, 97, 116, 45, 105, 115, 45, 116, 104, 105, 114, 116, 121, 45, 116, 119, 111, 45, 98, 121, 116, 101, 115, 46]⟩, (nx zs p).2)
    else ((⟨#[120, 46]⟩ : ByteArray) ++ decB ((nx zs (nx zs p).2).1 % 90).toNat, (nx zs (nx zs p).2).2)
  else (wordT ((nx zs p).1 / 8 % 8).toNat, (nx zs p).2)

/-- what l1word answers -/
def WordX (R : Nat) (a : Option Addr) (n c : Nat) (zs : List Int) (p : Nat) (w : World) (e : Ending) (w' : World) : Prop :=
  ∃ (s : ByteArray) (q : Nat), e = .returned (.string s) ∧ Hid (wordF zs p = (s, q)) ∧ s.size ≤ 1000 ∧ RdX w' R a n c zs q ∧ Touch R (R + 1) w w'

set_option maxRecDepth 100000 in
set_option maxHeartbeats 1600000 in
theorem l1word_x (R : Nat) (a : Option Addr) (n c : Nat) (zs : List Int) (p : Nat) (w : World) (h : RdX w R a n c zs p) :
    Calls Tryz.prog 25 #[.pointer (some ⟨R, 0, none⟩)] w fun e w' => WordX R a n c zs p w e w' := by
  go_enter Tryz.func25, Tryz.ntmps25
  go_wp2_with fail
  refine (next_x R a n c zs p w h).mono ?_
  rintro e w1 ⟨x, p1, rfl, X1, x0, x1, h1, t1⟩
  by_cases e6 : x % 8 = 6
  · have q6 : (x % 8 == 6) = true := beq_iff_eq.2 e6
    have E6 := hide e6
    clear e6
    go_wp2_with fail
    refine (next_x R a n c zs p1 _ h1).mono ?_
    rintro e w2 ⟨y, p2, rfl, X2, y0, y1, h2, t2⟩
    go_wp2_with fail
    refine (l1decimal_int _ _ (by omega) (by omega)).mono ?_
    rintro e w3 ⟨rfl, hb3⟩
    have z3 := decB_size (x / 8).toNat
    have k3 : (⟨#[115]⟩ : ByteArray).size = 1 := rfl
    have k4 : (⟨#[58]⟩ : ByteArray).size = 1 := rfl
    go_wp2_with fail
    refine (l1decimal_int _ _ (by omega) (by omega)).mono ?_
    rintro e w4 ⟨rfl, hb4⟩
    have z4 := decB_size y.toNat
    have lt2 := h2.lt
    go_wp2_with fail
    go_ret
    refine ⟨_, p2, rfl, hide ?_, ?_, (h2.after hb3 lt2).after hb4 (Nat.lt_of_lt_of_le lt2 hb3.size), ((t1.trans t2).then_below hb3 (Nat.le_trans t1.size t2.size)).then_below hb4 (Nat.le_trans (Nat.le_trans t1.size t2.size) hb3.size)⟩
    · rw [wordF, unhide X1, if_pos (unhide E6), unhide X2]
    · rw [size_app, size_app, size_app]
      omega
  by_cases e7 : x % 8 = 7
  · have q6 : (x % 8 == 6) = false := beq_eq_false_iff_ne.2 e6
    have q7 : (x % 8 == 7) = true := beq_iff_eq.2 e7
    have E6 := hide e6
    have E7 := hide e7
    clear e6 e7
    by_cases h240 : 240 < x
    · go_wp2_with fail
      go_ret
      exact ⟨_, p1, rfl, hide (by rw [wordF, unhide X1, if_neg (unhide E6), if_pos (unhide E7), if_pos h240]), by decide, h1, t1⟩
    · have i240 : ¬ (240 < x) := h240
      go_wp2_with fail
      refine (next_x R a n c zs p1 _ h1).mono ?_
      rintro e w2 ⟨y, p2, rfl, X2, y0, y1, h2, t2⟩
      go_wp2_with fail
      refine (l1decimal_int _ _ (by omega) (by omega)).mono ?_
      rintro e w3 ⟨rfl, hb3⟩
      have z3 := decB_size (y % 90).toNat
      have lt2 := h2.lt
      go_wp2_with fail
      go_ret
      refine ⟨_, p2, rfl, hide ?_, ?_, h2.after hb3 lt2, (t1.trans t2).then_below hb3 (Nat.le_trans t1.size t2.size)⟩
      · rw [wordF, unhide X1, if_neg (unhide E6), if_pos (unhide E7), if_neg (by omega), unhide X2]
      · rw [size_app]
        have : (⟨#[120, 46]⟩ : ByteArray).size = 2 := rfl
        omega
  have q6 : (x % 8 == 6) = false := beq_eq_false_iff_ne.2 e6
  have q7 : (x % 8 == 7) = false := beq_eq_false_iff_ne.2 e7
  have E6 := hide e6
  have E7 := hide e7
  clear e6 e7
  obtain ⟨hs, hc⟩ := word_atT w1 (x / 8 % 8).toNat (by omega)
  have lt1 := h1.lt
  have Hf := hide (show wordF zs p = (wordT (x / 8 % 8).toNat, p1) by rw [wordF, unhide X1, if_neg (unhide E6), if_neg (unhide E7)])
  generalize wordT (x / 8 % 8).toNat = s at hs hc Hf
  go_wp2_with fail
  go_ret
  exact ⟨s, p1, rfl, Hf, by omega, h1.after ((Below.refl w1.heap.size w1).alloc (Nat.le_refl _) _) lt1, t1.then_below ((Below.refl w1.heap.size w1).alloc (Nat.le_refl _) _) t1.size⟩

end Go.Proofs.YtnahfogbemfngaaGreatDoor
