/-
  FormatAsk of the program. Own work.
-/
import Derived.Test.YtnahfogbemfngaaGreatDoorFB
import Derived.Lib.LaidTab
import Derived.Lib.SmallJoins
namespace Go.Proofs.YtnahfogbemfngaaGreatDoor
open Go.RowKit

abbrev Pow (w : World) : Prop := Lib.TabIs Tryz.prog w "internal/strconv.uint64pow10" .u64 Lib.pow10Tab

theorem gPow : Tryz.prog.globalNamed "internal/strconv.uint64pow10" = some 0 := by kernel_rfl

theorem Pow.below {w w' : World} (h : Pow w) (hb : Below w.heap.size w w') : Pow w' := Joins.tab_stays gPow h hb (Nat.le_refl _)

theorem formatInt_any (x : Int) (w : World) (h0 : 0 ≤ x) (hk : x ≤ 9999999) (ht : Pow w) :
    Calls Tryz.prog 15 #[.int .i64 x, .int .i64 10] w fun e w' => e = .returned (.string (decB x.toNat)) ∧ Below w.heap.size w w' := by
  refine (Tryz.strconv_FormatInt_10 x (by omega) (by omega) w ht).mono ?_
  rintro e w' ⟨rfl, k, os, rfl⟩
  refine ⟨?_, ?_⟩
  · rw [Lib.itoa, if_neg (by omega)]; rfl
  · exact ⟨rfl, rfl, rfl, by simp, fun k hk => by rw [Sort.heap_grow_old _ _ (by simpa using hk)]; rfl⟩

theorem join_any (a : Option Addr) (n c : Nat) (ss : List ByteArray) (sep : ByteArray) (w : World) (h : Strs w a n c ss) (h1 : n ≤ 64) (h2 : (joinB ss sep).size ≤ 16777216) :
    Calls Tryz.prog 16 #[.slice a n c, .string sep] w fun e w' => e = .returned (.string (joinB ss sep)) ∧ Below w.heap.size w w' := by
  have hl := h.len
  by_cases h0 : n = 0
  · subst h0
    obtain rfl : ss = [] := List.eq_nil_of_length_eq_zero hl.symm
    refine (Tryz.strings_Join_none a c sep w).mono ?_
    rintro e w' ⟨rfl, rfl⟩
    exact ⟨rfl, Below.refl _ _⟩
  · obtain ⟨b, off, ha, hlt, hc⟩ := h.at (by omega)
    subst ha
    subst hl
    refine (Tryz.strings_Join b off c ss sep w (fun j x hx => ?_) hlt (by omega) h.cap ?_).mono ?_
    · have hj : j < ss.length := (List.getElem?_eq_some_iff.1 hx).1
      rw [hc j hj, nth_eq _ j hj]
      rw [List.getElem?_eq_getElem hj] at hx
      cases hx; rfl
    · have : (joinB ss sep).size = (Lib.join (ss.map (·.data.toList)) sep.data.toList).length := by simp [joinB, ByteArray.size]
      omega
    · rintro e w' ⟨rfl, hb⟩
      exact ⟨rfl, hb⟩

abbrev kClient : ByteArray := ⟨#[99, 108, 105, 101, 110, 116, 61]⟩
abbrev kUser : ByteArray := ⟨#[117, 115, 101, 114, 61]⟩
abbrev kLevel : ByteArray := ⟨#[108, 101, 118, 101, 108, 61]⟩
abbrev kAsk : ByteArray := ⟨#[97, 115, 107, 61]⟩

theorem impl_sums (cl us : ByteArray) (lv : Int) (ss : List ByteArray) (z1 : cl.size ≤ 32) (z2 : us.size ≤ 32) (z3 : (decB lv.toNat).size ≤ lv.toNat + 1) (z4 : (joinB ss ⟨#[44]⟩).size ≤ 33 * ss.length) (l1 : lv ≤ 9999999) (n1 : ss.length ≤ 64) :
    (∀ w, (Op.stringOp .add kClient cl).run Tryz.prog w = .ok (.string (kClient ++ cl)) w) ∧
    (∀ w, (Op.stringOp .add kUser us).run Tryz.prog w = .ok (.string (kUser ++ us)) w) ∧
    (∀ w, (Op.stringOp .add kLevel (decB lv.toNat)).run Tryz.prog w = .ok (.string (kLevel ++ decB lv.toNat)) w) ∧
    (∀ w, (Op.stringOp .add kAsk (joinB ss ⟨#[44]⟩)).run Tryz.prog w = .ok (.string (kAsk ++ joinB ss ⟨#[44]⟩)) w) := by
  have k1 : kClient.size = 7 := rfl
  have k2 : kUser.size = 5 := rfl
  have k3 : kLevel.size = 6 := rfl
  have k4 : kAsk.size = 4 := rfl
  refine ⟨addS ?_, addS ?_, addS ?_, addS ?_⟩
  all_goals omega

theorem impl_sizes (cl us : ByteArray) (lv : Int) (ss : List ByteArray) (z1 : cl.size ≤ 32) (z2 : us.size ≤ 32) (z3 : (decB lv.toNat).size ≤ lv.toNat + 1) (z4 : (joinB ss ⟨#[44]⟩).size ≤ 33 * ss.length) (l1 : lv ≤ 9999999) (n1 : ss.length ≤ 64) :
    (kClient ++ cl).size ≤ maxLen ∧ (kUser ++ us).size ≤ maxLen ∧ (kLevel ++ decB lv.toNat).size ≤ maxLen ∧ (kAsk ++ joinB ss ⟨#[44]⟩).size ≤ maxLen := by
  have k1 : kClient.size = 7 := rfl
  have k2 : kUser.size = 5 := rfl
  have k3 : kLevel.size = 6 := rfl
  have k4 : kAsk.size = 4 := rfl
  unfold maxLen
  simp only [size_app]
  omega

theorem strs_four (w : World) (x0 x1 x2 x3 : ByteArray) (h : x0.size ≤ maxLen ∧ x1.size ≤ maxLen ∧ x2.size ≤ maxLen ∧ x3.size ≤ maxLen) :
    Strs (w.alloc (.cells #[.string x0, .string x1, .string x2, .string x3] 9)) (some ⟨w.heap.size, 0, none⟩) 4 4 [x0, x1, x2, x3] := by
  have R := Row.new w #[.string x0, .string x1, .string x2, .string x3] 9
  refine ⟨rfl, Nat.le_refl _, by unfold maxLen; omega, fun j hj => ?_, fun j hj => ⟨w.heap.size, 0, rfl, R.lt, ?_⟩⟩
  · match j, hj with
    | 0, _ => exact h.1
    | 1, _ => exact h.2.1
    | 2, _ => exact h.2.2.1
    | 3, _ => exact h.2.2.2
  · rw [Nat.zero_add, R.cell]
    match j, hj with
    | 0, _ => rfl
    | 1, _ => rfl
    | 2, _ => rfl
    | 3, _ => rfl

theorem four_is (cl us : ByteArray) (lv : Int) (ss : List ByteArray) : fmtX cl us lv ss = joinB [kClient ++ cl, kUser ++ us, kLevel ++ decB lv.toNat, kAsk ++ joinB ss ⟨#[44]⟩] ⟨#[32]⟩ := by
  apply bytes_ext
  simp [fmtX, joinB, Lib.join_cons, Lib.joinTail]

theorem impl_whole (cl us : ByteArray) (lv : Int) (ss : List ByteArray) (z1 : cl.size ≤ 32) (z2 : us.size ≤ 32) (z3 : (decB lv.toNat).size ≤ lv.toNat + 1) (z4 : (joinB ss ⟨#[44]⟩).size ≤ 33 * ss.length) (l1 : lv ≤ 9999999) (n1 : ss.length ≤ 64) :
    (joinB [kClient ++ cl, kUser ++ us, kLevel ++ decB lv.toNat, kAsk ++ joinB ss ⟨#[44]⟩] ⟨#[32]⟩).size ≤ 16777216 := by
  rw [← four_is]
  show ((((((((cClient ++ cl) ++ cUser) ++ us) ++ cLevel) ++ decB lv.toNat) ++ cAsk) ++ joinB ss ⟨#[44]⟩)).size ≤ 16777216
  have k1 : cClient.size = 7 := rfl
  have k2 : cUser.size = 6 := rfl
  have k3 : cLevel.size = 7 := rfl
  have k4 : cAsk.size = 5 := rfl
  simp only [size_app]
  omega

set_option maxHeartbeats 1600000 in
theorem iFormatAsk_any (cl us : ByteArray) (lv : Int) (a : Option Addr) (n c : Nat) (ss : List ByteArray) (w : World) (hcl : cl.size ≤ maxLen) (hus : us.size ≤ maxLen) (h : Strs w a n c ss) (ht : Pow w) :
    Calls Tryz.prog 5 #[.agg #[.string cl, .string us, .int .i64 lv, .slice a n c]] w fun e w' => e = .returned (.string (fmtB cl us lv ss)) ∧ Below w.heap.size w w' := by
  have b0 : Below w.heap.size w (w.alloc (.cells #[.string cl, .string us, .int .i64 lv, .slice a n c] 25)) := (Below.refl _ _).alloc (Nat.le_refl _) _
  have g := h.below b0 (Nat.le_refl _)
  cases v : askB cl us lv ss
  · have Hf := hide (show fmtB cl us lv ss = ⟨#[]⟩ by rw [fmtB, v]; rfl)
    go_enter Tryz.func5, Tryz.ntmps5
    go_wp2_with fail
    refine (validAsk_any cl us lv a n c ss _ hcl hus g).mono ?_
    rintro e w1 ⟨rfl, hb1⟩
    rw [v]
    go_wp2_with fail
    go_ret
    exact ⟨by rw [unhide Hf]; rfl, b0.trans (hb1.mono (by simp))⟩
  · obtain ⟨z1, z2, l0, l1, hs⟩ := ask_parts v
    obtain ⟨n1, n2⟩ := set_small hs
    have hn : n ≤ 64 := by have := h.len; omega
    have z3 := decB_size lv.toNat
    have z4 := joinB_size ⟨#[44]⟩ ss n2 rfl
    clear n2
    have Hf := hide (show fmtB cl us lv ss = fmtX cl us lv ss by rw [fmtB, v]; rfl)
    have R := Row.new w #[.string cl, .string us, .int .i64 lv, .slice a n c] 25
    go_enter Tryz.func5, Tryz.ntmps5
    go_wp2_with fail
    refine (validAsk_any cl us lv a n c ss _ hcl hus g).mono ?_
    rintro e w1 ⟨rfl, hb1⟩
    rw [v]
    have R1 := R.after hb1 (Nat.le_refl _)
    have g1 := g.below hb1 (Nat.le_refl _)
    have B1 := b0.trans (hb1.mono (by simp))
    have D1 : Below w1.heap.size w1 w1.drew := (Below.refl _ _).drew
    have q1 := ask_all R1 D1
    go_wp2_with fail
    obtain ⟨s1, s2, s3, s4⟩ := impl_sums cl us lv ss z1 z2 z3 z4 l1 n1
    have Hp := hide ((ht.below B1).below D1)
    go_region_held3 (fun w' => w'.cell? ⟨w.heap.size, 0, none⟩ = some (.string cl) ∧ w'.cell? ⟨w.heap.size, 1, none⟩ = some (.string us) ∧ w'.cell? ⟨w.heap.size, 2, none⟩ = some (.int .i64 lv) ∧ w'.cell? ⟨w.heap.size, 3, none⟩ = some (.slice a n c)) (first | assumption | go_keep)
      (first
        | (go_at_call 15; refine (formatInt_any _ _ l0 l1 (unhide Hp)).mono ?_; rintro e w2 ⟨rfl, hb2⟩; have B2 := D1.trans (hb2.mono (Nat.le_refl _)); have q2 := ask_all R1 B2)
        | (go_at_call 16; refine (join_any _ _ _ _ _ _ (g1.below B2 (Nat.le_refl _)) hn (by omega)).mono ?_; rintro e w3 ⟨rfl, hb3⟩; have B3 := B2.trans (hb3.mono B2.size); have q3 := ask_all R1 B3))
    clear q1 q2 q3 s1 s2 s3 s4
    have f4 := strs_four w3 (kClient ++ cl) (kUser ++ us) (kLevel ++ decB lv.toNat) (kAsk ++ joinB ss ⟨#[44]⟩) (impl_sizes cl us lv ss z1 z2 z3 z4 l1 n1)
    have HX := hide (four_is cl us lv ss)
    have hz := impl_whole cl us lv ss z1 z2 z3 z4 l1 n1
    have B4 := B3.alloc B3.size (.cells #[.string (kClient ++ cl), .string (kUser ++ us), .string (kLevel ++ decB lv.toNat), .string (kAsk ++ joinB ss ⟨#[44]⟩)] 9)
    go_wp2_with fail
    refine (join_any _ _ _ _ _ _ f4 (by omega) hz).mono ?_
    rintro e w5 ⟨rfl, hb5⟩
    go_wp2_with fail
    go_ret
    exact ⟨by rw [unhide Hf, unhide HX]; rfl, (B1.trans (B4.mono B1.size)).trans (hb5.mono (Nat.le_trans B1.size B4.size))⟩

end Go.Proofs.YtnahfogbemfngaaGreatDoor
