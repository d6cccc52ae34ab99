/-
  FormatAsk, twice. Own work.
-/
import Derived.Test.YtnahfogbemfngaaGreatDoorFA
import Derived.Deep.RegionHeld3
namespace Go.Proofs.YtnahfogbemfngaaGreatDoor
open Go.RowKit

def askB (cl us : ByteArray) (lv : Int) (ss : List ByteArray) : Bool := vnB cl && vnB us && decide (0 ≤ lv) && decide (lv ≤ 9999999) && setB ss

set_option maxHeartbeats 800000 in
theorem l1validAsk_any (cl us : ByteArray) (lv : Int) (a : Option Addr) (n c : Nat) (ss : List ByteArray) (w : World) (hcl : cl.size ≤ maxLen) (hus : us.size ≤ maxLen) (h : Strs w a n c ss) :
    Calls Tryz.prog 17 #[.agg #[.string cl, .string us, .int .i64 lv, .slice a n c]] w fun e w' => e = .returned (.bool (askB cl us lv ss)) ∧ Below w.heap.size w w' := by
  have b0 : Below w.heap.size w (w.alloc (.cells #[.string cl, .string us, .int .i64 lv, .slice a n c] 25)) := (Below.refl _ _).alloc (Nat.le_refl _) _
  have g := h.below b0 (Nat.le_refl _)
  go_enter Tryz.func17, Tryz.ntmps17
  go_wp2_with fail
  refine (sValidName_any _ _ hcl).mono ?_
  rintro e w' ⟨rfl, rfl⟩
  cases v1 : vnB cl
  · go_wp2_with fail
    go_ret
    exact ⟨ret_bool (by simp [askB, v1]), b0⟩
  · go_wp2_with fail
    refine (sValidName_any _ _ hus).mono ?_
    rintro e w' ⟨rfl, rfl⟩
    cases v2 : vnB us
    · go_wp2_with fail
      go_ret
      exact ⟨ret_bool (by simp [askB, v2]), b0⟩
    · by_cases h0 : 0 ≤ lv
      · by_cases h1 : lv ≤ 9999999
        · go_wp2_with fail
          refine (sIsSet_any _ _ _ _ _ g).mono ?_
          rintro e w' ⟨rfl, rfl⟩
          go_wp2_with fail
          go_ret
          exact ⟨ret_bool (by simp [askB, v1, v2, h0, h1]), b0⟩
        · have h1' : 9999999 < lv := by omega
          go_wp2_with fail
          go_ret
          exact ⟨ret_bool (by simp [askB]; intros; omega), b0⟩
      · have h0' : lv < 0 := by omega
        go_wp2_with fail
        go_ret
        exact ⟨ret_bool (by simp [askB]; intros; omega), b0⟩

set_option maxHeartbeats 800000 in
theorem validAsk_any (cl us : ByteArray) (lv : Int) (a : Option Addr) (n c : Nat) (ss : List ByteArray) (w : World) (hcl : cl.size ≤ maxLen) (hus : us.size ≤ maxLen) (h : Strs w a n c ss) :
    Calls Tryz.prog 14 #[.agg #[.string cl, .string us, .int .i64 lv, .slice a n c]] w fun e w' => e = .returned (.bool (askB cl us lv ss)) ∧ Below w.heap.size w w' := by
  have b0 : Below w.heap.size w (w.alloc (.cells #[.string cl, .string us, .int .i64 lv, .slice a n c] 25)) := (Below.refl _ _).alloc (Nat.le_refl _) _
  have g := h.below b0 (Nat.le_refl _)
  go_enter Tryz.func14, Tryz.ntmps14
  go_wp2_with fail
  refine (iValidName_any _ _ hcl).mono ?_
  rintro e w' ⟨rfl, rfl⟩
  cases v1 : vnB cl
  · go_wp2_with fail
    go_ret
    exact ⟨ret_bool (by simp [askB, v1]), b0⟩
  · go_wp2_with fail
    refine (iValidName_any _ _ hus).mono ?_
    rintro e w' ⟨rfl, rfl⟩
    cases v2 : vnB us
    · go_wp2_with fail
      go_ret
      exact ⟨ret_bool (by simp [askB, v2]), b0⟩
    · by_cases h0 : 0 ≤ lv
      · by_cases h1 : lv ≤ 9999999
        · go_wp2_with fail
          refine (iIsSet_any _ _ _ _ _ g).mono ?_
          rintro e w1 ⟨rfl, hb1⟩
          go_wp2_with fail
          go_ret
          exact ⟨ret_bool (by simp [askB, v1, v2, h0, h1]), b0.trans (hb1.mono (by simp))⟩
        · have h1' : 9999999 < lv := by omega
          go_wp2_with fail
          go_ret
          exact ⟨ret_bool (by simp [askB]; intros; omega), b0⟩
      · have h0' : lv < 0 := by omega
        go_wp2_with fail
        go_ret
        exact ⟨ret_bool (by simp [askB]; intros; omega), b0⟩

theorem ask_parts {cl us : ByteArray} {lv : Int} {ss : List ByteArray} (h : askB cl us lv ss = true) : cl.size ≤ 32 ∧ us.size ≤ 32 ∧ 0 ≤ lv ∧ lv ≤ 9999999 ∧ setB ss = true := by
  simp only [askB, vnB, Bool.and_eq_true, decide_eq_true_eq] at h
  exact ⟨h.1.1.1.1.1.2, h.1.1.1.2.1.2, h.1.1.2, h.1.2, h.2⟩

/-- the text of an ask that is valid -/
def fmtX (cl us : ByteArray) (lv : Int) (ss : List ByteArray) : ByteArray :=
  ((((((((⟨#[99, 108, 105, 101, 110, 116, 61]⟩ : ByteArray) ++ cl) ++ ⟨#[32, 117, 115, 101, 114, 61]⟩) ++ us) ++ ⟨#[32, 108, 101, 118, 101, 108, 61]⟩) ++ decB lv.toNat) ++ ⟨#[32, 97, 115, 107, 61]⟩) ++ joinB ss ⟨#[44]⟩)

/-- the text of an ask -/
def fmtB (cl us : ByteArray) (lv : Int) (ss : List ByteArray) : ByteArray := if askB cl us lv ss then fmtX cl us lv ss else ⟨#[]⟩

theorem ask_all {w1 w' : World} {b : Nat} {cl us : ByteArray} {lv : Int} {a : Option Addr} {n c : Nat} {t : TypeId} (R : Row w1 b #[.string cl, .string us, .int .i64 lv, .slice a n c] t) (hb : Below w1.heap.size w1 w') :
    w'.cell? ⟨b, 0, none⟩ = some (.string cl) ∧ w'.cell? ⟨b, 1, none⟩ = some (.string us) ∧ w'.cell? ⟨b, 2, none⟩ = some (.int .i64 lv) ∧ w'.cell? ⟨b, 3, none⟩ = some (.slice a n c) := by
  have R1 := R.after hb (Nat.le_refl _)
  have c0 := R1.cell 0
  have c1 := R1.cell 1
  have c2 := R1.cell 2
  have c3 := R1.cell 3
  exact ⟨c0, c1, c2, c3⟩

abbrev cClient : ByteArray := ⟨#[99, 108, 105, 101, 110, 116, 61]⟩
abbrev cUser : ByteArray := ⟨#[32, 117, 115, 101, 114, 61]⟩
abbrev cLevel : ByteArray := ⟨#[32, 108, 101, 118, 101, 108, 61]⟩
abbrev cAsk : ByteArray := ⟨#[32, 97, 115, 107, 61]⟩

theorem spec_sums (cl us : ByteArray) (lv : Int) (ss : List ByteArray) (z1 : cl.size ≤ 32) (z2 : us.size ≤ 32) (z3 : (decB lv.toNat).size ≤ lv.toNat + 1) (z4 : (joinB ss ⟨#[44]⟩).size ≤ 33 * ss.length) (l1 : lv ≤ 9999999) (n1 : ss.length ≤ 64) :
    (∀ w, (Op.stringOp .add cClient cl).run Tryz.prog w = .ok (.string (cClient ++ cl)) w) ∧
    (∀ w, (Op.stringOp .add (cClient ++ cl) cUser).run Tryz.prog w = .ok (.string (cClient ++ cl ++ cUser)) w) ∧
    (∀ w, (Op.stringOp .add (cClient ++ cl ++ cUser) us).run Tryz.prog w = .ok (.string (cClient ++ cl ++ cUser ++ us)) w) ∧
    (∀ w, (Op.stringOp .add (cClient ++ cl ++ cUser ++ us) cLevel).run Tryz.prog w = .ok (.string (cClient ++ cl ++ cUser ++ us ++ cLevel)) w) ∧
    (∀ w, (Op.stringOp .add (cClient ++ cl ++ cUser ++ us ++ cLevel) (decB lv.toNat)).run Tryz.prog w = .ok (.string (cClient ++ cl ++ cUser ++ us ++ cLevel ++ decB lv.toNat)) w) ∧
    (∀ w, (Op.stringOp .add (cClient ++ cl ++ cUser ++ us ++ cLevel ++ decB lv.toNat) cAsk).run Tryz.prog w = .ok (.string (cClient ++ cl ++ cUser ++ us ++ cLevel ++ decB lv.toNat ++ cAsk)) w) ∧
    (∀ w, (Op.stringOp .add (cClient ++ cl ++ cUser ++ us ++ cLevel ++ decB lv.toNat ++ cAsk) (joinB ss ⟨#[44]⟩)).run Tryz.prog w = .ok (.string (cClient ++ cl ++ cUser ++ us ++ cLevel ++ decB lv.toNat ++ cAsk ++ joinB ss ⟨#[44]⟩)) w) := by
  have k1 : cClient.size = 7 := rfl
  have k2 : cUser.size = 6 := rfl
  have k3 : cLevel.size = 7 := rfl
  have k4 : cAsk.size = 5 := rfl
  refine ⟨addS ?_, addS ?_, addS ?_, addS ?_, addS ?_, addS ?_, addS ?_⟩
  all_goals (try simp only [size_app])
  all_goals omega

set_option maxHeartbeats 1600000 in
theorem sFormatAsk_any (cl us : ByteArray) (lv : Int) (a : Option Addr) (n c : Nat) (ss : List ByteArray) (w : World) (hcl : cl.size ≤ maxLen) (hus : us.size ≤ maxLen) (h : Strs w a n c ss) :
    Calls Tryz.prog 6 #[.agg #[.string cl, .string us, .int .i64 lv, .slice a n c]] w fun e w' => e = .returned (.string (fmtB cl us lv ss)) ∧ Below w.heap.size w w' := by
  have b0 : Below w.heap.size w (w.alloc (.cells #[.string cl, .string us, .int .i64 lv, .slice a n c] 25)) := (Below.refl _ _).alloc (Nat.le_refl _) _
  have g := h.below b0 (Nat.le_refl _)
  cases v : askB cl us lv ss
  · have Hf := hide (show fmtB cl us lv ss = ⟨#[]⟩ by rw [fmtB, v]; rfl)
    go_enter Tryz.func6, Tryz.ntmps6
    go_wp2_with fail
    refine (l1validAsk_any cl us lv a n c ss _ hcl hus g).mono ?_
    rintro e w1 ⟨rfl, hb1⟩
    rw [v]
    go_wp2_with fail
    go_ret
    exact ⟨by rw [unhide Hf]; rfl, b0.trans (hb1.mono (by simp))⟩
  · obtain ⟨z1, z2, l0, l1, hs⟩ := ask_parts v
    obtain ⟨n1, n2⟩ := set_small hs
    have hn : n ≤ 64 := by have := h.len; omega
    have z3 := decB_size lv.toNat
    have z4 := joinB_size ⟨#[44]⟩ ss n2 rfl
    have H2 := hide n2
    clear n2
    have Hf := hide (show fmtB cl us lv ss = fmtX cl us lv ss by rw [fmtB, v]; rfl)
    have R := Row.new w #[.string cl, .string us, .int .i64 lv, .slice a n c] 25
    go_enter Tryz.func6, Tryz.ntmps6
    go_wp2_with fail
    refine (l1validAsk_any cl us lv a n c ss _ hcl hus g).mono ?_
    rintro e w1 ⟨rfl, hb1⟩
    rw [v]
    have R1 := R.after hb1 (Nat.le_refl _)
    have g1 := g.below hb1 (Nat.le_refl _)
    have B1 := b0.trans (hb1.mono (by simp))
    have D1 : Below w1.heap.size w1 w1.drew := (Below.refl _ _).drew
    have q1 := ask_all R1 D1
    go_wp2_with fail
    obtain ⟨s1, s2, s3, s4, s5, s6, s7⟩ := spec_sums cl us lv ss z1 z2 z3 z4 l1 n1
    go_region_held3 (fun w' => w'.cell? ⟨w.heap.size, 0, none⟩ = some (.string cl) ∧ w'.cell? ⟨w.heap.size, 1, none⟩ = some (.string us) ∧ w'.cell? ⟨w.heap.size, 2, none⟩ = some (.int .i64 lv) ∧ w'.cell? ⟨w.heap.size, 3, none⟩ = some (.slice a n c)) (first | assumption | go_keep)
      (first
        | (go_at_call 18; refine (l1decimal_int _ _ l0 l1).mono ?_; rintro e w2 ⟨rfl, hb2⟩; have B2 := D1.trans (hb2.mono (Nat.le_refl _)); have q2 := ask_all R1 B2)
        | (go_at_call 19; refine (l1join_any _ _ _ _ _ _ (g1.below B2 (Nat.le_refl _)) hn (unhide H2) rfl).mono ?_; rintro e w3 ⟨rfl, hw3⟩; rw [hw3]; clear hw3))
    go_wp2_with fail
    go_ret
    exact ⟨by rw [unhide Hf]; rfl, B1.trans (B2.mono B1.size)⟩

end Go.Proofs.YtnahfogbemfngaaGreatDoor
