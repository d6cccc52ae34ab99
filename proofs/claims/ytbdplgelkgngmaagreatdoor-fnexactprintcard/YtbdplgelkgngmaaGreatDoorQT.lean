/-
  The model's Print. Own work.
-/
import Derived.Test.YtbdplgelkgngmaaGreatDoorQS
import Derived.Test.YtbdplgelkgngmaaGreatDoorVPY0
namespace Go.Proofs.YtbdplgelkgngmaaGreatDoor
open Go.RowKit
set_option linter.unusedVariables false

set_option maxHeartbeats 1600000 in
set_option maxRecDepth 100000 in
theorem sPrint_any (a b : Option Addr) (n c m d : Nat) (N : List Nd) (L : List St) (w : World) (h1 : Nds w a n c N) (h2 : Sts w b m d L) (hnum : ∀ x ∈ N, x.num ≤ 9223372036854775807) :
    Calls Tryz.prog 5 #[.agg #[.slice a n c, .slice b m d]] w fun r w' => (∃ s, r = .returned (.string s) ∧ IsTxt N L s) ∧ Below w.heap.size w w' := by
  have HN := hide h1.len
  have HL := hide h2.len
  have HU := hide hnum
  have R0 := Row.new w #[.slice a n c, .slice b m d] 31
  have B0 := (Below.refl w.heap.size w).alloc (Nat.le_refl _) (.cells #[.slice a n c, .slice b m d] 31)
  have N0 := h1.below B0 (Nat.le_refl _)
  have L0 := h2.below B0 (Nat.le_refl _)
  clear h1 h2 hnum
  go_enter Tryz.func5, Tryz.ntmps5
  go_wp2_with fail
  refine (sValidPolicy_any _ _ _ _ _ _ N L _ N0 L0).mono ?_
  rintro r w1 ⟨rfl, hb1⟩
  have B1 := B0.trans (hb1.mono B0.size)
  have N1 := N0.below hb1 (Nat.le_refl _)
  have L1 := L0.below hb1 (Nat.le_refl _)
  have R1 := R0.after hb1 (Nat.le_refl _)
  clear N0 L0 R0 B0 hb1
  have z1 := B1.size
  have z1' : w.heap.size < w1.heap.size := R1.lt
  obtain ⟨p0, p1⟩ := row2 R1
  dsimp only
  cases hw : wellI N L with
  | false =>
    have HW := hide hw
    clear hw
    go_wp2_with fail
    go_ret
    exact ⟨⟨_, rfl, .inl ⟨unhide HW, rfl⟩⟩, B1⟩
  | true =>
    have HW := hide hw
    have HP := hide (wellP_of hw)
    clear hw
    obtain ⟨Es, hl, hE, hf⟩ := trees_ex N1 (unhide HP).fields (unhide HU) (unhide HP).kids
    have HS := hide (stOK_of (unhide HP) hl hE hf)
    have HQ := hide (fun (k : Nat) (e : Ex) (he : Es[k]? = some e) (hc : e.cnt ≤ 4000) => show PutV w1 a n c k e.put by
      obtain ⟨q1, q2⟩ := List.getElem?_eq_some_iff.1 he
      exact l2put_any w1 a n c N N1 e k (q2 ▸ hE k q1) (hf e (List.mem_of_getElem? he)) hc)
    have HE := hide hE
    have Hl := hide hl
    have Hm := hide (show 1 ≤ m ∧ m ≤ 600 by rw [← unhide HL]; exact ⟨(unhide HP).m0, (unhide HP).m⟩)
    have hms : m ≤ 600 := (unhide Hm).2
    clear hl hE hf
    go_wp2_with fail
    go_loopw [3, 12] (fun v i wr => ∃ k : Nat, k ≤ m ∧ v = .string (prT Es (L.take k)) ∧ i = .int .i64 k ∧ Below w1.heap.size w1 wr) (fun _ i _ => m - (intOf i).toNat)
    case atStart => exact ⟨0, by omega, rfl, rfl, Below.refl _ _⟩
    case round =>
      obtain ⟨k, hk, rfl, rfl, D1⟩ := hrel
      by_cases hlt : k < m
      · have ilt : (k : Int) < (m : Int) := by omega
        have hkl : k < L.length := by rw [unhide HL]; exact hlt
        obtain ⟨b1, off, rfl, hbl, c0, c1, c2, c3⟩ := (L1.below D1 (Nat.le_refl _)).cells k hkl
        have HT := hide (prT_snoc Es L k hkl)
        have HO := hide (unhide HS L[k] (List.getElem_mem hkl))
        have HZ := hide (show (prT Es (L.take k)).size ≤ 30000000000 by
          have h1 := prT_size (w := w1) (Es := Es) (L := L.take k) (fun s hs => unhide HS s (List.mem_of_mem_take hs))
          have h2 := unhide Hm
          rw [List.length_take] at h1
          omega)
        have zd := D1.size
        have Hlt := hide hlt
        generalize L[k] = s at c0 c1 c2 c3 HT HO
        generalize prT Es (L.take k) = acc at HT HZ ⊢
        have Q0 := R1.after D1 (Nat.le_refl _)
        clear hkl hlt p0 p1
        have eA : (⟨#[108, 101, 116, 32]⟩ : ByteArray).size = 4 := rfl
        have eB : (⟨#[32, 61, 32]⟩ : ByteArray).size = 3 := rfl
        have eC : (⟨#[119, 104, 101, 110, 32]⟩ : ByteArray).size = 5 := rfl
        have eD : (⟨#[32, 61, 62, 32]⟩ : ByteArray).size = 4 := rfl
        have eE : (⟨#[101, 108, 115, 101, 32]⟩ : ByteArray).size = 5 := rfl
        have eF : (⟨#[59, 10]⟩ : ByteArray).size = 2 := rfl
        have eG : (⟨#[103, 114, 97, 110, 116, 32]⟩ : ByteArray).size = 6 := rfl
        have eH : (⟨#[100, 101, 110, 121]⟩ : ByteArray).size = 4 := rfl
        have zw : w.heap.size < wr.heap.size := by omega
        have zz := unhide HZ
        rcases unhide HO with ⟨k1, k2, ⟨mm, e, hm, g1, g2, g3⟩, k4⟩ | ⟨k1, ⟨mm, e, hm, g1, g2, g3⟩, k3⟩ | ⟨k1, k2, k3⟩
        · have HV := hide (show prT Es (L.take (k + 1)) = acc ++ (⟨#[108, 101, 116, 32]⟩ ++ s.name ++ ⟨#[32, 61, 32]⟩ ++ e.pr) ++ ⟨#[59, 10]⟩ by rw [unhide HT, stT, if_pos k1, hm, exT_at g1]; simp only [ByteArray.append_assoc])
          rw [k1] at c0
          rw [hm] at c2
          rw [k4] at c3
          have HX := hide (unhide HQ mm e g1 g3 0)
          simp only [put_zero] at HX
          have zX : e.pr.size ≤ 16000000 := by have := e.pr_size g2; omega
          generalize s.name = nm at c1 k2 HV
          generalize e.pr = t at HX zX HV
          have E0 := D1.alloc D1.size (.cells #[.int .i64 1, .string nm, .int .i64 mm, .int .i64 (-1)] 39)
          have S0 := Row.new wr #[.int .i64 1, .string nm, .int .i64 mm, .int .i64 (-1)] 39
          have Q1 := Q0.alloc (.cells #[.int .i64 1, .string nm, .int .i64 mm, .int .i64 (-1)] 39)
          clear Q0
          clear HO HT k1 hm k4 g1 g2 g3 HZ HQ HS HE
          have W0E : ∃ W0, W0 = wr.alloc (.cells #[.int .i64 1, .string nm, .int .i64 mm, .int .i64 (-1)] 39) := ⟨_, rfl⟩
          go_wp2_with fail
          obtain ⟨W0, hW0⟩ := W0E
          rw [← hW0] at E0 S0 Q1 ⊢
          clear hW0
          have G1 : Below W0.heap.size W0 W0.drew := (Below.refl _ _).drew
          have HWD := hide (E0.trans (G1.mono E0.size))
          have keep : ∀ w', Below W0.heap.size W0 w' → w'.cell? ⟨wr.heap.size, 1, none⟩ = some (.string nm) ∧ w'.cell? ⟨wr.heap.size, 2, none⟩ = some (.int .i64 mm) ∧ w'.cell? ⟨w.heap.size, 0, none⟩ = some (.slice a n c) := fun w' hb => ⟨(S0.after hb (Nat.le_refl _)).cell 1, (S0.after hb (Nat.le_refl _)).cell 2, (Q1.after hb (Nat.le_refl _)).cell 0⟩
          have KP := hide keep
          have q1 := keep _ G1
          have s1 := addS' (a := ⟨#[108, 101, 116, 32]⟩) (b := nm) (by rw [eA]; omega)
          have s2 := addS' (a := ⟨#[108, 101, 116, 32]⟩ ++ nm) (b := ⟨#[32, 61, 32]⟩) (by simp only [ByteArray.size_append, eA, eB]; omega)
          have s3 := addS' (a := ⟨#[108, 101, 116, 32]⟩ ++ nm ++ ⟨#[32, 61, 32]⟩) (b := t) (by simp only [ByteArray.size_append, eA, eB]; omega)
          have s4 := addS' (a := acc) (b := ⟨#[108, 101, 116, 32]⟩ ++ nm ++ ⟨#[32, 61, 32]⟩ ++ t) (by simp only [ByteArray.size_append, eA, eB]; omega)
          clear keep
          go_region_held3 (fun w' => w'.cell? ⟨wr.heap.size, 1, none⟩ = some (.string nm) ∧ w'.cell? ⟨wr.heap.size, 2, none⟩ = some (.int .i64 mm) ∧ w'.cell? ⟨w.heap.size, 0, none⟩ = some (.slice a n c)) (first | assumption | go_keep)
            (first | (go_at_call 12; refine (unhide HX _ (unhide HWD)).mono ?_; rintro r w2 ⟨rfl, hb2⟩; have G2 := G1.trans (hb2.mono G1.size); have q2 := unhide KP _ G2))
          have E2 := E0.trans (G2.mono E0.size)
          have S2 := S0.after G2 (Nat.le_refl _)
          obtain ⟨d0, d1, d2, d3⟩ := row4 S2
          clear s1 s2 s3 s4 q1 q2 KP
          have zt : (acc ++ (⟨#[108, 101, 116, 32]⟩ ++ nm ++ ⟨#[32, 61, 32]⟩ ++ t)).size ≤ 40000000000 := by simp only [ByteArray.size_append, eA, eB]; omega
          go_wp2_with fail
          go_roundw
          case rel => exact ⟨k + 1, unhide Hlt, by rw [unhide HV], by go_num, E2⟩
          case measure => have := unhide Hlt; simp [intOf]; omega
        · rcases k3 with k5 | k5
          · have HV := hide (show prT Es (L.take (k + 1)) = acc ++ (⟨#[119, 104, 101, 110, 32]⟩ ++ e.pr ++ ⟨#[32, 61, 62, 32]⟩) ++ ⟨#[100, 101, 110, 121]⟩ ++ ⟨#[59, 10]⟩ by rw [unhide HT, stT, if_neg (by omega), if_pos k1, hm, exT_at g1, grT, if_pos k5]; simp only [ByteArray.append_assoc])
            rw [k1] at c0
            rw [hm] at c2
            rw [k5] at c3
            have HX := hide (unhide HQ mm e g1 g3 0)
            simp only [put_zero] at HX
            have zX : e.pr.size ≤ 16000000 := by have := e.pr_size g2; omega
            generalize s.name = nm at c1
            generalize e.pr = t at HX zX HV
            have E0 := D1.alloc D1.size (.cells #[.int .i64 2, .string nm, .int .i64 mm, .int .i64 (-1)] 39)
            have S0 := Row.new wr #[.int .i64 2, .string nm, .int .i64 mm, .int .i64 (-1)] 39
            have Q1 := Q0.alloc (.cells #[.int .i64 2, .string nm, .int .i64 mm, .int .i64 (-1)] 39)
            clear Q0
            obtain ⟨v0, v1, v2, v3⟩ := row4 S0
            obtain ⟨y0, y1⟩ := row2 Q1
            clear HO HT k1 HZ HQ HS HE hm g1 g2 g3 k5
            go_wp2_with fail
            refine (unhide HX _ E0).mono ?_
            rintro r w2 ⟨rfl, hb2⟩
            have E2 := E0.trans (hb2.mono E0.size)
            have S2 := S0.after hb2 (Nat.le_refl _)
            have Q2 := Q1.after hb2 (Nat.le_refl _)
            obtain ⟨x0, x1, x2, x3⟩ := row4 S2
            obtain ⟨j0, j1⟩ := row2 Q2
            dsimp only
            have zt : (acc ++ (⟨#[119, 104, 101, 110, 32]⟩ ++ t ++ ⟨#[32, 61, 62, 32]⟩)).size ≤ 40000000000 := by simp only [ByteArray.size_append, eC, eD]; omega
            go_wp2_with fail
            go_roundw
            case rel => exact ⟨k + 1, unhide Hlt, by rw [unhide HV], by go_num, E2⟩
            case measure => have := unhide Hlt; simp [intOf]; omega
          · obtain ⟨m2, f, hm2, r1, r2, r3⟩ := k5
            have HV := hide (show prT Es (L.take (k + 1)) = acc ++ (⟨#[119, 104, 101, 110, 32]⟩ ++ e.pr ++ ⟨#[32, 61, 62, 32]⟩) ++ (⟨#[103, 114, 97, 110, 116, 32]⟩ ++ f.pr) ++ ⟨#[59, 10]⟩ by rw [unhide HT, stT, if_neg (by omega), if_pos k1, hm, exT_at g1, grT, if_neg (by omega), hm2, exT_at r1]; simp only [ByteArray.append_assoc])
            rw [k1] at c0
            rw [hm] at c2
            rw [hm2] at c3
            have HX := hide (unhide HQ mm e g1 g3 0)
            simp only [put_zero] at HX
            have zX : e.pr.size ≤ 16000000 := by have := e.pr_size g2; omega
            have HY := hide (unhide HQ m2 f r1 r3 0)
            simp only [put_zero] at HY
            have zY : f.pr.size ≤ 16000000 := by have := f.pr_size r2; omega
            generalize s.name = nm at c1
            generalize e.pr = t at HX zX HV
            generalize f.pr = u at HY zY HV
            have E0 := D1.alloc D1.size (.cells #[.int .i64 2, .string nm, .int .i64 mm, .int .i64 m2] 39)
            have S0 := Row.new wr #[.int .i64 2, .string nm, .int .i64 mm, .int .i64 m2] 39
            have Q1 := Q0.alloc (.cells #[.int .i64 2, .string nm, .int .i64 mm, .int .i64 m2] 39)
            clear Q0
            obtain ⟨v0, v1, v2, v3⟩ := row4 S0
            obtain ⟨y0, y1⟩ := row2 Q1
            clear HO HT k1 HZ HQ HS HE hm g1 g2 g3 hm2 r1 r2 r3
            have ge : ¬ ((m2 : Int) < 0) := by omega
            go_wp2_with fail
            refine (unhide HX _ E0).mono ?_
            rintro r w2 ⟨rfl, hb2⟩
            have E2 := E0.trans (hb2.mono E0.size)
            have S2 := S0.after hb2 (Nat.le_refl _)
            have Q2 := Q1.after hb2 (Nat.le_refl _)
            obtain ⟨x0, x1, x2, x3⟩ := row4 S2
            obtain ⟨j0, j1⟩ := row2 Q2
            dsimp only
            have zt : (acc ++ (⟨#[119, 104, 101, 110, 32]⟩ ++ t ++ ⟨#[32, 61, 62, 32]⟩)).size ≤ 40000000000 := by simp only [ByteArray.size_append, eC, eD]; omega
            go_wp2_with fail
            refine (unhide HY _ E2).mono ?_
            rintro r w3 ⟨rfl, hb3⟩
            have E3 := E2.trans (hb3.mono E2.size)
            dsimp only
            have zu : (acc ++ (⟨#[119, 104, 101, 110, 32]⟩ ++ t ++ ⟨#[32, 61, 62, 32]⟩) ++ (⟨#[103, 114, 97, 110, 116, 32]⟩ ++ u)).size ≤ 40000000000 := by simp only [ByteArray.size_append]; omega
            go_wp2_with fail
            go_roundw
            case rel => exact ⟨k + 1, unhide Hlt, by rw [unhide HV], by go_num, E3⟩
            case measure => have := unhide Hlt; simp [intOf]; omega
        · rcases k3 with k5 | k5
          · have HV := hide (show prT Es (L.take (k + 1)) = acc ++ ⟨#[101, 108, 115, 101, 32]⟩ ++ ⟨#[100, 101, 110, 121]⟩ ++ ⟨#[59, 10]⟩ by rw [unhide HT, stT, if_neg (by omega), if_neg (by omega), grT, if_pos k5]; simp only [ByteArray.append_assoc])
            rw [k1] at c0
            rw [k2] at c2
            rw [k5] at c3
            generalize s.name = nm at c1
            have E0 := D1.alloc D1.size (.cells #[.int .i64 3, .string nm, .int .i64 (-1), .int .i64 (-1)] 39)
            have S0 := Row.new wr #[.int .i64 3, .string nm, .int .i64 (-1), .int .i64 (-1)] 39
            have Q1 := Q0.alloc (.cells #[.int .i64 3, .string nm, .int .i64 (-1), .int .i64 (-1)] 39)
            clear Q0
            obtain ⟨v0, v1, v2, v3⟩ := row4 S0
            obtain ⟨y0, y1⟩ := row2 Q1
            clear HO HT k1 HZ HQ HS HE k2 k5
            go_wp2_with fail
            go_roundw
            case rel => exact ⟨k + 1, unhide Hlt, by rw [unhide HV], by go_num, E0⟩
            case measure => have := unhide Hlt; simp [intOf]; omega
          · obtain ⟨m2, f, hm2, r1, r2, r3⟩ := k5
            have HV := hide (show prT Es (L.take (k + 1)) = acc ++ ⟨#[101, 108, 115, 101, 32]⟩ ++ (⟨#[103, 114, 97, 110, 116, 32]⟩ ++ f.pr) ++ ⟨#[59, 10]⟩ by rw [unhide HT, stT, if_neg (by omega), if_neg (by omega), grT, if_neg (by omega), hm2, exT_at r1]; simp only [ByteArray.append_assoc])
            rw [k1] at c0
            rw [k2] at c2
            rw [hm2] at c3
            have HY := hide (unhide HQ m2 f r1 r3 0)
            simp only [put_zero] at HY
            have zY : f.pr.size ≤ 16000000 := by have := f.pr_size r2; omega
            generalize s.name = nm at c1
            generalize f.pr = u at HY zY HV
            have E0 := D1.alloc D1.size (.cells #[.int .i64 3, .string nm, .int .i64 (-1), .int .i64 m2] 39)
            have S0 := Row.new wr #[.int .i64 3, .string nm, .int .i64 (-1), .int .i64 m2] 39
            have Q1 := Q0.alloc (.cells #[.int .i64 3, .string nm, .int .i64 (-1), .int .i64 m2] 39)
            clear Q0
            obtain ⟨v0, v1, v2, v3⟩ := row4 S0
            obtain ⟨y0, y1⟩ := row2 Q1
            clear HO HT k1 HZ HQ HS HE k2 hm2 r1 r2 r3
            have ge : ¬ ((m2 : Int) < 0) := by omega
            go_wp2_with fail
            refine (unhide HY _ E0).mono ?_
            rintro r w3 ⟨rfl, hb3⟩
            have E3 := E0.trans (hb3.mono E0.size)
            dsimp only
            have zu : (acc ++ ⟨#[101, 108, 115, 101, 32]⟩ ++ (⟨#[103, 114, 97, 110, 116, 32]⟩ ++ u)).size ≤ 40000000000 := by simp only [ByteArray.size_append]; omega
            go_wp2_with fail
            go_roundw
            case rel => exact ⟨k + 1, unhide Hlt, by rw [unhide HV], by go_num, E3⟩
            case measure => have := unhide Hlt; simp [intOf]; omega
      · have e : k = m := by omega
        subst e
        have HV := hide (show prT Es (L.take k) = prT Es L by rw [← unhide HL, List.take_length])
        rw [unhide HV]
        go_wp2_with fail
        go_ret
        exact ⟨⟨_, rfl, .inr ⟨unhide HW, Es, unhide Hl, unhide HE, rfl⟩⟩, B1.trans (D1.mono z1)⟩

end Go.Proofs.YtbdplgelkgngmaaGreatDoor
