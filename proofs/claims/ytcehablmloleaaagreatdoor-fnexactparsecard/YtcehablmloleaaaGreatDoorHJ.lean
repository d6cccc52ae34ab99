/-
  Parse, the model: the last operator outside brackets (written by mkhj.py). Own work.
-/
import Derived.Test.YtcehablmloleaaaGreatDoorMXAS
namespace Go.Proofs.YtcehablmloleaaaGreatDoor
open Go.RowKit
set_option linter.unusedVariables false

/-- how far the look for an operator is -/
def LaI (T : List Tok) (of : List (List UInt8)) (lo hi : Nat) (R : Int) (w : World) (va vd vi : Value) (wr : World) : Prop :=
  ∃ (k : Nat) (pe : Bool) (d acc : Int), lo ≤ k ∧ k ≤ hi ∧ va = .int .i64 acc ∧ vd = .int .i64 d ∧ vi = .int .i64 (k : Int) ∧ -(k : Int) ≤ d ∧ d ≤ k ∧ (k = lo → pe = false) ∧ (∀ j (hj : j < T.length), k = j + 1 → lo < k → pe = endT T[j]) ∧ (((T.take hi).drop k).foldl (stepL of) ⟨pe, d, k, acc⟩).acc = R ∧ Below w.heap.size w wr

theorem any_cons (x : List UInt8) (of : List (List UInt8)) (t : Tok) (k acc : Int) : (if (x :: of).any (fun y => see y t) then k else acc) = (if of.any (fun y => see y t) then k else if see x t then k else acc) := by
  rw [List.any_cons]
  cases see x t <;> cases of.any (fun y => see y t) <;> rfl

def LaJ (of : List (List UInt8)) (t : Tok) (k A : Int) (n : Nat) (w : World) (va vp : Value) (wi : World) : Prop :=
  ∃ (p : Nat) (av : Int), p ≤ n ∧ vp = .int .i64 (p : Int) ∧ va = .int .i64 av ∧ (if (of.drop p).any (fun x => see x t) then k else av) = A ∧ Below w.heap.size w wi

theorem laj {of : List (List UInt8)} {t : Tok} {k A av : Int} {n p : Nat} {w : World} (hpn : p < n) {x : List UInt8} (hdp : of.drop p = x :: of.drop (p + 1)) (haa : (if (of.drop p).any (fun x => see x t) then k else av) = A) (av' : Int) (w' : World) (hb : Below w.heap.size w w') (e : av' = if see x t then k else av) : LaJ of t k A n w (.int .i64 av') (.int .i64 ((p : Int) + 1)) w' := by
  refine ⟨p + 1, av', by omega, by rw [Int.natCast_add]; rfl, rfl, ?_, hb⟩
  rw [← haa, hdp, any_cons, e]

theorem ne_true {b : Bool} (h : b = false) : ¬ b = true := by rw [h]; decide

theorem lak {of : List (List UInt8)} {t : Tok} {k A av : Int} {n p : Nat} (hl : of.length = n) (hp : ¬ p < n) (haa : (if (of.drop p).any (fun x => see x t) then k else av) = A) : A = av := by
  rw [List.drop_eq_nil_of_le (by omega)] at haa
  exact haa.symm

theorem lt_step (n p : Nat) (h : p < n) : n - ((p : Int) + 1).toNat < n - (p : Int).toNat := by omega

set_option maxRecDepth 100000 in
set_option maxHeartbeats 12800000 in
theorem sLast_any {w : World} {nb ga c : Nat} {T : List Tok} (h : TkM w nb ga c T) (hl : T.length ≤ 4000) (lo hi : Nat) (hlo : lo ≤ hi) (hhi : hi ≤ T.length) (gb off n co : Nat) (of : List (List UInt8)) (hof : Strs w (some ⟨gb, off, none⟩) n co (of.map ofL)) :
    Calls Tryz.prog 57 #[.pointer (some ⟨nb, 0, none⟩), .int .i64 (lo : Int),   .int .i64 (hi : Int), .slice (some ⟨gb, off, none⟩) n co] w fun r w' => r = .returned (.int .i64 (((T.take hi).drop lo).foldl (stepL of) ⟨false, 0, lo, -1⟩).acc) ∧ Below w.heap.size w w' := by
  have HI := hide (fun (w' : World) (hb : Below w.heap.size w w') (i : Nat) (hi : i < T.length) (s : List UInt8) (sb : ByteArray) (hs : sb = ofL s) => is_any (h.below hb) i hi s sb hs)
  have HE := hide (fun (w' : World) (hb : Below w.heap.size w w') (i : Nat) (hi : i < T.length) => ends_any (h.below hb) i hi)
  have HO := hide (fun (w' : World) (hb : Below w.heap.size w w') (p : Nat) (hp : p < n) (hpo : p < of.length) => show w'.cell? ⟨gb, off + p, none⟩ = some (.string (ofL of[p])) from by
    obtain ⟨b, o, e, _, hc⟩ := (hof.below hb (Nat.le_refl _)).cells p hp
    injection e with e
    injection e with e1 e2
    subst e1 e2
    rw [hc, nth_eq _ _ (by simpa using hpo)]
    simp)
  have HS := hide (show LaI T of lo hi (((T.take hi).drop lo).foldl (stepL of) ⟨false, 0, lo, -1⟩).acc w (.int .i64 (-1)) (.int .i64 0) (.int .i64 (lo : Int)) w from ⟨lo, false, 0, -1, Nat.le_refl _, hlo, rfl, rfl, rfl, by omega, by omega, fun _ => rfl, fun j hj h1 h2 => by omega, rfl, Below.refl _ _⟩)
  generalize (((T.take hi).drop lo).foldl (stepL of) ⟨false, 0, lo, -1⟩).acc = R at HS ⊢
  have hn : n ≤ 9223372036854775807 := by have := hof.cap; have := hof.small; unfold maxLen at this; omega
  have HNL := hide (show of.length = n by have := hof.len; simp at this; omega)
  clear h hof
  go_enter Tryz.func57, Tryz.ntmps57
  go_wp2_with fail
  go_loopw [9, 10, 11] (fun va vd vi wr => LaI T of lo hi R w va vd vi wr) (fun _ _ vi _ => hi - (intOf vi).toNat)
  case atStart => exact unhide HS
  case round =>
    clear HS
    obtain ⟨k, pe, d, acc, h1, h2, rfl, rfl, rfl, h3, h4, hp1, hp2, hR, B1⟩ := hrel
    by_cases hk : k < hi
    · have ik : (k : Int) < (hi : Int) := by omega
      have hkT : k < T.length := by omega
      have HD := hide (show (T.take hi).drop k = T[k] :: (T.take hi).drop (k + 1) by rw [List.drop_eq_getElem_cons (by simp; omega)]; simp)
      have ed : wrap64 (d + 1) = d + 1 := by simp [wrap64]; omega
      have ed2 : wrap64 (d - 1) = d - 1 := by simp [wrap64]; omega
      have HIk := hide (fun (w' : World) (hb : Below w.heap.size w w') (s : List UInt8) => unhide HI w' hb k hkT s (ofL s) rfl)
      have HIs := hide (fun (w' : World) (hb : Below w.heap.size w w') (s : List UInt8) (sb : ByteArray) (hs : sb = ofL s) => unhide HI w' hb k hkT s sb hs)
      have HP1 := hide hp1
      have HP2 := hide hp2
      have HF := hide (fun (d' acc' : Int) (w' : World) (hb : Below w.heap.size w w') (e1 : dL d T[k] = d') (e2 : (if d' > 0 ∨ pe = false then acc else if of.any (fun x => see x T[k]) then (k : Int) else acc) = acc') (e3 : d' = d ∨ d' = d + 1 ∨ d' = d - 1) => show LaI T of lo hi R w (.int .i64 acc') (.int .i64 d') (.int .i64 ((k : Int) + 1)) w' from ⟨k + 1, endT T[k], d', acc', by omega, by omega, rfl, rfl, by rw [Int.natCast_add]; rfl, by omega, by omega, fun h => by omega, fun j hj h5 h6 => by
          have e : k = j := by omega
          subst e; rfl, by
          rw [← hR, unhide HD, List.foldl_cons, stepL, Int.natCast_add]
          dsimp only
          rw [e1, e2]
          rfl, hb⟩)
      have HM : Hid (hi - ((k : Int) + 1).toNat < hi - (k : Int).toNat) := hide (by omega)
      have Hk1 := hide (And.intro h1 (And.intro h2 (And.intro hk hkT)))
      generalize T[k] = t at HIk HIs HF
      clear hR h3 h4 hp1 hp2 HD h1 h2 hk hkT
      go_wp2_with fail
      refine (unhide HIk _ B1 kLpar).mono ?_
      rintro r w1 ⟨rfl, hb1⟩
      have B2 := B1.trans (hb1.mono B1.size)
      dsimp only
      cases s1 : see kLpar t
      case true =>
        have n3 := see_ne s1 (s' := kRpar) (by decide)
        have n4 := see_ne s1 (s' := kRbr) (by decide)
        have HDX := hide (dL_open (.inl s1) d)
        clear s1
        go_wp2_with fail
        rw [ed]
        refine (unhide HIk _ B2 kRpar).mono ?_
        rintro r w2 ⟨rfl, hbB3⟩
        have B3 := B2.trans (hbB3.mono B2.size)
        dsimp only
        rw [n3]
        go_wp2_with fail
        refine (unhide HIk _ B3 kRbr).mono ?_
        rintro r w3 ⟨rfl, hbB4⟩
        have B4 := B3.trans (hbB4.mono B3.size)
        dsimp only
        rw [n4]
        have HDL := hide (show dL d t = d + 1 from unhide HDX)
        by_cases hpos : (0 : Int) < d + 1
        · have HN := hide (unhide HF (d + 1) acc w3 B4 (unhide HDL) (by rw [if_pos (.inl hpos)]) (by omega))
          go_wp2_with fail
          exact ⟨by first | exact unhide HN | (rw [ed]; exact unhide HN) | (rw [ed2]; exact unhide HN), unhide HM⟩
        by_cases hkl : k = lo
        · have HN := hide (unhide HF (d + 1) acc w3 B4 (unhide HDL) (by rw [if_pos (.inr (unhide HP1 hkl))]) (by omega))
          have ekl : ((k : Int) == (lo : Int)) = true := by rw [hkl]; simp
          clear hkl
          go_wp2_with fail
          exact ⟨by first | exact unhide HN | (rw [ed]; exact unhide HN) | (rw [ed2]; exact unhide HN), unhide HM⟩
        have ekl : ((k : Int) == (lo : Int)) = false := by
          rw [beq_eq_false_iff_ne]
          omega
        obtain ⟨k0, hk0⟩ : ∃ k0, k = k0 + 1 := ⟨k - 1, by have := (unhide Hk1).1; omega⟩
        have HK0 := hide hk0
        have HKK := hide (show (k : Int) - 1 = (k0 : Int) by omega)
        have hk0T : k0 < T.length := by have := (unhide Hk1).2.2.2; omega
        have HPE := hide (unhide HP2 k0 hk0T hk0 (by have := (unhide Hk1).1; omega))
        have HEk := hide (fun (w' : World) (hb : Below w.heap.size w w') => unhide HE w' hb k0 hk0T)
        generalize endT T[k0] = pe' at HPE HEk
        clear hk0 hkl
        go_wp2_with fail
        rw [unhide HKK]
        refine (unhide HEk _ B4).mono ?_
        rintro r w9 ⟨rfl, hb9⟩
        have B9 := B4.trans (hb9.mono B4.size)
        dsimp only
        cases pe'
        · have HN := hide (unhide HF (d + 1) acc w9 B9 (unhide HDL) (by rw [if_pos (.inr (unhide HPE))]) (by omega))
          go_wp2_with fail
          exact ⟨by first | exact unhide HN | (rw [ed]; exact unhide HN) | (rw [ed2]; exact unhide HN), unhide HM⟩
        have HFF := hide (fun (acc' : Int) (w' : World) (hb : Below w.heap.size w w') (e : (if of.any (fun x => see x t) then (k : Int) else acc) = acc') => unhide HF (d + 1) acc' w' hb (unhide HDL) (by rw [if_neg (by rintro (h | h); omega; rw [unhide HPE] at h; cases h)]; exact e) (by omega))
        clear HF
        have HA0 := hide (show (if (of.drop 0).any (fun x => see x t) then (k : Int) else acc) = (if of.any (fun x => see x t) then (k : Int) else acc) from rfl)
        generalize (if of.any (fun x => see x t) then (k : Int) else acc) = A at HFF HA0
        clear hpos HDL HEk ed ed2
        go_wp2_with fail
        go_loopw [9, 13, 56] (fun va _ vp wi => LaJ of t (k : Int) A n w va vp wi) (fun _ _ vp _ => n - (intOf vp).toNat)
        case atStart => exact ⟨0, acc, Nat.zero_le _, rfl, rfl, unhide HA0, B9⟩
        case round =>
          clear HA0
          obtain ⟨p, av, hp, rfl, rfl, hA, B5⟩ := hrel
          have HAA := hide hA
          clear hA
          by_cases hpn : p < n
          · have ip : (p : Int) < (n : Int) := by omega
            have hpo : p < of.length := by have := unhide HNL; omega
            have hdp := List.drop_eq_getElem_cons hpo
            have hc := unhide HO wr B5 p hpn hpo
            obtain ⟨x, hx⟩ : ∃ x, x = of[p] := ⟨_, rfl⟩
            rw [← hx] at hc hdp
            have HDP := hide hdp
            clear hx hdp
            have HMP := hide (lt_step n p hpn)
            have HZ := hide (fun (av' : Int) (w' : World) (hb : Below w.heap.size w w') => laj (w := w) hpn (unhide HDP) (unhide HAA) av' w' hb)
            clear hpo
            go_wp2_with fail
            refine (unhide HIs _ B5 x _ rfl).mono ?_
            rintro r w10 ⟨rfl, hb10⟩
            have B10 := B5.trans (hb10.mono B5.size)
            dsimp only
            cases hsx : see x t
            · have HZZ := hide (unhide HZ av w10 B10 (if_neg (ne_true hsx)).symm)
              clear hsx
              go_wp2_with fail
              exact ⟨unhide HZZ, unhide HMP⟩
            · have HZZ := hide (unhide HZ k w10 B10 (if_pos hsx).symm)
              clear hsx
              go_wp2_with fail
              exact ⟨unhide HZZ, unhide HMP⟩
          · have ip : ¬ ((p : Int) < (n : Int)) := by omega
            have HN := hide (unhide HFF av _ B5 (lak (unhide HNL) hpn (unhide HAA)))
            clear hpn
            go_wp2_with fail
            exact ⟨unhide HN, unhide HM⟩
      have HS1 := hide s1
      clear s1
      go_wp2_with fail
      refine (unhide HIk _ B2 kLbr).mono ?_
      rintro r w2 ⟨rfl, hbB3⟩
      have B3 := B2.trans (hbB3.mono B2.size)
      dsimp only
      cases s2 : see kLbr t
      case true =>
        have n3 := see_ne s2 (s' := kRpar) (by decide)
        have n4 := see_ne s2 (s' := kRbr) (by decide)
        have HDX := hide (dL_open (.inr s2) d)
        clear s2
        go_wp2_with fail
        rw [ed]
        refine (unhide HIk _ B3 kRpar).mono ?_
        rintro r w3 ⟨rfl, hbB4⟩
        have B4 := B3.trans (hbB4.mono B3.size)
        dsimp only
        rw [n3]
        go_wp2_with fail
        refine (unhide HIk _ B4 kRbr).mono ?_
        rintro r w4 ⟨rfl, hbBX⟩
        have BX := B4.trans (hbBX.mono B4.size)
        dsimp only
        rw [n4]
        have HDL := hide (show dL d t = d + 1 from unhide HDX)
        by_cases hpos : (0 : Int) < d + 1
        · have HN := hide (unhide HF (d + 1) acc w4 BX (unhide HDL) (by rw [if_pos (.inl hpos)]) (by omega))
          go_wp2_with fail
          exact ⟨by first | exact unhide HN | (rw [ed]; exact unhide HN) | (rw [ed2]; exact unhide HN), unhide HM⟩
        by_cases hkl : k = lo
        · have HN := hide (unhide HF (d + 1) acc w4 BX (unhide HDL) (by rw [if_pos (.inr (unhide HP1 hkl))]) (by omega))
          have ekl : ((k : Int) == (lo : Int)) = true := by rw [hkl]; simp
          clear hkl
          go_wp2_with fail
          exact ⟨by first | exact unhide HN | (rw [ed]; exact unhide HN) | (rw [ed2]; exact unhide HN), unhide HM⟩
        have ekl : ((k : Int) == (lo : Int)) = false := by
          rw [beq_eq_false_iff_ne]
          omega
        obtain ⟨k0, hk0⟩ : ∃ k0, k = k0 + 1 := ⟨k - 1, by have := (unhide Hk1).1; omega⟩
        have HK0 := hide hk0
        have HKK := hide (show (k : Int) - 1 = (k0 : Int) by omega)
        have hk0T : k0 < T.length := by have := (unhide Hk1).2.2.2; omega
        have HPE := hide (unhide HP2 k0 hk0T hk0 (by have := (unhide Hk1).1; omega))
        have HEk := hide (fun (w' : World) (hb : Below w.heap.size w w') => unhide HE w' hb k0 hk0T)
        generalize endT T[k0] = pe' at HPE HEk
        clear hk0 hkl
        go_wp2_with fail
        rw [unhide HKK]
        refine (unhide HEk _ BX).mono ?_
        rintro r w9 ⟨rfl, hb9⟩
        have B9 := BX.trans (hb9.mono BX.size)
        dsimp only
        cases pe'
        · have HN := hide (unhide HF (d + 1) acc w9 B9 (unhide HDL) (by rw [if_pos (.inr (unhide HPE))]) (by omega))
          go_wp2_with fail
          exact ⟨by first | exact unhide HN | (rw [ed]; exact unhide HN) | (rw [ed2]; exact unhide HN), unhide HM⟩
        have HFF := hide (fun (acc' : Int) (w' : World) (hb : Below w.heap.size w w') (e : (if of.any (fun x => see x t) then (k : Int) else acc) = acc') => unhide HF (d + 1) acc' w' hb (unhide HDL) (by rw [if_neg (by rintro (h | h); omega; rw [unhide HPE] at h; cases h)]; exact e) (by omega))
        clear HF
        have HA0 := hide (show (if (of.drop 0).any (fun x => see x t) then (k : Int) else acc) = (if of.any (fun x => see x t) then (k : Int) else acc) from rfl)
        generalize (if of.any (fun x => see x t) then (k : Int) else acc) = A at HFF HA0
        clear hpos HDL HEk ed ed2
        go_wp2_with fail
        go_loopw [9, 13, 56] (fun va _ vp wi => LaJ of t (k : Int) A n w va vp wi) (fun _ _ vp _ => n - (intOf vp).toNat)
        case atStart => exact ⟨0, acc, Nat.zero_le _, rfl, rfl, unhide HA0, B9⟩
        case round =>
          clear HA0
          obtain ⟨p, av, hp, rfl, rfl, hA, B5⟩ := hrel
          have HAA := hide hA
          clear hA
          by_cases hpn : p < n
          · have ip : (p : Int) < (n : Int) := by omega
            have hpo : p < of.length := by have := unhide HNL; omega
            have hdp := List.drop_eq_getElem_cons hpo
            have hc := unhide HO wr B5 p hpn hpo
            obtain ⟨x, hx⟩ : ∃ x, x = of[p] := ⟨_, rfl⟩
            rw [← hx] at hc hdp
            have HDP := hide hdp
            clear hx hdp
            have HMP := hide (lt_step n p hpn)
            have HZ := hide (fun (av' : Int) (w' : World) (hb : Below w.heap.size w w') => laj (w := w) hpn (unhide HDP) (unhide HAA) av' w' hb)
            clear hpo
            go_wp2_with fail
            refine (unhide HIs _ B5 x _ rfl).mono ?_
            rintro r w10 ⟨rfl, hb10⟩
            have B10 := B5.trans (hb10.mono B5.size)
            dsimp only
            cases hsx : see x t
            · have HZZ := hide (unhide HZ av w10 B10 (if_neg (ne_true hsx)).symm)
              clear hsx
              go_wp2_with fail
              exact ⟨unhide HZZ, unhide HMP⟩
            · have HZZ := hide (unhide HZ k w10 B10 (if_pos hsx).symm)
              clear hsx
              go_wp2_with fail
              exact ⟨unhide HZZ, unhide HMP⟩
          · have ip : ¬ ((p : Int) < (n : Int)) := by omega
            have HN := hide (unhide HFF av _ B5 (lak (unhide HNL) hpn (unhide HAA)))
            clear hpn
            go_wp2_with fail
            exact ⟨unhide HN, unhide HM⟩
      have HS2 := hide s2
      clear s2
      go_wp2_with fail
      refine (unhide HIk _ B3 kRpar).mono ?_
      rintro r w3 ⟨rfl, hbB4⟩
      have B4 := B3.trans (hbB4.mono B3.size)
      dsimp only
      cases s3 : see kRpar t
      case true =>
        have HDX := hide (dL_close (.inl s3) d)
        clear s3
        have HDL := hide (show dL d t = d - 1 from unhide HDX)
        by_cases hpos : (0 : Int) < d - 1
        · have HN := hide (unhide HF (d - 1) acc w3 B4 (unhide HDL) (by rw [if_pos (.inl hpos)]) (by omega))
          go_wp2_with fail
          exact ⟨by first | exact unhide HN | (rw [ed]; exact unhide HN) | (rw [ed2]; exact unhide HN), unhide HM⟩
        by_cases hkl : k = lo
        · have HN := hide (unhide HF (d - 1) acc w3 B4 (unhide HDL) (by rw [if_pos (.inr (unhide HP1 hkl))]) (by omega))
          have ekl : ((k : Int) == (lo : Int)) = true := by rw [hkl]; simp
          clear hkl
          go_wp2_with fail
          exact ⟨by first | exact unhide HN | (rw [ed]; exact unhide HN) | (rw [ed2]; exact unhide HN), unhide HM⟩
        have ekl : ((k : Int) == (lo : Int)) = false := by
          rw [beq_eq_false_iff_ne]
          omega
        obtain ⟨k0, hk0⟩ : ∃ k0, k = k0 + 1 := ⟨k - 1, by have := (unhide Hk1).1; omega⟩
        have HK0 := hide hk0
        have HKK := hide (show (k : Int) - 1 = (k0 : Int) by omega)
        have hk0T : k0 < T.length := by have := (unhide Hk1).2.2.2; omega
        have HPE := hide (unhide HP2 k0 hk0T hk0 (by have := (unhide Hk1).1; omega))
        have HEk := hide (fun (w' : World) (hb : Below w.heap.size w w') => unhide HE w' hb k0 hk0T)
        generalize endT T[k0] = pe' at HPE HEk
        clear hk0 hkl
        go_wp2_with fail
        rw [unhide HKK]
        refine (unhide HEk _ B4).mono ?_
        rintro r w9 ⟨rfl, hb9⟩
        have B9 := B4.trans (hb9.mono B4.size)
        dsimp only
        cases pe'
        · have HN := hide (unhide HF (d - 1) acc w9 B9 (unhide HDL) (by rw [if_pos (.inr (unhide HPE))]) (by omega))
          go_wp2_with fail
          exact ⟨by first | exact unhide HN | (rw [ed]; exact unhide HN) | (rw [ed2]; exact unhide HN), unhide HM⟩
        have HFF := hide (fun (acc' : Int) (w' : World) (hb : Below w.heap.size w w') (e : (if of.any (fun x => see x t) then (k : Int) else acc) = acc') => unhide HF (d - 1) acc' w' hb (unhide HDL) (by rw [if_neg (by rintro (h | h); omega; rw [unhide HPE] at h; cases h)]; exact e) (by omega))
        clear HF
        have HA0 := hide (show (if (of.drop 0).any (fun x => see x t) then (k : Int) else acc) = (if of.any (fun x => see x t) then (k : Int) else acc) from rfl)
        generalize (if of.any (fun x => see x t) then (k : Int) else acc) = A at HFF HA0
        clear hpos HDL HEk ed ed2
        go_wp2_with fail
        go_loopw [9, 13, 56] (fun va _ vp wi => LaJ of t (k : Int) A n w va vp wi) (fun _ _ vp _ => n - (intOf vp).toNat)
        case atStart => exact ⟨0, acc, Nat.zero_le _, rfl, rfl, unhide HA0, B9⟩
        case round =>
          clear HA0
          obtain ⟨p, av, hp, rfl, rfl, hA, B5⟩ := hrel
          have HAA := hide hA
          clear hA
          by_cases hpn : p < n
          · have ip : (p : Int) < (n : Int) := by omega
            have hpo : p < of.length := by have := unhide HNL; omega
            have hdp := List.drop_eq_getElem_cons hpo
            have hc := unhide HO wr B5 p hpn hpo
            obtain ⟨x, hx⟩ : ∃ x, x = of[p] := ⟨_, rfl⟩
            rw [← hx] at hc hdp
            have HDP := hide hdp
            clear hx hdp
            have HMP := hide (lt_step n p hpn)
            have HZ := hide (fun (av' : Int) (w' : World) (hb : Below w.heap.size w w') => laj (w := w) hpn (unhide HDP) (unhide HAA) av' w' hb)
            clear hpo
            go_wp2_with fail
            refine (unhide HIs _ B5 x _ rfl).mono ?_
            rintro r w10 ⟨rfl, hb10⟩
            have B10 := B5.trans (hb10.mono B5.size)
            dsimp only
            cases hsx : see x t
            · have HZZ := hide (unhide HZ av w10 B10 (if_neg (ne_true hsx)).symm)
              clear hsx
              go_wp2_with fail
              exact ⟨unhide HZZ, unhide HMP⟩
            · have HZZ := hide (unhide HZ k w10 B10 (if_pos hsx).symm)
              clear hsx
              go_wp2_with fail
              exact ⟨unhide HZZ, unhide HMP⟩
          · have ip : ¬ ((p : Int) < (n : Int)) := by omega
            have HN := hide (unhide HFF av _ B5 (lak (unhide HNL) hpn (unhide HAA)))
            clear hpn
            go_wp2_with fail
            exact ⟨unhide HN, unhide HM⟩
      have HS3 := hide s3
      clear s3
      go_wp2_with fail
      refine (unhide HIk _ B4 kRbr).mono ?_
      rintro r w4 ⟨rfl, hbBX⟩
      have BX := B4.trans (hbBX.mono B4.size)
      dsimp only
      cases s4 : see kRbr t
      case true =>
        have HDX := hide (dL_close (.inr s4) d)
        clear s4
        have HDL := hide (show dL d t = d - 1 from unhide HDX)
        by_cases hpos : (0 : Int) < d - 1
        · have HN := hide (unhide HF (d - 1) acc w4 BX (unhide HDL) (by rw [if_pos (.inl hpos)]) (by omega))
          go_wp2_with fail
          exact ⟨by first | exact unhide HN | (rw [ed]; exact unhide HN) | (rw [ed2]; exact unhide HN), unhide HM⟩
        by_cases hkl : k = lo
        · have HN := hide (unhide HF (d - 1) acc w4 BX (unhide HDL) (by rw [if_pos (.inr (unhide HP1 hkl))]) (by omega))
          have ekl : ((k : Int) == (lo : Int)) = true := by rw [hkl]; simp
          clear hkl
          go_wp2_with fail
          exact ⟨by first | exact unhide HN | (rw [ed]; exact unhide HN) | (rw [ed2]; exact unhide HN), unhide HM⟩
        have ekl : ((k : Int) == (lo : Int)) = false := by
          rw [beq_eq_false_iff_ne]
          omega
        obtain ⟨k0, hk0⟩ : ∃ k0, k = k0 + 1 := ⟨k - 1, by have := (unhide Hk1).1; omega⟩
        have HK0 := hide hk0
        have HKK := hide (show (k : Int) - 1 = (k0 : Int) by omega)
        have hk0T : k0 < T.length := by have := (unhide Hk1).2.2.2; omega
        have HPE := hide (unhide HP2 k0 hk0T hk0 (by have := (unhide Hk1).1; omega))
        have HEk := hide (fun (w' : World) (hb : Below w.heap.size w w') => unhide HE w' hb k0 hk0T)
        generalize endT T[k0] = pe' at HPE HEk
        clear hk0 hkl
        go_wp2_with fail
        rw [unhide HKK]
        refine (unhide HEk _ BX).mono ?_
        rintro r w9 ⟨rfl, hb9⟩
        have B9 := BX.trans (hb9.mono BX.size)
        dsimp only
        cases pe'
        · have HN := hide (unhide HF (d - 1) acc w9 B9 (unhide HDL) (by rw [if_pos (.inr (unhide HPE))]) (by omega))
          go_wp2_with fail
          exact ⟨by first | exact unhide HN | (rw [ed]; exact unhide HN) | (rw [ed2]; exact unhide HN), unhide HM⟩
        have HFF := hide (fun (acc' : Int) (w' : World) (hb : Below w.heap.size w w') (e : (if of.any (fun x => see x t) then (k : Int) else acc) = acc') => unhide HF (d - 1) acc' w' hb (unhide HDL) (by rw [if_neg (by rintro (h | h); omega; rw [unhide HPE] at h; cases h)]; exact e) (by omega))
        clear HF
        have HA0 := hide (show (if (of.drop 0).any (fun x => see x t) then (k : Int) else acc) = (if of.any (fun x => see x t) then (k : Int) else acc) from rfl)
        generalize (if of.any (fun x => see x t) then (k : Int) else acc) = A at HFF HA0
        clear hpos HDL HEk ed ed2
        go_wp2_with fail
        go_loopw [9, 13, 56] (fun va _ vp wi => LaJ of t (k : Int) A n w va vp wi) (fun _ _ vp _ => n - (intOf vp).toNat)
        case atStart => exact ⟨0, acc, Nat.zero_le _, rfl, rfl, unhide HA0, B9⟩
        case round =>
          clear HA0
          obtain ⟨p, av, hp, rfl, rfl, hA, B5⟩ := hrel
          have HAA := hide hA
          clear hA
          by_cases hpn : p < n
          · have ip : (p : Int) < (n : Int) := by omega
            have hpo : p < of.length := by have := unhide HNL; omega
            have hdp := List.drop_eq_getElem_cons hpo
            have hc := unhide HO wr B5 p hpn hpo
            obtain ⟨x, hx⟩ : ∃ x, x = of[p] := ⟨_, rfl⟩
            rw [← hx] at hc hdp
            have HDP := hide hdp
            clear hx hdp
            have HMP := hide (lt_step n p hpn)
            have HZ := hide (fun (av' : Int) (w' : World) (hb : Below w.heap.size w w') => laj (w := w) hpn (unhide HDP) (unhide HAA) av' w' hb)
            clear hpo
            go_wp2_with fail
            refine (unhide HIs _ B5 x _ rfl).mono ?_
            rintro r w10 ⟨rfl, hb10⟩
            have B10 := B5.trans (hb10.mono B5.size)
            dsimp only
            cases hsx : see x t
            · have HZZ := hide (unhide HZ av w10 B10 (if_neg (ne_true hsx)).symm)
              clear hsx
              go_wp2_with fail
              exact ⟨unhide HZZ, unhide HMP⟩
            · have HZZ := hide (unhide HZ k w10 B10 (if_pos hsx).symm)
              clear hsx
              go_wp2_with fail
              exact ⟨unhide HZZ, unhide HMP⟩
          · have ip : ¬ ((p : Int) < (n : Int)) := by omega
            have HN := hide (unhide HFF av _ B5 (lak (unhide HNL) hpn (unhide HAA)))
            clear hpn
            go_wp2_with fail
            exact ⟨unhide HN, unhide HM⟩
      have HDX := hide (show dL d t = d by simp [dL, opnT, clsT, unhide HS1, unhide HS2, unhide HS3, s4])
      clear s4
      have HDL := hide (show dL d t = d from unhide HDX)
      by_cases hpos : (0 : Int) < d
      · have HN := hide (unhide HF (d) acc w4 BX (unhide HDL) (by rw [if_pos (.inl hpos)]) (by omega))
        go_wp2_with fail
        exact ⟨by first | exact unhide HN | (rw [ed]; exact unhide HN) | (rw [ed2]; exact unhide HN), unhide HM⟩
      by_cases hkl : k = lo
      · have HN := hide (unhide HF (d) acc w4 BX (unhide HDL) (by rw [if_pos (.inr (unhide HP1 hkl))]) (by omega))
        have ekl : ((k : Int) == (lo : Int)) = true := by rw [hkl]; simp
        clear hkl
        go_wp2_with fail
        exact ⟨by first | exact unhide HN | (rw [ed]; exact unhide HN) | (rw [ed2]; exact unhide HN), unhide HM⟩
      have ekl : ((k : Int) == (lo : Int)) = false := by
        rw [beq_eq_false_iff_ne]
        omega
      obtain ⟨k0, hk0⟩ : ∃ k0, k = k0 + 1 := ⟨k - 1, by have := (unhide Hk1).1; omega⟩
      have HK0 := hide hk0
      have HKK := hide (show (k : Int) - 1 = (k0 : Int) by omega)
      have hk0T : k0 < T.length := by have := (unhide Hk1).2.2.2; omega
      have HPE := hide (unhide HP2 k0 hk0T hk0 (by have := (unhide Hk1).1; omega))
      have HEk := hide (fun (w' : World) (hb : Below w.heap.size w w') => unhide HE w' hb k0 hk0T)
      generalize endT T[k0] = pe' at HPE HEk
      clear hk0 hkl
      go_wp2_with fail
      rw [unhide HKK]
      refine (unhide HEk _ BX).mono ?_
      rintro r w9 ⟨rfl, hb9⟩
      have B9 := BX.trans (hb9.mono BX.size)
      dsimp only
      cases pe'
      · have HN := hide (unhide HF (d) acc w9 B9 (unhide HDL) (by rw [if_pos (.inr (unhide HPE))]) (by omega))
        go_wp2_with fail
        exact ⟨by first | exact unhide HN | (rw [ed]; exact unhide HN) | (rw [ed2]; exact unhide HN), unhide HM⟩
      have HFF := hide (fun (acc' : Int) (w' : World) (hb : Below w.heap.size w w') (e : (if of.any (fun x => see x t) then (k : Int) else acc) = acc') => unhide HF (d) acc' w' hb (unhide HDL) (by rw [if_neg (by rintro (h | h); omega; rw [unhide HPE] at h; cases h)]; exact e) (by omega))
      clear HF
      have HA0 := hide (show (if (of.drop 0).any (fun x => see x t) then (k : Int) else acc) = (if of.any (fun x => see x t) then (k : Int) else acc) from rfl)
      generalize (if of.any (fun x => see x t) then (k : Int) else acc) = A at HFF HA0
      clear hpos HDL HEk ed ed2
      go_wp2_with fail
      go_loopw [9, 13, 56] (fun va _ vp wi => LaJ of t (k : Int) A n w va vp wi) (fun _ _ vp _ => n - (intOf vp).toNat)
      case atStart => exact ⟨0, acc, Nat.zero_le _, rfl, rfl, unhide HA0, B9⟩
      case round =>
        clear HA0
        obtain ⟨p, av, hp, rfl, rfl, hA, B5⟩ := hrel
        have HAA := hide hA
        clear hA
        by_cases hpn : p < n
        · have ip : (p : Int) < (n : Int) := by omega
          have hpo : p < of.length := by have := unhide HNL; omega
          have hdp := List.drop_eq_getElem_cons hpo
          have hc := unhide HO wr B5 p hpn hpo
          obtain ⟨x, hx⟩ : ∃ x, x = of[p] := ⟨_, rfl⟩
          rw [← hx] at hc hdp
          have HDP := hide hdp
          clear hx hdp
          have HMP := hide (lt_step n p hpn)
          have HZ := hide (fun (av' : Int) (w' : World) (hb : Below w.heap.size w w') => laj (w := w) hpn (unhide HDP) (unhide HAA) av' w' hb)
          clear hpo
          go_wp2_with fail
          refine (unhide HIs _ B5 x _ rfl).mono ?_
          rintro r w10 ⟨rfl, hb10⟩
          have B10 := B5.trans (hb10.mono B5.size)
          dsimp only
          cases hsx : see x t
          · have HZZ := hide (unhide HZ av w10 B10 (if_neg (ne_true hsx)).symm)
            clear hsx
            go_wp2_with fail
            exact ⟨unhide HZZ, unhide HMP⟩
          · have HZZ := hide (unhide HZ k w10 B10 (if_pos hsx).symm)
            clear hsx
            go_wp2_with fail
            exact ⟨unhide HZZ, unhide HMP⟩
        · have ip : ¬ ((p : Int) < (n : Int)) := by omega
          have HN := hide (unhide HFF av _ B5 (lak (unhide HNL) hpn (unhide HAA)))
          clear hpn
          go_wp2_with fail
          exact ⟨unhide HN, unhide HM⟩
    · have ik : ¬ ((k : Int) < (hi : Int)) := by omega
      have HN := hide (show R = acc by rw [← hR, List.drop_eq_nil_of_le (by simp; omega)]; rfl)
      clear hR hk hp1 hp2
      go_wp2_with fail
      go_ret
      exact ⟨by rw [unhide HN]; rfl, B1⟩

end Go.Proofs.YtcehablmloleaaaGreatDoor
