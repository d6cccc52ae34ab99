/-
  The program's verifier: the states that are known. Own work.
-/
import Derived.Test.YteefbljehlepjaaDoorYJ
namespace Go.Proofs.YteefbljehlepjaaDoor
open Go.RowKit Go.Lib
set_option linter.unusedVariables false

def ptV (o : Option Nat) : Value := .pointer (o.map fun q => ⟨q, 0, none⟩)

/-- the known states in memory -/
structure Kn (w : World) (lo kb : Nat) (K : List (Option Vs)) (pt : List (Option Nat)) : Prop where
  row : Row w kb (pt.map ptV).toArray 78
  len : pt.length = K.length
  low : kb < lo
  there : ∀ j s, K.getD j none = some s → ∃ q, pt.getD j none = some q ∧ StAt w q s ∧ StLo lo w q
  not : ∀ j, K.getD j none = none → pt.getD j none = none

theorem Kn.below {w w' : World} {lo kb B : Nat} {K : List (Option Vs)} {pt : List (Option Nat)} (h : Kn w lo kb K pt) (hb : Below B w w') (hB : w.heap.size ≤ B) : Kn w' lo kb K pt :=
  ⟨h.row.after hb hB, h.len, h.low, fun j s hj => by
    obtain ⟨q, h1, h2, h3⟩ := h.there j s hj
    exact ⟨q, h1, h2.below hb hB, h3.below hb hB⟩, h.not⟩

/-- the cell of a place -/
theorem Kn.at {w : World} {lo kb : Nat} {K : List (Option Vs)} {pt : List (Option Nat)} (h : Kn w lo kb K pt) (j : Nat) (hj : j < K.length) : w.cell? ⟨kb, j, none⟩ = some (ptV (pt.getD j none)) := by
  have hl : j < pt.length := by rw [h.len]; exact hj
  have := h.row.cell j
  rw [this]
  simp [hl, List.getD]

/-- a state is made known -/
theorem Kn.set {w : World} {lo kb : Nat} {K : List (Option Vs)} {pt : List (Option Nat)} (h : Kn w lo kb K pt) (n q : Nat) (t : Vs) (hs : StAt w q t) (hl : StLo lo w q) : Kn (w.setCell ⟨kb, n, none⟩ (.pointer (some ⟨q, 0, none⟩))) lo kb (K.set n (some t)) (pt.set n (some q)) where
  row := by
    have R := h.row.set n (.pointer (some ⟨q, 0, none⟩))
    have e : ((pt.map ptV).toArray.setIfInBounds n (.pointer (some ⟨q, 0, none⟩))) = ((pt.set n (some q)).map ptV).toArray := by
      rw [List.setIfInBounds_toArray, List.map_set]
      rfl
    rw [← e]
    exact R
  len := by simp [h.len]
  low := h.low
  there := fun j s hj => by
    by_cases e : n = j
    · subst e
      by_cases hn : n < K.length
      · rw [List.getD, List.getElem?_set_self hn] at hj
        simp only [Option.getD_some, Option.some.injEq] at hj
        subst hj
        refine ⟨q, ?_, hs.far hl _ _ h.low⟩
        rw [List.getD, List.getElem?_set_self (by rw [h.len]; exact hn)]
        rfl
      · rw [List.getD, List.getElem?_eq_none (by simp; omega)] at hj
        cases hj
    · rw [List.getD, List.getElem?_set_ne e] at hj
      obtain ⟨q', h1, h2, h3⟩ := h.there j s hj
      refine ⟨q', ?_, h2.far h3 _ _ h.low⟩
      rw [List.getD, List.getElem?_set_ne e]
      exact h1
  not := fun j hj => by
    by_cases e : n = j
    · subst e
      by_cases hn : n < K.length
      · rw [List.getD, List.getElem?_set_self hn] at hj
        cases hj
      · rw [List.getD, List.getElem?_eq_none (by simp [h.len]; omega)]
        rfl
    · rw [List.getD, List.getElem?_set_ne e] at hj
      rw [List.getD, List.getElem?_set_ne e]
      exact h.not j hj

theorem Ints.far {w : World} {x : Option Addr} {n c lo : Nat} {L : List Int} (hi : Ints w x n c L) (hx : ∀ ad, x = some ad → lo ≤ ad.block) (p : Addr) (v : Value) (hp : p.block < lo) : Ints (w.setCell p v) x n c L := ⟨hi.len, hi.small, fun j hj => by
    obtain ⟨b', off, ha, hl', c0⟩ := hi.cells j hj
    have hb' := hx _ ha
    refine ⟨b', off, ha, by simpa using hl', ?_⟩
    rw [World.cell?_of_block (heap_setCell_other w p b' v (by show b' ≠ p.block; simp only at hb'; omega))]
    exact c0⟩

theorem goV_end (t : Vs) (n : Nat) (ns : List Nat) (K : List (Option Vs)) (h : n = K.length) : goV t (n :: ns) K = (8, K) := by rw [goV, if_pos h]

theorem goV_new (t : Vs) (n : Nat) (ns : List Nat) (K : List (Option Vs)) (h : ¬ n = K.length) (hk : K.getD n none = none) : goV t (n :: ns) K = goV t ns (K.set n (some t)) := by rw [goV, if_neg h, hk]

theorem goV_same (t : Vs) (n : Nat) (ns : List Nat) (K : List (Option Vs)) (u : Vs) (h : ¬ n = K.length) (hk : K.getD n none = some u) (he : u = t) : goV t (n :: ns) K = goV t ns K := by rw [goV, if_neg h, hk]; simp only; rw [if_pos he]

theorem goV_other (t : Vs) (n : Nat) (ns : List Nat) (K : List (Option Vs)) (u : Vs) (h : ¬ n = K.length) (hk : K.getD n none = some u) (he : ¬ u = t) : goV t (n :: ns) K = (9, K) := by rw [goV, if_neg h, hk]; simp only; rw [if_neg he]

def GoA (w : World) (base vb lo kb : Nat) (cs : Array Value) (r : Int × List (Option Vs)) (e : Ending) (w' : World) : Prop := e = .returned (.int .i64 r.1) ∧ ∃ pt, Kn w' lo kb r.2 pt ∧ Row w' vb cs 54 ∧ Below base w w'

set_option maxRecDepth 100000 in
set_option maxHeartbeats 6400000 in
theorem goOn_any (base vb kb lo q k : Nat) (a b : Option Addr) (n c m d : Nat) (v1 bd : Value) (I : List Is1) (K : List (Option Vs)) (pt : List (Option Nat)) (t : Vs) (w : World) (hR : Row w vb #[.slice a n c, v1, .slice b m d, .slice (some ⟨kb, 0, none⟩) m m, bd] 54) (hI : Iss w b m d I) (hk : k < m) (hop : 1 ≤ (I.getD k ⟨0, 0⟩).op ∧ (I.getD k ⟨0, 0⟩).op ≤ 25) (harg : 0 ≤ (I.getD k ⟨0, 0⟩).arg) (hK : Kn w lo kb K pt) (hm : K.length = m) (hT : StAt w q t) (hL : StLo lo w q) (hns : ∀ x ∈ nextV k (I.getD k ⟨0, 0⟩), x ≤ m) (hvl : base ≤ vb) (hkl : base ≤ kb) (hvk : vb ≠ kb) :
    Calls Tryd.prog 38 #[.pointer (some ⟨vb, 0, none⟩), .int .i64 k, .pointer (some ⟨q, 0, none⟩)] w fun e w' => GoA w base vb lo kb #[.slice a n c, v1, .slice b m d, .slice (some ⟨kb, 0, none⟩) m m, bd] (goV t (nextV k (I.getD k ⟨0, 0⟩)) K) e w' := by
  have HN := hide (nextPlaces_any vb a b n c m d v1 (.slice (some ⟨kb, 0, none⟩) m m) bd I k w hR hI hk hop harg)
  have hms := hI.small
  generalize nextV k (I.getD k ⟨0, 0⟩) = ns at HN hns
  have Hns := hide hns
  have Hm := hide hm
  have Hvk := hide hvk
  clear hI hop harg hk hns hm hvk
  go_enter Tryd.func38, Tryd.ntmps38
  go_wp2_with (first | (go_at_call 54; refine (unhide HN).mono ?_; rintro e w1 ⟨x, c', rfl, i1, hx1, hb1⟩) | fail)
  have hkb := hK.row.lt
  have hvb := hR.lt
  have hnsl := i1.small
  have Hx := hide hx1
  have HI1 := hide i1
  have HK1 := hide (hK.below hb1 (Nat.le_refl _))
  have HR1 := hide (hR.after hb1 (Nat.le_refl _))
  have HT1 := hide (hT.below hb1 (Nat.le_refl _))
  have HL1 := hide (hL.below hb1 (Nat.le_refl _))
  have HB1 := hide (hb1.mono (show base ≤ w.heap.size by omega))
  clear hx1 i1 hb1 hK hR hT hL
  go_loopw [13] (fun i wr => ∃ (j : Nat) (ns' : List Nat) (K' : List (Option Vs)) (pt' : List (Option Nat)), i = .int .i64 j ∧ Hid (ns.drop j = ns') ∧ j ≤ ns.length ∧ Hid (goV t ns' K' = goV t ns K) ∧ Hid (K'.length = m) ∧ Kn wr lo kb K' pt' ∧ Row wr vb #[.slice a n c, v1, .slice b m d, .slice (some ⟨kb, 0, none⟩) m m, bd] 54 ∧ StAt wr q t ∧ StLo lo wr q ∧ Ints wr x ns.length c' (ns.map Int.ofNat) ∧ Below base w wr) (fun i _ => ns.length - (RowKit.intOf i).toNat)
  case atStart => exact ⟨0, ns, K, pt, rfl, hide rfl, Nat.zero_le _, hide rfl, Hm, unhide HK1, unhide HR1, unhide HT1, unhide HL1, unhide HI1, unhide HB1⟩
  case round =>
    obtain ⟨j, ns', K', pt', rfl, HD, hj, HG, HM', hK, hR, hT, hL, hI, hB⟩ := hrel
    have Hj := hide hj
    obtain ⟨q0, q1, q2, q3, q4⟩ := rowR hR
    cases ns' with
    | nil =>
      have e : ns.length = j := by have := congrArg List.length (unhide HD); simp at this; omega
      have He := hide e
      have hnl : ¬ ((j : Int) < (ns.length : Int)) := by omega
      clear hj e
      go_wp2_with fail
      go_ret
      rw [← unhide HG]
      exact ⟨rfl, pt', hK, hR, hB⟩
    | cons n0 ns' =>
      have hjl : j < ns.length := by
        have := congrArg List.length (unhide HD)
        simp at this
        omega
      have hn0 : ns[j] = n0 := by
        have := congrArg (·[0]?) (unhide HD)
        simpa [List.getElem?_eq_getElem hjl] using this
      have HD2 := hide (show ns.drop (j + 1) = ns' by
        have := congrArg List.tail (unhide HD)
        simpa using this)
      have hmem : n0 ≤ m := unhide Hns n0 (hn0 ▸ List.getElem_mem hjl)
      obtain ⟨bx, ox, hx, hbl, cx⟩ := hI.cells j (by simpa using hjl)
      have cx' : wr.cell? ⟨bx, ox + j, none⟩ = some (.int .i64 (n0 : Int)) := by rw [cx]; simp [hn0]
      have Hjl := hide hjl
      have ilt : (j : Int) < (ns.length : Int) := by omega
      subst hx
      clear cx hj hn0
      by_cases hend : n0 = m
      · have HX := hide (goV_end t n0 ns' K' (by rw [unhide HM']; exact hend))
        have eb : ((n0 : Int) == (m : Int)) = true := by rw [hend]; simp
        clear hend hmem hjl
        go_wp2_with fail
        go_ret
        rw [← unhide HG, unhide HX]
        exact ⟨rfl, pt', hK, hR, hB⟩
      · have eb : ((n0 : Int) == (m : Int)) = false := beq_eq_false_iff_ne.2 (by omega)
        have inm : (n0 : Int) < (m : Int) := by omega
        have hne : ¬ n0 = K'.length := by rw [unhide HM']; exact hend
        have cK := hK.at n0 (by rw [unhide HM']; omega)
        cases hk : K'.getD n0 none with
        | none =>
          have HX := hide (goV_new t n0 ns' K' hne hk)
          rw [hK.not n0 hk] at cK
          have HS := hide (hK.set n0 q t hT hL)
          have HRS := hide (hR.setFar (p := ⟨kb, n0, none⟩) (unhide Hvk) (.pointer (some ⟨q, 0, none⟩)))
          have HTS := hide (hT.far hL ⟨kb, n0, none⟩ (.pointer (some ⟨q, 0, none⟩)) hK.low)
          have HIS := hide (hI.far (lo := w.heap.size) (unhide Hx) ⟨kb, n0, none⟩ (.pointer (some ⟨q, 0, none⟩)) hkb)
          have HBS := hide (hB.setCell (p := ⟨kb, n0, none⟩) hkl (.pointer (some ⟨q, 0, none⟩)))
          have cf := hK.row.frozen n0
          have cK' : wr.cell? ⟨kb, n0, none⟩ = some (.pointer none) := cK
          clear hend hmem hne hk hjl cK hK hR hT hL hI hB
          go_wp2_with fail
          have hjs : j < ns.length := unhide Hjl
          go_roundw
          case rel => exact ⟨j + 1, ns', _, _, by go_num, HD2, hjs, hide ((unhide HX).symm.trans (unhide HG)), hide (by rw [List.length_set]; exact unhide HM'), unhide HS, unhide HRS, (unhide HTS).1, (unhide HTS).2, unhide HIS, unhide HBS⟩
          case measure => simp [RowKit.intOf]; omega
        | some u =>
          obtain ⟨q', hq', hS', hL'⟩ := hK.there n0 u hk
          rw [hq'] at cK
          have HE := hide (equals_any q' q u t wr hS' hT)
          have cK' : wr.cell? ⟨kb, n0, none⟩ = some (.pointer (some ⟨q', 0, none⟩)) := cK
          by_cases he : u = t
          · have HX := hide (goV_same t n0 ns' K' u hne hk he)
            rw [decide_eq_true he] at HE
            clear hend hmem hne hk hjl cK he
            go_wp2_with (first | (go_at_call 55; with_reducible refine (unhide HE).mono ?_; rintro e w5 ⟨rfl, hb5⟩) | fail)
            have hjs : j < ns.length := unhide Hjl
            have hb5' := hb5.mono (show base ≤ wr.heap.size by have := hB.size; omega)
            go_roundw
            case rel => exact ⟨j + 1, ns', K', pt', by go_num, HD2, hjs, hide ((unhide HX).symm.trans (unhide HG)), HM', hK.below hb5 (Nat.le_refl _), hR.after hb5 (Nat.le_refl _), hT.below hb5 (Nat.le_refl _), hL.below hb5 (Nat.le_refl _), hI.below hb5 (Nat.le_refl _), hB.trans hb5'⟩
            case measure => simp [RowKit.intOf]; omega
          · have HX := hide (goV_other t n0 ns' K' u hne hk he)
            rw [decide_eq_false he] at HE
            clear hend hmem hne hk hjl cK he
            go_wp2_with (first | (go_at_call 55; with_reducible refine (unhide HE).mono ?_; rintro e w5 ⟨rfl, hb5⟩) | fail)
            have hb5' := hb5.mono (show base ≤ wr.heap.size by have := hB.size; omega)
            go_ret
            rw [← unhide HG, unhide HX]
            exact ⟨rfl, pt', hK.below hb5 (Nat.le_refl _), hR.after hb5 (Nat.le_refl _), hB.trans hb5'⟩

end Go.Proofs.YteefbljehlepjaaDoor
