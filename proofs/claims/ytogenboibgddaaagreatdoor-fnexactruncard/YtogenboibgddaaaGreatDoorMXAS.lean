/-
  YJ, YK, YL. Own work.
-/
import Derived.Test.YtogenboibgddaaaGreatDoorYI
import Derived.BigQuiet
import Derived.Deep.QuietTactic
import Derived.Deep.OwnRows
namespace Go.Proofs.YtogenboibgddaaaGreatDoor
open Go.RowKit Go.Lib
set_option linter.unusedVariables false

/-- the state behind an instruction -/
theorem behind_any (vb : Nat) (a : Option Addr) (n c : Nat) (v1 v2 v3 v4 : Value) (P : List Vl) (i : Is1) (q : Nat) (s : Vs) (aT : Addr) (w : World) (hR : Row w vb #[.slice a n c, v1, v2, v3, v4] 101) (hP : Vls w a n c P) (h : StAt w q s) (hv : Vok w aT) (h0 : 1 ≤ i.op) (h1 : i.op ≤ 25) (hp : popV i.op ≤ s.stack.length) (ha : argOk n s.slots.length i) (hS : s.slots.length ≤ 600) (hH : s.stack.length ≤ 200) :
    Calls Tryz.prog 82 #[.pointer (some ⟨vb, 0, none⟩), .agg #[.int .i64 i.op, .int .i64 i.arg], .pointer (some ⟨q, 0, none⟩)] w fun e w' => StA w q (behindV (P.map Vl.kind) i s) e w' := by
  by_cases hl : i.op = 4 ∨ pushV (P.map Vl.kind) i s = 0
  · exact behind_low vb a n c v1 v2 v3 v4 P i q s aT w hR hP h hv h0 h1 hp ha hS hH hl
  · exact behind_up vb a n c v1 v2 v3 v4 P i q s aT w hR hP h hv h0 h1 hp ha hS hH (fun e => hl (.inl e)) (fun e => hl (.inr e))

/-- numbers laid out anew -/
theorem ints_new (w : World) (B : Nat) (hB : w.heap.size = B) (L : List Int) (t : TypeId) (c : Nat) (hs : L.length ≤ 1048576) : Ints (w.alloc (.cells (L.map (Value.int .i64)).toArray t)) (some ⟨B, 0, none⟩) L.length c L := by
  subst hB
  exact ⟨rfl, hs, fun j hj => ⟨w.heap.size, 0, rfl, by simp, by
    have h := (Row.new w (L.map (Value.int .i64)).toArray t).cell j
    rw [Nat.zero_add, h]
    simp [hj]⟩⟩

theorem vs_eq (s t : Vs) : decide (s = t) = (decide (s.stack = t.stack) && decide (s.slots = t.slots)) := by
  obtain ⟨a, b⟩ := s
  obtain ⟨c, d⟩ := t
  simp

set_option maxRecDepth 100000 in
set_option maxHeartbeats 3200000 in
theorem equals_any (q r : Nat) (s t : Vs) (w : World) (h : StAt w q s) (ht : StAt w r t) :
    Calls Tryz.prog 109 #[.pointer (some ⟨q, 0, none⟩), .pointer (some ⟨r, 0, none⟩)] w fun e w' => e = .returned (.bool (decide (s = t))) ∧ Below w.heap.size w w' := by
  obtain ⟨a, n, c, b, m, d, R, h1, h2, _⟩ := h
  obtain ⟨a', n', c', b', m', d', R', h1', h2', _⟩ := ht
  obtain ⟨q0, q1⟩ := rowS R
  obtain ⟨r0, r1⟩ := rowS R'
  have hql := R.lt
  have hrl := R'.lt
  have HX := hide (vs_eq s t)
  have HE1 := hide (fun n0 => equalI_q a a' n c n' c' s.stack t.stack (w.drewN n0) (h1.below (below_drewM w n0) (Nat.le_refl _)) (h1'.below (below_drewM w n0) (Nat.le_refl _)))
  have HE2 := hide (fun n0 => equalI_q b b' m d m' d' s.slots t.slots (w.drewN n0) (h2.below (below_drewM w n0) (Nat.le_refl _)) (h2'.below (below_drewM w n0) (Nat.le_refl _)))
  generalize decide (s.stack = t.stack) = b1 at HX HE1
  generalize decide (s.slots = t.slots) = b2 at HX HE2
  clear h1 h2 h1' h2' R R'
  cases b1
  all_goals
    go_enter Tryz.func109, Tryz.ntmps109
    go_wp2_with fail
    go_quiet (first
      | (go_at_call 117; with_reducible refine Calls.quiet_of (unhide HE1 _))
      | (go_at_call 117; with_reducible refine Calls.quiet_of (unhide HE2 _)))
    go_wp2_with fail
    go_ret
    rw [unhide HX]
    exact ⟨by simp, below_drewM _ _⟩

set_option maxRecDepth 100000 in
set_option maxHeartbeats 3200000 in
theorem nextPlaces_any (vb : Nat) (a b : Option Addr) (n c m d : Nat) (v1 kv bd : Value) (I : List Is1) (k : Nat) (w : World) (hR : Row w vb #[.slice a n c, v1, .slice b m d, kv, bd] 101) (hI : Iss w b m d I) (hk : k < m) (hop : 1 ≤ (I.getD k ⟨0, 0⟩).op ∧ (I.getD k ⟨0, 0⟩).op ≤ 25) (harg : 0 ≤ (I.getD k ⟨0, 0⟩).arg) :
    Calls Tryz.prog 108 #[.pointer (some ⟨vb, 0, none⟩), .int .i64 k] w fun e w' => ∃ x c', e = .returned (.slice x (nextV k (I.getD k ⟨0, 0⟩)).length c') ∧ Ints w' x (nextV k (I.getD k ⟨0, 0⟩)).length c' ((nextV k (I.getD k ⟨0, 0⟩)).map Int.ofNat) ∧ (∀ ad, x = some ad → w.heap.size ≤ ad.block) ∧ Below w.heap.size w w' := by
  obtain ⟨g, off, hb, hgl, i0, i1⟩ := hI.at k hk
  subst hb
  have hsm := hI.small
  obtain ⟨q0, q1, q2, q3, q4⟩ := rowR hR
  generalize I.getD k ⟨0, 0⟩ = i at i0 i1 hop harg
  obtain ⟨op, arg⟩ := i
  simp only at i0 i1 hop harg
  obtain ⟨arg, rfl⟩ := Int.eq_ofNat_of_zero_le harg
  have ik : (k : Int) < (m : Int) := by omega
  have B0 := (Below.refl w.heap.size w).alloc (Nat.le_refl _) (.cells #[.int .i64 op, .int .i64 arg] 87)
  obtain ⟨r0, r1⟩ := rowS (Row.new w #[.int .i64 op, .int .i64 arg] 87)
  clear hR hI
  by_cases h1 : op = 24 ∨ op = 25
  · have HX := hide (show nextV k ⟨op, arg⟩ = [] by unfold nextV; rw [if_pos h1])
    rw [unhide HX]
    rcases h1 with rfl | rfl
    all_goals
      go_enter Tryz.func108, Tryz.ntmps108
      go_wp2_with fail
      go_ret
      exact ⟨none, 0, rfl, ⟨rfl, by decide, fun j hj => absurd hj (by simp)⟩, fun ad e => (by cases e), B0⟩
  by_cases h2 : op = 22
  · have HX := hide (show nextV k ⟨op, arg⟩ = [arg] by unfold nextV; rw [if_neg h1, if_pos h2]; simp)
    rw [unhide HX]
    subst h2
    go_enter Tryz.func108, Tryz.ntmps108
    go_wp2_with fail
    go_ret
    exact ⟨some ⟨_, 0, none⟩, _, rfl, ints_new _ _ (by simp) [(arg : Int)] _ _ (by simp), fun ad e => (by cases e; exact Nat.le_succ _), B0.alloc (by simp) _⟩
  by_cases h3 : op = 23
  · have HX := hide (show nextV k ⟨op, arg⟩ = [k + 1, arg] by unfold nextV; rw [if_neg h1, if_neg h2, if_pos h3]; simp)
    rw [unhide HX]
    subst h3
    go_enter Tryz.func108, Tryz.ntmps108
    go_wp2_with fail
    go_ret
    exact ⟨some ⟨_, 0, none⟩, _, rfl, ints_new _ _ (by simp) [(k : Int) + 1, (arg : Int)] _ _ (by simp), fun ad e => (by cases e; exact Nat.le_succ _), B0.alloc (by simp) _⟩
  · have HX := hide (show nextV k ⟨op, arg⟩ = [k + 1] by unfold nextV; rw [if_neg h1, if_neg h2, if_neg h3])
    rw [unhide HX]
    have e24 : (op == 24) = false := beq_eq_false_iff_ne.2 (fun e => h1 (.inl e))
    have e25 : (op == 25) = false := beq_eq_false_iff_ne.2 (fun e => h1 (.inr e))
    have e22 : (op == 22) = false := beq_eq_false_iff_ne.2 h2
    have e23 : (op == 23) = false := beq_eq_false_iff_ne.2 h3
    go_enter Tryz.func108, Tryz.ntmps108
    go_wp2_with fail
    go_ret
    exact ⟨some ⟨_, 0, none⟩, _, rfl, ints_new _ _ (by simp) [(k : Int) + 1] _ _ (by simp), fun ad e => (by cases e; exact Nat.le_succ _), B0.alloc (by simp) _⟩

end Go.Proofs.YtogenboibgddaaaGreatDoor

namespace Go.Proofs.YtogenboibgddaaaGreatDoor
open Go.RowKit Go.Lib
set_option linter.unusedVariables false

def ptV (o : Option Nat) : Value := .pointer (o.map fun q => ⟨q, 0, none⟩)

/-- the known states in memory -/
structure Kn (w : World) (lo kb : Nat) (K : List (Option Vs)) (pt : List (Option Nat)) : Prop where
  row : Row w kb (pt.map ptV).toArray 130
  len : pt.length = K.length
  low : kb < lo
  there : ∀ j s, K.getD j none = some s → ∃ q, pt.getD j none = some q ∧ StAt w q s ∧ StLo lo w q
  not : ∀ j, K.getD j none = none → pt.getD j none = none

theorem Kn.below {w w' : World} {lo kb B : Nat} {K : List (Option Vs)} {pt : List (Option Nat)} (h : Kn w lo kb K pt) (hb : Below B w w') (hB : w.heap.size ≤ B) : Kn w' lo kb K pt :=
  ⟨h.row.after hb hB, h.len, h.low, fun j s hj => by
    obtain ⟨q, h1, h2, h3⟩ := h.there j s hj
    exact ⟨q, h1, h2.below hb hB, h3.below hb hB⟩, h.not⟩

/-- the cell of a place -/
theorem Kn.at {w : World} {lo kb : Nat} {K : List (Option Vs)} {pt : List (Option Nat)} (h : Kn w lo kb K pt) (j : Nat) (hj : j < K.length) : w.cell? ⟨kb, j, none⟩ = some (ptV (pt.getD j none)) := by
  have hl : j < pt.length := by rw [h.len]; exact hj
  have := h.row.cell j
  rw [this]
  simp [hl, List.getD]

/-- a state is made known -/
theorem Kn.set {w : World} {lo kb : Nat} {K : List (Option Vs)} {pt : List (Option Nat)} (h : Kn w lo kb K pt) (n q : Nat) (t : Vs) (hs : StAt w q t) (hl : StLo lo w q) : Kn (w.setCell ⟨kb, n, none⟩ (.pointer (some ⟨q, 0, none⟩))) lo kb (K.set n (some t)) (pt.set n (some q)) where
  row := by
    have R := h.row.set n (.pointer (some ⟨q, 0, none⟩))
    have e : ((pt.map ptV).toArray.setIfInBounds n (.pointer (some ⟨q, 0, none⟩))) = ((pt.set n (some q)).map ptV).toArray := by
      rw [List.setIfInBounds_toArray, List.map_set]
      rfl
    rw [← e]
    exact R
  len := by simp [h.len]
  low := h.low
  there := fun j s hj => by
    by_cases e : n = j
    · subst e
      by_cases hn : n < K.length
      · rw [List.getD, List.getElem?_set_self hn] at hj
        simp only [Option.getD_some, Option.some.injEq] at hj
        subst hj
        refine ⟨q, ?_, hs.far hl _ _ h.low⟩
        rw [List.getD, List.getElem?_set_self (by rw [h.len]; exact hn)]
        rfl
      · rw [List.getD, List.getElem?_eq_none (by simp; omega)] at hj
        cases hj
    · rw [List.getD, List.getElem?_set_ne e] at hj
      obtain ⟨q', h1, h2, h3⟩ := h.there j s hj
      refine ⟨q', ?_, h2.far h3 _ _ h.low⟩
      rw [List.getD, List.getElem?_set_ne e]
      exact h1
  not := fun j hj => by
    by_cases e : n = j
    · subst e
      by_cases hn : n < K.length
      · rw [List.getD, List.getElem?_set_self hn] at hj
        cases hj
      · rw [List.getD, List.getElem?_eq_none (by simp [h.len]; omega)]
        rfl
    · rw [List.getD, List.getElem?_set_ne e] at hj
      rw [List.getD, List.getElem?_set_ne e]
      exact h.not j hj

theorem Ints.far {w : World} {x : Option Addr} {n c lo : Nat} {L : List Int} (hi : Ints w x n c L) (hx : ∀ ad, x = some ad → lo ≤ ad.block) (p : Addr) (v : Value) (hp : p.block < lo) : Ints (w.setCell p v) x n c L := ⟨hi.len, hi.small, fun j hj => by
    obtain ⟨b', off, ha, hl', c0⟩ := hi.cells j hj
    have hb' := hx _ ha
    refine ⟨b', off, ha, by simpa using hl', ?_⟩
    rw [World.cell?_of_block (heap_setCell_other w p b' v (by show b' ≠ p.block; simp only at hb'; omega))]
    exact c0⟩

theorem goV_end (t : Vs) (n : Nat) (ns : List Nat) (K : List (Option Vs)) (h : n = K.length) : goV t (n :: ns) K = (8, K) := by rw [goV, if_pos h]

theorem goV_new (t : Vs) (n : Nat) (ns : List Nat) (K : List (Option Vs)) (h : ¬ n = K.length) (hk : K.getD n none = none) : goV t (n :: ns) K = goV t ns (K.set n (some t)) := by rw [goV, if_neg h, hk]

theorem goV_same (t : Vs) (n : Nat) (ns : List Nat) (K : List (Option Vs)) (u : Vs) (h : ¬ n = K.length) (hk : K.getD n none = some u) (he : u = t) : goV t (n :: ns) K = goV t ns K := by rw [goV, if_neg h, hk]; simp only; rw [if_pos he]

theorem goV_other (t : Vs) (n : Nat) (ns : List Nat) (K : List (Option Vs)) (u : Vs) (h : ¬ n = K.length) (hk : K.getD n none = some u) (he : ¬ u = t) : goV t (n :: ns) K = (9, K) := by rw [goV, if_neg h, hk]; simp only; rw [if_neg he]

def GoA (w : World) (base vb lo kb : Nat) (cs : Array Value) (r : Int × List (Option Vs)) (e : Ending) (w' : World) : Prop := e = .returned (.int .i64 r.1) ∧ ∃ pt, Kn w' lo kb r.2 pt ∧ Row w' vb cs 101 ∧ Below base w w'

set_option maxRecDepth 100000 in
set_option maxHeartbeats 6400000 in
theorem goOn_any (base vb kb lo q k : Nat) (a b : Option Addr) (n c m d : Nat) (v1 bd : Value) (I : List Is1) (K : List (Option Vs)) (pt : List (Option Nat)) (t : Vs) (w : World) (hR : Row w vb #[.slice a n c, v1, .slice b m d, .slice (some ⟨kb, 0, none⟩) m m, bd] 101) (hI : Iss w b m d I) (hk : k < m) (hop : 1 ≤ (I.getD k ⟨0, 0⟩).op ∧ (I.getD k ⟨0, 0⟩).op ≤ 25) (harg : 0 ≤ (I.getD k ⟨0, 0⟩).arg) (hK : Kn w lo kb K pt) (hm : K.length = m) (hT : StAt w q t) (hL : StLo lo w q) (hns : ∀ x ∈ nextV k (I.getD k ⟨0, 0⟩), x ≤ m) (hvl : base ≤ vb) (hkl : base ≤ kb) (hvk : vb ≠ kb) :
    Calls Tryz.prog 83 #[.pointer (some ⟨vb, 0, none⟩), .int .i64 k, .pointer (some ⟨q, 0, none⟩)] w fun e w' => GoA w base vb lo kb #[.slice a n c, v1, .slice b m d, .slice (some ⟨kb, 0, none⟩) m m, bd] (goV t (nextV k (I.getD k ⟨0, 0⟩)) K) e w' := by
  have HN := hide (nextPlaces_any vb a b n c m d v1 (.slice (some ⟨kb, 0, none⟩) m m) bd I k w hR hI hk hop harg)
  have hms := hI.small
  generalize nextV k (I.getD k ⟨0, 0⟩) = ns at HN hns
  have Hns := hide hns
  have Hm := hide hm
  have Hvk := hide hvk
  clear hI hop harg hk hns hm hvk
  go_enter Tryz.func83, Tryz.ntmps83
  go_wp2_with (first | (go_at_call 108; refine (unhide HN).mono ?_; rintro e w1 ⟨x, c', rfl, i1, hx1, hb1⟩) | fail)
  have hkb := hK.row.lt
  have hvb := hR.lt
  have hnsl := i1.small
  have Hx := hide hx1
  have HI1 := hide i1
  have HK1 := hide (hK.below hb1 (Nat.le_refl _))
  have HR1 := hide (hR.after hb1 (Nat.le_refl _))
  have HT1 := hide (hT.below hb1 (Nat.le_refl _))
  have HL1 := hide (hL.below hb1 (Nat.le_refl _))
  have HB1 := hide (hb1.mono (show base ≤ w.heap.size by omega))
  clear hx1 i1 hb1 hK hR hT hL
  go_loopw [13] (fun i wr => ∃ (j : Nat) (ns' : List Nat) (K' : List (Option Vs)) (pt' : List (Option Nat)), i = .int .i64 j ∧ Hid (ns.drop j = ns') ∧ j ≤ ns.length ∧ Hid (goV t ns' K' = goV t ns K) ∧ Hid (K'.length = m) ∧ Kn wr lo kb K' pt' ∧ Row wr vb #[.slice a n c, v1, .slice b m d, .slice (some ⟨kb, 0, none⟩) m m, bd] 101 ∧ StAt wr q t ∧ StLo lo wr q ∧ Ints wr x ns.length c' (ns.map Int.ofNat) ∧ Below base w wr) (fun i _ => ns.length - (RowKit.intOf i).toNat)
  case atStart => exact ⟨0, ns, K, pt, rfl, hide rfl, Nat.zero_le _, hide rfl, Hm, unhide HK1, unhide HR1, unhide HT1, unhide HL1, unhide HI1, unhide HB1⟩
  case round =>
    obtain ⟨j, ns', K', pt', rfl, HD, hj, HG, HM', hK, hR, hT, hL, hI, hB⟩ := hrel
    have Hj := hide hj
    obtain ⟨q0, q1, q2, q3, q4⟩ := rowR hR
    cases ns' with
    | nil =>
      have e : ns.length = j := by have := congrArg List.length (unhide HD); simp at this; omega
      have He := hide e
      have hnl : ¬ ((j : Int) < (ns.length : Int)) := by omega
      clear hj e
      go_wp2_with fail
      go_ret
      rw [← unhide HG]
      exact ⟨rfl, pt', hK, hR, hB⟩
    | cons n0 ns' =>
      have hjl : j < ns.length := by
        have := congrArg List.length (unhide HD)
        simp at this
        omega
      have hn0 : ns[j] = n0 := by
        have := congrArg (·[0]?) (unhide HD)
        simpa [List.getElem?_eq_getElem hjl] using this
      have HD2 := hide (show ns.drop (j + 1) = ns' by
        have := congrArg List.tail (unhide HD)
        simpa using this)
      have hmem : n0 ≤ m := unhide Hns n0 (hn0 ▸ List.getElem_mem hjl)
      obtain ⟨bx, ox, hx, hbl, cx⟩ := hI.cells j (by simpa using hjl)
      have cx' : wr.cell? ⟨bx, ox + j, none⟩ = some (.int .i64 (n0 : Int)) := by rw [cx]; simp [hn0]
      have Hjl := hide hjl
      have ilt : (j : Int) < (ns.length : Int) := by omega
      subst hx
      clear cx hj hn0
      by_cases hend : n0 = m
      · have HX := hide (goV_end t n0 ns' K' (by rw [unhide HM']; exact hend))
        have eb : ((n0 : Int) == (m : Int)) = true := by rw [hend]; simp
        clear hend hmem hjl
        go_wp2_with fail
        go_ret
        rw [← unhide HG, unhide HX]
        exact ⟨rfl, pt', hK, hR, hB⟩
      · have eb : ((n0 : Int) == (m : Int)) = false := beq_eq_false_iff_ne.2 (by omega)
        have inm : (n0 : Int) < (m : Int) := by omega
        have hne : ¬ n0 = K'.length := by rw [unhide HM']; exact hend
        have cK := hK.at n0 (by rw [unhide HM']; omega)
        cases hk : K'.getD n0 none with
        | none =>
          have HX := hide (goV_new t n0 ns' K' hne hk)
          rw [hK.not n0 hk] at cK
          have HS := hide (hK.set n0 q t hT hL)
          have HRS := hide (hR.setFar (p := ⟨kb, n0, none⟩) (unhide Hvk) (.pointer (some ⟨q, 0, none⟩)))
          have HTS := hide (hT.far hL ⟨kb, n0, none⟩ (.pointer (some ⟨q, 0, none⟩)) hK.low)
          have HIS := hide (hI.far (lo := w.heap.size) (unhide Hx) ⟨kb, n0, none⟩ (.pointer (some ⟨q, 0, none⟩)) hkb)
          have HBS := hide (hB.setCell (p := ⟨kb, n0, none⟩) hkl (.pointer (some ⟨q, 0, none⟩)))
          have cf := hK.row.frozen n0
          have cK' : wr.cell? ⟨kb, n0, none⟩ = some (.pointer none) := cK
          clear hend hmem hne hk hjl cK hK hR hT hL hI hB
          go_wp2_with fail
          have hjs : j < ns.length := unhide Hjl
          go_roundw
          case rel => exact ⟨j + 1, ns', _, _, by go_num, HD2, hjs, hide ((unhide HX).symm.trans (unhide HG)), hide (by rw [List.length_set]; exact unhide HM'), unhide HS, unhide HRS, (unhide HTS).1, (unhide HTS).2, unhide HIS, unhide HBS⟩
          case measure => simp [RowKit.intOf]; omega
        | some u =>
          obtain ⟨q', hq', hS', hL'⟩ := hK.there n0 u hk
          rw [hq'] at cK
          have HE := hide (equals_any q' q u t wr hS' hT)
          have cK' : wr.cell? ⟨kb, n0, none⟩ = some (.pointer (some ⟨q', 0, none⟩)) := cK
          by_cases he : u = t
          · have HX := hide (goV_same t n0 ns' K' u hne hk he)
            rw [decide_eq_true he] at HE
            clear hend hmem hne hk hjl cK he
            go_wp2_with (first | (go_at_call 109; with_reducible refine (unhide HE).mono ?_; rintro e w5 ⟨rfl, hb5⟩) | fail)
            have hjs : j < ns.length := unhide Hjl
            have hb5' := hb5.mono (show base ≤ wr.heap.size by have := hB.size; omega)
            go_roundw
            case rel => exact ⟨j + 1, ns', K', pt', by go_num, HD2, hjs, hide ((unhide HX).symm.trans (unhide HG)), HM', hK.below hb5 (Nat.le_refl _), hR.after hb5 (Nat.le_refl _), hT.below hb5 (Nat.le_refl _), hL.below hb5 (Nat.le_refl _), hI.below hb5 (Nat.le_refl _), hB.trans hb5'⟩
            case measure => simp [RowKit.intOf]; omega
          · have HX := hide (goV_other t n0 ns' K' u hne hk he)
            rw [decide_eq_false he] at HE
            clear hend hmem hne hk hjl cK he
            go_wp2_with (first | (go_at_call 109; with_reducible refine (unhide HE).mono ?_; rintro e w5 ⟨rfl, hb5⟩) | fail)
            have hb5' := hb5.mono (show base ≤ wr.heap.size by have := hB.size; omega)
            go_ret
            rw [← unhide HG, unhide HX]
            exact ⟨rfl, pt', hK.below hb5 (Nat.le_refl _), hR.after hb5 (Nat.le_refl _), hB.trans hb5'⟩

end Go.Proofs.YtogenboibgddaaaGreatDoor

namespace Go.Proofs.YtogenboibgddaaaGreatDoor
open Go.RowKit Go.Lib
set_option linter.unusedVariables false

theorem infoPS : (Tryz.prog.info? 130).map (fun i => (i.zero, i.size, i.bytes)) = some (some (.pointer none), 1, 8) := by kernel_rfl

theorem made_list (z : Value) (n : Nat) : madeCells #[z] n = (List.replicate n z).toArray := by
  apply Array.ext
  · rw [size_madeCells]; simp
  · intro i h1 h2
    simp [madeCells, Nat.mod_one]

/-- a state ahead of the first place -/
def vs0 (S : Nat) : Vs := ⟨[], List.replicate S 0⟩

def NvA (w : World) (a b : Option Addr) (n c m d S : Nat) (e : Ending) (w' : World) : Prop := ∃ pt, e = .returned (.pointer (some ⟨w.heap.size + 2, 0, none⟩)) ∧ Row w' (w.heap.size + 2) #[.slice a n c, .int .i64 S, .slice b m d, .slice (some ⟨w.heap.size + 1, 0, none⟩) m m, .int .i64 0] 101 ∧ Kn w' (w.heap.size + 3) (w.heap.size + 1) ((List.replicate m none).set 0 (some (vs0 S))) pt ∧ Below w.heap.size w w'

set_option maxRecDepth 100000 in
set_option maxHeartbeats 6400000 in
theorem newVerifier_any (a b : Option Addr) (n c m d : Nat) (S : Nat) (w : World) (hm : 0 < m) (hms : m ≤ 1048576) (hS : S ≤ 600) :
    Calls Tryz.prog 51 #[.agg #[.slice a n c, .int .i64 S, .slice b m d]] w fun e w' => NvA w a b n c m d S e w' := by
  have mk1 : ∀ w', (Instr.makeSlice 99 (.int .i64 (m : Int)) (.int .i64 (m : Int))).run Tryz.prog w' = .ok (.slice (some ⟨w'.heap.size, 0, none⟩) m m) (w'.alloc (.cells (List.replicate m (.pointer none)).toArray 130)) := fun w' => by
    rw [← made_list]
    exact run_make_row' 99 130 (.pointer none) 8 Tryz.underlying99 infoPS rfl .i64 .i64 m (by omega) (by omega) w'
  have mk2 : ∀ w', (Instr.makeSlice 77 (.int .i64 (S : Int)) (.int .i64 (S : Int))).run Tryz.prog w' = .ok (.slice (some ⟨w'.heap.size, 0, none⟩) S S) (w'.alloc (.cells (List.replicate S (.int .i64 0)).toArray 3)) := fun w' => by
    rw [← made_list]
    exact run_make_row' 77 3 (.int .i64 0) 8 Tryz.underlying77 infoI rfl .i64 .i64 S (by omega) (by omega) w'
  have im : (0 : Int) < (m : Int) := by omega
  have Hm := hide hm
  go_enter Tryz.func51, Tryz.ntmps51
  go_wp2_with fail
  go_region
  go_wp2_with fail
  have B3 : Below w.heap.size w (((w.alloc (.cells #[.slice a n c, .int .i64 S, .slice b m d] 39)).alloc (.cells (Array.replicate m (.pointer none)) 130)).alloc (.cells #[.slice a n c, .int .i64 S, .slice b m d, .slice (some ⟨w.heap.size + 1, 0, none⟩) m m, .int .i64 0] 101)).drew := ((((Below.refl w.heap.size w).alloc (Nat.le_refl _) _).alloc (by simp) _).alloc (by simp; omega) _).drew
  have RC := ((Row.new w #[.slice a n c, .int .i64 S, .slice b m d] 39).alloc (.cells (Array.replicate m (.pointer none)) 130)).alloc (.cells #[.slice a n c, .int .i64 S, .slice b m d, .slice (some ⟨w.heap.size + 1, 0, none⟩) m m, .int .i64 0] 101)
  have RK := (Row.new (w.alloc (.cells #[.slice a n c, .int .i64 S, .slice b m d] 39)) (Array.replicate m (.pointer none)) 130).alloc (.cells #[.slice a n c, .int .i64 S, .slice b m d, .slice (some ⟨w.heap.size + 1, 0, none⟩) m m, .int .i64 0] 101)
  have RV := Row.new ((w.alloc (.cells #[.slice a n c, .int .i64 S, .slice b m d] 39)).alloc (.cells (Array.replicate m (.pointer none)) 130)) #[.slice a n c, .int .i64 S, .slice b m d, .slice (some ⟨w.heap.size + 1, 0, none⟩) m m, .int .i64 0] 101
  have RC' : Row (((w.alloc (.cells #[.slice a n c, .int .i64 S, .slice b m d] 39)).alloc (.cells (Array.replicate m (.pointer none)) 130)).alloc (.cells #[.slice a n c, .int .i64 S, .slice b m d, .slice (some ⟨w.heap.size + 1, 0, none⟩) m m, .int .i64 0] 101)).drew w.heap.size _ _ := ⟨RC.out⟩
  have RK' : Row (((w.alloc (.cells #[.slice a n c, .int .i64 S, .slice b m d] 39)).alloc (.cells (Array.replicate m (.pointer none)) 130)).alloc (.cells #[.slice a n c, .int .i64 S, .slice b m d, .slice (some ⟨w.heap.size + 1, 0, none⟩) m m, .int .i64 0] 101)).drew (w.heap.size + 1) (Array.replicate m (.pointer none)) 130 := by
    have := RK.out
    rw [World.size_alloc] at this
    exact ⟨this⟩
  have RV' : Row (((w.alloc (.cells #[.slice a n c, .int .i64 S, .slice b m d] 39)).alloc (.cells (Array.replicate m (.pointer none)) 130)).alloc (.cells #[.slice a n c, .int .i64 S, .slice b m d, .slice (some ⟨w.heap.size + 1, 0, none⟩) m m, .int .i64 0] 101)).drew (w.heap.size + 1 + 1) #[.slice a n c, .int .i64 S, .slice b m d, .slice (some ⟨w.heap.size + 1, 0, none⟩) m m, .int .i64 0] 101 := by
    have := RV.out
    rw [World.size_alloc, World.size_alloc] at this
    exact ⟨this⟩
  have Hsz := hide (show w.heap.size + 3 = (((w.alloc (.cells #[.slice a n c, .int .i64 S, .slice b m d] 39)).alloc (.cells (Array.replicate m (.pointer none)) 130)).alloc (.cells #[.slice a n c, .int .i64 S, .slice b m d, .slice (some ⟨w.heap.size + 1, 0, none⟩) m m, .int .i64 0] 101)).drew.heap.size by simp)
  clear RC RK RV
  generalize (((w.alloc (.cells #[.slice a n c, .int .i64 S, .slice b m d] 39)).alloc (.cells (Array.replicate m (.pointer none)) 130)).alloc (.cells #[.slice a n c, .int .i64 S, .slice b m d, .slice (some ⟨w.heap.size + 1, 0, none⟩) m m, .int .i64 0] 101)).drew = W at B3 RC' RK' RV' Hsz ⊢
  have sm : S ≤ 1048576 := by omega
  have HI := hide (ints_new W W.heap.size rfl (List.replicate S 0) 3 S (by simpa using sm))
  have RK2 := (RK'.alloc (.cells (Array.replicate S (.int .i64 0)) 3)).alloc (.cells #[.slice none 0 0, .slice (some ⟨W.heap.size, 0, none⟩) S S] 132)
  have RV2 := (RV'.alloc (.cells (Array.replicate S (.int .i64 0)) 3)).alloc (.cells #[.slice none 0 0, .slice (some ⟨W.heap.size, 0, none⟩) S S] 132)
  have k0 : ((W.alloc (.cells (Array.replicate S (.int .i64 0)) 3)).alloc (.cells #[.slice none 0 0, .slice (some ⟨W.heap.size, 0, none⟩) S S] 132)).cell? ⟨w.heap.size + 1, 0, none⟩ = some (.pointer none) := by
    have := RK2.cell 0
    rw [this]
    simp [unhide Hm]
  have f0 := RK2.frozen 0
  obtain ⟨_, _, _, q3, _⟩ := rowR RV'
  obtain ⟨_, _, _, q3', _⟩ := rowR (RV'.alloc (.cells (Array.replicate S (.int .i64 0)) 3))
  obtain ⟨_, _, _, q3'', _⟩ := rowR RV2
  have z1 : W.cell? ⟨w.heap.size, 1, none⟩ = some (.int .i64 S) := by simpa using RC'.cell 1
  have HRK := hide RK2
  have HRV := hide RV2
  clear RK2 RV2 RC' RK' RV'
  have hlt : w.heap.size + 2 < W.heap.size := by have := unhide Hsz; omega
  go_region
  all_goals
    go_wp2_with fail
    go_ret
    have hsz := unhide Hsz
    have hrep : (List.map (Value.int .i64) (List.replicate S 0)).toArray = Array.replicate S (.int .i64 0) := by simp
    have hrl : (List.replicate S (0 : Int)).length = S := by simp
    have BA := (Below.refl (W.alloc (.cells (Array.replicate S (.int .i64 0)) 3)).heap.size (W.alloc (.cells (Array.replicate S (.int .i64 0)) 3))).alloc (Nat.le_refl _) (.cells #[.slice none 0 0, .slice (some ⟨W.heap.size, 0, none⟩) S S] 132)
    have I1 := unhide HI
    rw [hrep] at I1
    have I2 := I1.below BA (Nat.le_refl _)
    rw [hrl] at I2
    have RS := Row.new (W.alloc (.cells (Array.replicate S (.int .i64 0)) 3)) #[.slice none 0 0, .slice (some ⟨W.heap.size, 0, none⟩) S S] 132
    have hq : (W.alloc (.cells (Array.replicate S (.int .i64 0)) 3)).heap.size = W.heap.size + 1 := by simp
    rw [hq] at RS
    have hST : StAt ((W.alloc (.cells (Array.replicate S (.int .i64 0)) 3)).alloc (.cells #[.slice none 0 0, .slice (some ⟨W.heap.size, 0, none⟩) S S] 132)) (W.heap.size + 1) (vs0 S) := ⟨none, 0, 0, _, S, S, RS, ⟨rfl, by omega, fun j hj => absurd hj (by simp [vs0])⟩, I2, Nat.le_refl _, Nat.le_refl _, by unfold maxLen; omega, by unfold maxLen; omega⟩
    have hSL : StLo (w.heap.size + 3) ((W.alloc (.cells (Array.replicate S (.int .i64 0)) 3)).alloc (.cells #[.slice none 0 0, .slice (some ⟨W.heap.size, 0, none⟩) S S] 132)) (W.heap.size + 1) := StLo.mk' RS (by omega) (fun ad e => by cases e) (fun ad e => by cases e; show w.heap.size + 3 ≤ W.heap.size; omega)
    have hmk : ((List.replicate m (none : Option Nat)).map ptV).toArray = Array.replicate m (.pointer none) := by simp [ptV]
    have hno : ∀ j, (List.replicate m (none : Option Vs)).getD j none = none := fun j => by
      rw [List.getD, List.getElem?_replicate]
      split <;> rfl
    have hno' : ∀ j, (List.replicate m (none : Option Nat)).getD j none = none := fun j => by
      rw [List.getD, List.getElem?_replicate]
      split <;> rfl
    have KN : Kn ((W.alloc (.cells (Array.replicate S (.int .i64 0)) 3)).alloc (.cells #[.slice none 0 0, .slice (some ⟨W.heap.size, 0, none⟩) S S] 132)) (w.heap.size + 3) (w.heap.size + 1) (List.replicate m none) (List.replicate m none) := ⟨by rw [hmk]; exact unhide HRK, by simp, by omega, fun j s e => (by rw [hno j] at e; cases e), fun j _ => hno' j⟩
    have KS := KN.set 0 (W.heap.size + 1) (vs0 S) hST hSL
    have RVS := (unhide HRV).setFar (p := ⟨w.heap.size + 1, 0, none⟩) (by show w.heap.size + 1 + 1 ≠ w.heap.size + 1; omega) (.pointer (some ⟨W.heap.size + 1, 0, none⟩))
    have BD := (Below.refl (((W.alloc (.cells (Array.replicate S (.int .i64 0)) 3)).alloc (.cells #[.slice none 0 0, .slice (some ⟨W.heap.size, 0, none⟩) S S] 132)).setCell ⟨w.heap.size + 1, 0, none⟩ (.pointer (some ⟨W.heap.size + 1, 0, none⟩))).heap.size (((W.alloc (.cells (Array.replicate S (.int .i64 0)) 3)).alloc (.cells #[.slice none 0 0, .slice (some ⟨W.heap.size, 0, none⟩) S S] 132)).setCell ⟨w.heap.size + 1, 0, none⟩ (.pointer (some ⟨W.heap.size + 1, 0, none⟩)))).drew
    have BF := (((B3.alloc B3.size (.cells (Array.replicate S (.int .i64 0)) 3)).alloc (Nat.le_trans B3.size (by simp)) (.cells #[.slice none 0 0, .slice (some ⟨W.heap.size, 0, none⟩) S S] 132)).setCell (p := ⟨w.heap.size + 1, 0, none⟩) (by show w.heap.size ≤ w.heap.size + 1; omega) (.pointer (some ⟨W.heap.size + 1, 0, none⟩))).drew
    exact ⟨_, rfl, RVS.after BD (Nat.le_refl _), KS.below BD (Nat.le_refl _), BF⟩

end Go.Proofs.YtogenboibgddaaaGreatDoor
