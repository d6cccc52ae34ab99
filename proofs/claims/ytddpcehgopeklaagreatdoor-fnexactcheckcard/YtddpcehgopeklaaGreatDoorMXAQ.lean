/-
  VPI, VPK. Own work.
-/
import Derived.Test.YtddpcehgopeklaaGreatDoorMXAE
import Derived.Test.YtddpcehgopeklaaGreatDoorMXAO
namespace Go.Proofs.YtddpcehgopeklaaGreatDoor
open Go.RowKit
set_option linter.unusedVariables false

def treesV (S : List (Nat × Nat)) : List Value := S.flatMap fun p => [.int .i64 p.1, .int .i64 p.2]

theorem treesV_at : ∀ (S : List (Nat × Nat)) (i : Nat) (h : i < S.length), (treesV S)[i * 2]? = some (.int .i64 (S[i].1 : Int)) ∧ (treesV S)[i * 2 + 1]? = some (.int .i64 (S[i].2 : Int))
  | [], i, h => absurd h (by simp)
  | p :: S, 0, h => ⟨rfl, rfl⟩
  | p :: S, i + 1, h => by
    have ih := treesV_at S i (by simpa using h)
    have e : treesV (p :: S) = .int .i64 p.1 :: .int .i64 p.2 :: treesV S := rfl
    rw [e, show (i + 1) * 2 = i * 2 + 1 + 1 by omega, List.getElem?_cons_succ, List.getElem?_cons_succ, show i * 2 + 1 + 1 + 1 = (i * 2 + 1) + 1 + 1 by omega, List.getElem?_cons_succ, List.getElem?_cons_succ]
    simpa using ih

theorem dep_snoc (l : List (Nat × Nat)) (p : Nat × Nat) : dep (l ++ [p]) = max (dep l) p.2 := by
  induction l with
  | nil => simp [dep]
  | cons q l ih => rw [List.cons_append, dep, dep, ih]; omega

/-- the run, by its last step -/
theorem runT_succ {K : List (List Int)} {k : Nat} {S : List (Nat × Nat)} {ks : List Int} (h : runT K k [] 0 = some S) (hk : K[k]? = some ks) : runT K (k + 1) [] 0 = stepT S k ks := by
  rw [runT_add K k 1 [] 0, h]
  show runT K 1 S (0 + k) = _
  rw [Nat.zero_add, runT, hk]
  dsimp only
  cases stepT S k ks <;> rfl

theorem runT_none {K : List (List Int)} {k n : Nat} (hk : k ≤ n) (h : runT K k [] 0 = none) : runT K n [] 0 = none := by
  have e : n = k + (n - k) := by omega
  rw [e, runT_add K k (n - k) [] 0, h]
  rfl

theorem stepT_short {S : List (Nat × Nat)} {i : Nat} {ks : List Int} (h : S.length < ks.length) : stepT S i ks = none := by rw [stepT, if_pos h]

/-- a kid that is not the open tree's top -/
theorem stepT_miss {S : List (Nat × Nat)} {i f j : Nat} {ks : List Int} (hf : f + ks.length = S.length) (hj : j < ks.length) (hS : f + j < S.length) (h : (S[f + j].1 : Int) ≠ ks[j]) : stepT S i ks = none := by
  have ef : S.length - ks.length = f := by omega
  rw [stepT, if_neg (by omega), if_pos]
  rw [ef]
  intro e
  apply h
  have h1 : (topsI (S.drop f))[j]? = some ks[j] := by rw [e]; exact List.getElem?_eq_getElem hj
  rw [topsI, List.getElem?_map, List.getElem?_drop, List.getElem?_eq_getElem hS] at h1
  simpa using h1

theorem stepT_deep {S : List (Nat × Nat)} {i f : Nat} {ks : List Int} (hf : f + ks.length = S.length) (hd : dep (S.drop f) = 64) : stepT S i ks = none := by
  have ef : S.length - ks.length = f := by omega
  rw [stepT, if_neg (by omega), ef]
  by_cases h : topsI (S.drop f) ≠ ks
  · rw [if_pos h]
  · rw [if_neg h, if_pos hd]

theorem stepT_ok {S : List (Nat × Nat)} {i f : Nat} {ks : List Int} (hf : f + ks.length = S.length) (ht : topsI (S.drop f) = ks) (hd : dep (S.drop f) ≠ 64) : stepT S i ks = some (S.take f ++ [(i, dep (S.drop f) + 1)]) := by
  have ef : S.length - ks.length = f := by omega
  rw [stepT, if_neg (by omega), ef, if_neg (by simp [ht]), if_neg hd]

/-- the kids so far are the tops -/
def sofar (S : List (Nat × Nat)) (f : Nat) (ks : List Int) (j : Nat) : Prop := topsI ((S.drop f).take j) = ks.take j

theorem sofar_zero (S : List (Nat × Nat)) (f : Nat) (ks : List Int) : sofar S f ks 0 := by simp [sofar, topsI]

theorem drop_take_succ (S : List (Nat × Nat)) (f j : Nat) (h : f + j < S.length) : (S.drop f).take (j + 1) = (S.drop f).take j ++ [S[f + j]] := by
  have hl : j < (S.drop f).length := by rw [List.length_drop]; omega
  rw [List.take_succ_eq_append_getElem hl, List.getElem_drop]

theorem sofar_succ {S : List (Nat × Nat)} {f j : Nat} {ks : List Int} (hj : j < ks.length) (hS : f + j < S.length) (h : sofar S f ks j) (e : (S[f + j].1 : Int) = ks[j]) : sofar S f ks (j + 1) := by
  rw [sofar, drop_take_succ S f j hS, List.take_succ_eq_append_getElem hj, ← e]
  rw [sofar] at h
  rw [← h]
  simp [topsI]

theorem sofar_all {S : List (Nat × Nat)} {f : Nat} {ks : List Int} (hf : f + ks.length = S.length) (h : sofar S f ks ks.length) : topsI (S.drop f) = ks := by
  rw [sofar, List.take_of_length_le (by rw [List.length_drop]; omega), List.take_of_length_le (Nat.le_refl _)] at h
  exact h

end Go.Proofs.YtddpcehgopeklaaGreatDoor

namespace Go.Proofs.YtddpcehgopeklaaGreatDoor
open Go.RowKit
set_option linter.unusedVariables false

theorem infoT : (Tryz.prog.info? 196).map (fun i => (i.zero, i.size, i.bytes)) = some (some (.agg #[.int .i64 0, .int .i64 0]), 2, 16) := by kernel_rfl

def TopsAns (B : Nat) (r : Option (List (Nat × Nat))) (e : Ending) (w' : World) : Prop := match r with
  | none => e = .returned (.tuple #[.slice none 0 0, .bool false])
  | some S => ∃ v, e = .returned (.tuple #[v, .bool true]) ∧ w'.ownsRow B 3 1 v S.length (intsV (topsI S))

/-- what holds ahead of a node -/
def OpenAt (K : List (List Int)) (B k : Nat) (v : Value) (wr : World) : Prop := ∃ S, runT K k [] 0 = some S ∧ S.length ≤ k ∧ (∀ p ∈ S, p.1 < k ∧ p.2 ≤ 64) ∧ wr.ownsRow B 196 2 v S.length (treesV S)

theorem stepT_keeps {S S' : List (Nat × Nat)} {k : Nat} {ks : List Int} (h : stepT S k ks = some S') (h1 : S.length ≤ k) (h2 : ∀ p ∈ S, p.1 < k ∧ p.2 ≤ 64) : S'.length ≤ k + 1 ∧ ∀ p ∈ S', p.1 < k + 1 ∧ p.2 ≤ 64 := by
  obtain ⟨A, B, rfl, e2, e3, rfl⟩ := stepT_of h
  have hd : dep B ≤ 64 := by
    clear h e2 e3 h1
    induction B with
    | nil => simp [dep]
    | cons q B ih =>
      have hq := h2 q (by simp)
      have hr := ih (fun p hp => h2 p (by rcases List.mem_append.1 hp with e | e <;> simp [e]))
      rw [dep]; omega
  rw [List.length_append] at h1
  refine ⟨by rw [List.length_append]; simp; omega, fun p hp => ?_⟩
  rcases List.mem_append.1 hp with e | e
  · have := h2 p (List.mem_append_left _ e); omega
  · simp at e; subst e; exact ⟨by show k < k + 1; omega, by show dep B + 1 ≤ 64; omega⟩

theorem owns_cap {w : World} {base : Nat} {e : TypeId} {size : Nat} {x : Option Addr} {n c : Nat} {xs : List Value} (h : w.ownsRow base e size (.slice x n c) n xs) : n ≤ c := by
  rcases h.2 with ⟨hv, hn⟩ | ⟨g, cap, cur, hv, h1, h2, h3, h4, h5, h6⟩
  · omega
  · cases hv; exact h3

theorem treesV_take (S : List (Nat × Nat)) (f k d : Nat) : (treesV S).take (f * 2) ++ [.int .i64 k, .int .i64 ((d : Int) + 1)] = treesV (S.take f ++ [(k, d + 1)]) := by
  have e : ∀ (S : List (Nat × Nat)) (f : Nat), (treesV S).take (f * 2) = treesV (S.take f) := by
    intro S
    induction S with
    | nil => intro f; simp [treesV]
    | cons p S ih =>
      intro f
      cases f with
      | zero => simp [treesV]
      | succ f =>
        have e1 : treesV (p :: S) = .int .i64 p.1 :: .int .i64 p.2 :: treesV S := rfl
        have e2 : treesV (p :: S.take f) = .int .i64 p.1 :: .int .i64 p.2 :: treesV (S.take f) := rfl
        rw [e1, show (f + 1) * 2 = f * 2 + 1 + 1 by omega, List.take_succ_cons, List.take_succ_cons, ih f, List.take_succ_cons, e2]
  rw [e, treesV, treesV, List.flatMap_append]
  simp

theorem ownsRow_low {w : World} {base base' : Nat} {e : TypeId} {size : Nat} {v : Value} {n : Nat} {xs : List Value} (h : w.ownsRow base e size v n xs) (hb : base' ≤ base) : w.ownsRow base' e size v n xs := by
  refine ⟨h.1, ?_⟩
  rcases h.2 with hn | ⟨g, cap, cur, hv, h1, h2, h3⟩
  · exact .inl hn
  · exact .inr ⟨g, cap, cur, hv, by omega, h2, h3⟩

theorem topsI_succ (S : List (Nat × Nat)) (k : Nat) (h : k < S.length) : topsI (S.take (k + 1)) = topsI (S.take k) ++ [(S[k].1 : Int)] := by
  rw [List.take_succ_eq_append_getElem h, topsI, topsI, List.map_append]
  rfl

set_option maxRecDepth 100000 in
set_option maxHeartbeats 6400000 in
theorem topsOf_any (a : Option Addr) (n c : Nat) (L : List Nd) (w : World) (h : Nds w a n c L) :
    Calls Tryz.prog 86 #[.slice a n c] w fun e w' => TopsAns w.heap.size (runT (L.map Nd.kids) n [] 0) e w' ∧ Below w.heap.size w w' := by
  have hn := h.small
  have HL := hide h.len
  obtain ⟨ti, hti, tz0, tz1, tz2⟩ := info_parts infoT
  obtain ⟨i, hi, hz0, hz1, hz2⟩ := info_parts infoI
  go_enter Tryz.func86, Tryz.ntmps86
  go_wp2_with fail
  go_loopw [4, 16] (fun v i wr => ∃ k : Nat, k ≤ n ∧ i = .int .i64 k ∧ Below w.heap.size w wr ∧ OpenAt (L.map Nd.kids) w.heap.size k v wr) (fun _ i _ => n - (intOf i).toNat)
  case atStart => exact ⟨0, by omega, rfl, Below.refl _ _, [], rfl, by simp, by simp, World.ownsRow_nil _ _ _ _⟩
  case round =>
    obtain ⟨k, hk, rfl, B1, S, hr, hSl, hSp, O1⟩ := hrel
    by_cases hlt : k < n
    · have ilt : (k : Int) < (n : Int) := by omega
      have hkl : k < L.length := by rw [unhide HL]; exact hlt
      obtain ⟨b, off, rfl, hb, an, nn, cn, ak, nk, ck, c0, c1, c2, c3, c4, hN, hK⟩ := (h.below B1 (Nat.le_refl _)).cells k hkl
      have HR := hide (runT_succ hr (show (L.map Nd.kids)[k]? = some L[k].kids by rw [List.getElem?_map, List.getElem?_eq_getElem hkl]; rfl))
      have Hno := hide (show stepT S k L[k].kids = none → runT (L.map Nd.kids) n [] 0 = none from fun e => runT_none (k := k + 1) hlt (by rw [unhide HR, e]))
      have Hke := hide (fun S' (h' : stepT S k L[k].kids = some S') => stepT_keeps h' hSl hSp)
      have Hlt := hide hlt
      have HSp := hide hSp
      clear hr hSp
      generalize L[k] = x at c0 c1 c2 c3 c4 hN hK HR Hno Hke
      have hkn := hK.small
      have HKL := hide hK.len
      have R1 := Row.new wr #[.int .i64 x.op, .int .i64 x.num, .string x.text, .slice an nn cn, .slice ak nk ck] 53
      have B2 := B1.alloc B1.size (.cells #[.int .i64 x.op, .int .i64 x.num, .string x.text, .slice an nn cn, .slice ak nk ck] 53)
      have C2 := (Below.refl wr.heap.size wr).alloc (Nat.le_refl _) (.cells #[.int .i64 x.op, .int .i64 x.num, .string x.text, .slice an nn cn, .slice ak nk ck] 53)
      have O2 := O1.alloc (.cells #[.int .i64 x.op, .int .i64 x.num, .string x.text, .slice an nn cn, .slice ak nk ck] 53)
      have K2 := hK.below C2 (Nat.le_refl _)
      obtain ⟨xo, co, rfl, hxo⟩ := owns_form2 O2
      have Hxo := hide hxo
      clear hN hK hxo
      by_cases hs : S.length < nk
      · have is : (S.length : Int) - (nk : Int) < 0 := by omega
        have HX := hide (unhide Hno (stepT_short (by rw [unhide HKL]; exact hs)))
        clear hs Hno
        go_wp2_with fail
        exact bodyPost_ret (v := .tuple #[.slice none 0 0, .bool false]) (by simp [results, Tryz.results86, go_sem]) rfl ⟨by rw [unhide HX]; rfl, B2⟩
      · have is : ¬ ((S.length : Int) - (nk : Int) < 0) := by omega
        obtain ⟨f, hf⟩ : ∃ f, f + nk = S.length := ⟨S.length - nk, by omega⟩
        have HF := hide (show (S.length : Int) - (nk : Int) = (f : Int) by omega)
        have Hf := hide hf
        clear hs
        go_wp2_with fail
        rw [unhide HF]
        go_loop [8, 32] (fun d i => ∃ j : Nat, j ≤ nk ∧ i = .int .i64 j ∧ d = .int .i64 (dep ((S.drop f).take j)) ∧ dep ((S.drop f).take j) ≤ 64 ∧ sofar S f x.kids j) (fun _ i => nk - (intOf i).toNat)
        case atStart => exact ⟨0, by omega, rfl, rfl, by simp [dep], sofar_zero _ _ _⟩
        case round =>
          obtain ⟨j, hj, rfl, rfl, hd, hsf⟩ := hrel
          have Hsf := hide hsf
          clear hsf
          by_cases hjl : j < nk
          · have ijl : (j : Int) < (nk : Int) := by omega
            obtain ⟨g, rfl, hg, hgc⟩ := unhide Hxo (by omega)
            have hS : f + j < S.length := by omega
            have hjk : j < x.kids.length := by rw [unhide HKL]; exact hjl
            obtain ⟨bk, ok, rfl, hbk, ck0⟩ := K2.cells j hjk
            obtain ⟨t0, t1⟩ := treesV_at S (f + j) hS
            have s0 := hgc _ _ t0
            have s1 := hgc _ _ t1
            have hp := unhide HSp S[f + j] (List.getElem_mem hS)
            have HD := hide (show dep ((S.drop f).take (j + 1)) = max (dep ((S.drop f).take j)) S[f + j].2 by rw [drop_take_succ S f j hS, dep_snoc])
            have HM := hide (fun e => stepT_miss (i := k) (ks := x.kids) (by rw [unhide HKL]; exact hf) hjk hS e)
            have HS := hide (fun e => sofar_succ hjk hS (unhide Hsf) e)
            clear t0 t1 hgc Hsf
            generalize S[f + j] = p at s0 s1 hp HD HM HS
            generalize x.kids[j] = y at ck0 HM HS
            generalize dep ((S.drop f).take j) = D at hd HD
            by_cases hy : (p.1 : Int) = y
            · have ey : ((p.1 : Int) != y) = false := by rw [hy]; simp
              have HS2 := hide (unhide HS hy)
              clear hy HM HS
              have Hjl := hide hjl
              go_wp2_with fail
              have em : (Value.int .i64 (if D < p.2 then (p.2 : Int) else (D : Int))) = .int .i64 (dep ((S.drop f).take (j + 1))) := by
                rw [unhide HD]; split <;> congr 1 <;> omega
              rw [em]
              exact ⟨⟨j + 1, unhide Hjl, by go_num, rfl, by rw [unhide HD]; omega, unhide HS2⟩, by have := unhide Hjl; simp [intOf]; omega⟩
            · have ey : ((p.1 : Int) != y) = true := bne_iff_ne.2 hy
              have HX := hide (unhide Hno (unhide HM hy))
              clear hy HM HS Hno
              go_wp2_with fail
              exact bodyPost_ret (v := .tuple #[.slice none 0 0, .bool false]) (by simp [results, Tryz.results86, go_sem]) rfl ⟨by rw [unhide HX]; rfl, B2⟩
          · have e : j = nk := by omega
            subst e
            have Htk := hide (sofar_all (by rw [unhide HKL]; exact hf) (by rw [unhide HKL]; exact unhide Hsf))
            have HDr := hide (show (S.drop f).take j = S.drop f from List.take_of_length_le (by rw [List.length_drop]; omega))
            rw [unhide HDr] at hd ⊢
            clear Hsf
            by_cases h64 : dep (S.drop f) = 64
            · have e64 : ((dep (S.drop f) : Int) == 64) = true := beq_iff_eq.2 (by omega)
              have HX := hide (unhide Hno (stepT_deep (by rw [unhide HKL]; exact hf) h64))
              clear h64 Hno
              generalize dep (S.drop f) = D at hd e64 ⊢
              go_wp2_with fail
              exact bodyPost_ret (v := .tuple #[.slice none 0 0, .bool false]) (by simp [results, Tryz.results86, go_sem]) rfl ⟨by rw [unhide HX]; rfl, B2⟩
            · have e64 : ((dep (S.drop f) : Int) == 64) = false := beq_eq_false_iff_ne.2 (by omega)
              have HY := hide (stepT_ok (i := k) (by rw [unhide HKL]; exact hf) (unhide Htk) h64)
              clear h64 Hno Htk
              generalize dep (S.drop f) = D at hd e64 HY ⊢
              have O3 := ownsRow_short (m := f) O2 (by omega)
              have hco := owns_cap O2
              have ico : (f : Int) ≤ (co : Int) := by omega
              have zb := B1.size
              go_wp2_with (at_builtin; refine wpList_append_own _ rfl _ _ 194 rfl w.heap.size 196 ti (.agg #[.int .i64 0, .int .i64 0]) 2 16 Tryz.underlying194 hti tz0 tz1 tz2 rfl (by decide) _ _ _ rfl (World.ownsRow.alloc O3 _) ⟨wr.heap.size + 1, 0, none⟩ 1 1 [.int .i64 k, .int .i64 ((D : Int) + 1)] rfl rfl ?c1 ?c2 ?c3 ?c4 ?c5 ?_)
              case c2 => exact ⟨rfl, rfl⟩
              case c3 => unfold maxLen; omega
              case c4 => omega
              case c5 => omega
              intro v' w3 O4 hgrow _
              have B4 := (B2.alloc B2.size (.cells #[.int .i64 k, .int .i64 ((D : Int) + 1)] 196)).grown hgrow (by simp; omega) (fun q hq => (O3.lt q hq).1)
              clear hgrow
              rw [treesV_take] at O4
              go_wp2_with fail
              go_roundw
              case rel => exact ⟨k + 1, unhide Hlt, by go_num, B4, S.take f ++ [(k, D + 1)], by rw [unhide HR, unhide HY], (unhide Hke _ (unhide HY)).1, (unhide Hke _ (unhide HY)).2, by rw [List.length_append, List.length_take, List.length_singleton, show min f S.length = f by omega]; exact O4⟩
              case measure => have := unhide Hlt; simp [intOf]; omega
    · have e : k = n := by omega
      subst e
      obtain ⟨xo, co, rfl, hxo⟩ := owns_form2 O1
      have HR := hide hr
      obtain ⟨wo, hwo⟩ : ∃ wo, wo = wr := ⟨_, rfl⟩
      subst hwo
      have Hxo := hide hxo
      have HO := hide O1
      have HB := hide B1
      clear hr hxo hSp O1 B1 h HL
      go_wp2_with fail
      go_loopw [11, 70] (fun v i wr => ∃ j : Nat, j ≤ S.length ∧ i = .int .i64 j ∧ wr.ownsRow wo.heap.size 3 1 v (topsI (S.take j)).length (intsV (topsI (S.take j))) ∧ Below w.heap.size w wr ∧ Below wo.heap.size wo wr) (fun _ i _ => S.length - (intOf i).toNat)
      case atStart => exact ⟨0, by omega, rfl, World.ownsRow_nil _ _ _ _, unhide HB, Below.refl _ _⟩
      case round =>
        obtain ⟨j, hj, rfl, Q1, B1, D1⟩ := hrel
        by_cases hjl : j < S.length
        · have ijl : (j : Int) < (S.length : Int) := by omega
          obtain ⟨g, rfl, hg, hgc⟩ := unhide Hxo (by omega)
          obtain ⟨t0, t1⟩ := treesV_at S j hjl
          have hgl : g < wo.heap.size := ((unhide HO).lt g rfl).2
          have s0 := (D1.cell (p := ⟨g, j * 2, none⟩) hgl).trans (hgc _ _ t0)
          have s1 := (D1.cell (p := ⟨g, j * 2 + 1, none⟩) hgl).trans (hgc _ _ t1)
          have HT := hide (topsI_succ S j hjl)
          have hln : (topsI (S.take j)).length ≤ 1048576 := by rw [topsI, List.length_map, List.length_take]; omega
          have Hjl := hide hjl
          clear t0 t1 hgc
          generalize S[j] = p at s0 s1 HT
          generalize topsI (S.take j) = A at Q1 hln HT
          have B2 := B1.alloc B1.size (.cells #[.int .i64 p.1, .int .i64 p.2] 196)
          have D2 := D1.alloc D1.size (.cells #[.int .i64 p.1, .int .i64 p.2] 196)
          have Q2 := Q1.alloc (.cells #[.int .i64 p.1, .int .i64 p.2] 196)
          obtain ⟨xv, cv, rfl, _⟩ := owns_form2 Q1
          have zb := B1.size
          have zd := D1.size
          have R2 := Row.new wr #[.int .i64 p.1, .int .i64 p.2] 196
          go_wp2_with (at_builtin; refine wpList_append_own _ rfl _ _ 29 rfl wo.heap.size 3 i (.int .i64 0) 1 8 Tryz.underlying29 hi hz0 hz1 hz2 rfl (by decide) _ _ _ rfl (World.ownsRow.alloc Q2 _) ⟨wr.heap.size + 1, 0, none⟩ 1 1 [.int .i64 p.1] rfl rfl ?d1 ?d2 ?d3 ?d4 ?d5 ?_)
          case d1 => exact one_cell _ _ _ _ (by simp)
          case d2 => intro u hu; simp at hu; subst hu; rfl
          case d3 => unfold maxLen; omega
          case d4 => omega
          case d5 => simp; omega
          intro v' w3 Q3 hgrow _
          have B3 := (B2.alloc B2.size (.cells #[.int .i64 p.1] 3)).grown hgrow (by simp; omega) (fun q hq => by have := (Q2.lt q hq).1; omega)
          have D3 := (D2.alloc D2.size (.cells #[.int .i64 p.1] 3)).grown hgrow (by simp; omega) (fun q hq => (Q2.lt q hq).1)
          clear hgrow
          go_wp2_with fail
          go_roundw
          case rel => exact ⟨j + 1, unhide Hjl, by go_num, by rw [unhide HT, intsV, List.map_append, List.length_append]; exact Q3, B3, D3⟩
          case measure => have := unhide Hjl; simp [intOf]; omega
        · have e : j = S.length := by omega
          subst e
          have e2 : S.take S.length = S := List.take_of_length_le (Nat.le_refl _)
          rw [e2] at Q1
          obtain ⟨xv, cv, rfl, _⟩ := owns_form2 Q1
          go_wp2_with fail
          refine bodyPost_ret (v := .tuple #[.slice xv (topsI S).length cv, .bool true]) (by simp [results, Tryz.results86, go_sem]) rfl ⟨?_, B1⟩
          rw [unhide HR]
          exact ⟨_, rfl, ownsRow_low (by rw [topsI_len] at Q1 ⊢; exact Q1) (unhide HB).size⟩

end Go.Proofs.YtddpcehgopeklaaGreatDoor
