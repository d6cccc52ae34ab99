/-
  VPN, QK, As, Is, WD, Open. Own work.
-/
import Derived.Test.YtddpcehgopeklaaGreatDoorMXAQ
import Derived.Deep.AppendLies
import Derived.Test.YtddpcehgopeklaaGreatDoorMXAR
import Derived.Test.YtddpcehgopeklaaGreatDoorRows
import Derived.WalkKit
import Derived.LaidEql
import Derived.Stop.Asserts
import Derived.RowKitTokens
import Derived.Test.YtddpcehgopeklaaGreatDoorMXAF
import Derived.Test.YtddpcehgopeklaaGreatDoorMXAD
import Derived.ProofKit
import Derived.SliceStrings
namespace Go.Proofs.YtddpcehgopeklaaGreatDoor
open Go.RowKit
set_option linter.unusedVariables false

theorem kidsF_len {f : Int → List Int → List Int} {M : Nat} (hf : ∀ k O, (f k O).length ≤ max O.length M + 1) (top : Int) : ∀ (ks O : List Int), (kidsF f top ks O).length ≤ max O.length M + ks.length + 1
  | [], O => by rw [kidsF, List.length_append, List.length_singleton, List.length_nil]; omega
  | k :: ks, O => by
    rw [kidsF]
    split
    · rw [List.length_append, List.length_singleton, List.length_cons]; omega
    · have h1 := kidsF_len hf top ks (f k O)
      have h2 := hf k O
      rw [List.length_cons]; omega

theorem walkF_len {K : List (List Int)} (h3 : ∀ ks ∈ K, ks.length ≤ 3) : ∀ (n : Nat) (top : Int) (O : List Int), (walkF K n top O).length ≤ max O.length (K.length + 3 * n) + 1
  | 0, top, O => by rw [walkF, List.length_append, List.length_singleton]; omega
  | n + 1, top, O => by
    rw [walkF]
    dsimp only
    split
    · rw [List.length_append, List.length_singleton]; omega
    · rename_i hc
      have h1 := kidsF_len (M := K.length + 3 * n) (walkF_len h3 n) top (K.getD top.toNat []) O
      have h2 : (K.getD top.toNat []).length ≤ 3 := by
        rw [List.getD_eq_getElem?_getD]
        cases e : K[top.toNat]? with
        | none => simp
        | some ks => exact h3 ks (List.mem_of_getElem? e)
      omega

/-- all that was is as it was, but for the row; the row lies where it lay, or in a new block -/
def Keep (w : World) (v : Value) (w' : World) (v' : Value) : Prop := (∀ k, k < w.heap.size → some k ≠ v.ownBlock → w'.heap[k]? = w.heap[k]?) ∧ (∀ q, v'.ownBlock = some q → v.ownBlock = some q ∨ w.heap.size ≤ q) ∧ w.heap.size ≤ w'.heap.size

theorem Keep.refl (w : World) (v : Value) : Keep w v w v := ⟨fun _ _ _ => rfl, fun q h => .inl h, Nat.le_refl _⟩

theorem Keep.trans {w w1 w2 : World} {v v1 v2 : Value} (h : Keep w v w1 v1) (k : Keep w1 v1 w2 v2) : Keep w v w2 v2 :=
  ⟨fun j hj hne => (k.1 j (Nat.lt_of_lt_of_le hj h.2.2) (fun e => by
    rcases h.2.1 j e.symm with e' | e'
    · exact hne e'.symm
    · omega)).trans (h.1 j hj hne), fun q hq => by
    rcases k.2.1 q hq with e | e
    · exact h.2.1 q e
    · exact .inr (Nat.le_trans h.2.2 e), Nat.le_trans h.2.2 k.2.2⟩

theorem keep_append {w w' : World} {o : Obj} {v : Value} {g n c : Nat} (hg : (w.alloc o).grownBy w' v.ownBlock) (ha : v.ownBlock = some g ∨ g = w.heap.size + 1) : Keep w v w' (.slice (some ⟨g, 0, none⟩) n c) :=
  ⟨fun k hk hne => (hg.block k (by simp; omega) hne).trans (Below.heap_alloc w o k hk), fun q hq => by
    have : g = q := by simpa [Value.ownBlock] using hq
    subst this
    rcases ha with e | e
    · exact .inl e
    · right; omega, by have := hg.size; simp at this; omega⟩

theorem Row.keep {w w' : World} {v v' : Value} {b : Nat} {cs : Array Value} {t : TypeId} (R : Row w b cs t) (h : Keep w v w' v') (hne : v.ownBlock ≠ some b) : Row w' b cs t := ⟨(h.1 b R.lt (fun e => hne e.symm)).trans R.out⟩

def WalkAns (B : Nat) (w : World) (v : Value) (R : List Int) (e : Ending) (w' : World) : Prop := ∃ v', e = .returned v' ∧ w'.ownsRow B 3 1 v' R.length (intsV R) ∧ Below B w w' ∧ Keep w v w' v'

theorem owns_snoc {w : World} {B : Nat} {v : Value} {O : List Int} {x : Int} (h : w.ownsRow B 3 1 v (O.length + 1) (intsV O ++ [.int .i64 x])) : w.ownsRow B 3 1 v (O ++ [x]).length (intsV (O ++ [x])) := by
  rw [List.length_append, List.length_singleton, intsV, List.map_append]
  exact h

theorem walk_unfit {K : List (List Int)} {n : Nat} {top : Int} {O : List Int} (h : top < 0 ∨ (K.length : Int) ≤ top ∨ K.length < O.length) : ∀ fuel, walkF K fuel top O = O ++ [-1]
  | 0 => rfl
  | n + 1 => by rw [walkF]; exact if_pos h

set_option maxRecDepth 100000 in
set_option maxHeartbeats 6400000 in
theorem l2walk_unfit (a : Option Addr) (n c : Nat) (B : Nat) (top : Int) (O : List Int) (v : Value) (w : World) (hn : n ≤ 4000) (h : top < 0 ∨ (n : Int) ≤ top ∨ n < O.length) (hO : O.length ≤ 100000) (hBw : B ≤ w.heap.size) (O1 : w.ownsRow B 3 1 v O.length (intsV O)) :
    Calls Tryz.prog 58 #[.slice a n c, .int .i64 top, v] w fun e w' => WalkAns B w v (O ++ [-1]) e w' := by
  obtain ⟨i, hi, hz0, hz1, hz2⟩ := info_parts infoI
  obtain ⟨xv, cv, rfl, _⟩ := owns_form2 O1
  rcases (show top < 0 ∨ (0 ≤ top ∧ (n : Int) ≤ top) ∨ (0 ≤ top ∧ top < n ∧ n < O.length) by omega) with h1 | ⟨h0, h2⟩ | ⟨h0, h2, h3⟩
  · have i1 : top < 0 := h1
    go_enter Tryz.func58, Tryz.ntmps58
    go_wp2_with (at_builtin; refine wpList_append_lies _ rfl _ _ 29 rfl B 3 i (.int .i64 0) 1 8 Tryz.underlying29 hi hz0 hz1 hz2 rfl (by decide) _ _ _ rfl (World.ownsRow.alloc O1 _) ⟨w.heap.size, 0, none⟩ 1 1 [.int .i64 (-1)] rfl rfl ?a1 ?a2 (by decide) ?a3 ?a4 ?a5 _ rfl ?_)
    first | (case a1 => exact one_cell _ _ _ _ (by simp)) | skip
    case a2 => first | (intro u hu; simp at hu; subst hu; rfl) | rfl
    case a3 => unfold maxLen; omega
    case a4 => omega
    case a5 => first | (simp; omega) | omega
    intro g cap w3 O3 hgrow hat hgl
    have KP := keep_append (n := O.length + 1) (c := cap) hgrow hat
    have B3 := ((Below.refl B w).alloc hBw (.cells #[.int .i64 (-1)] 3)).grown hgrow (by simp; omega) (fun q hq => (O1.lt q hq).1)
    have O4 := owns_snoc O3
    clear hgrow hat O3
    go_wp2_with fail
    go_ret
    exact ⟨_, rfl, O4, B3, KP⟩
  · have i1 : ¬ top < 0 := by omega
    have i2 : (n : Int) ≤ top := h2
    go_enter Tryz.func58, Tryz.ntmps58
    go_wp2_with (at_builtin; refine wpList_append_lies _ rfl _ _ 29 rfl B 3 i (.int .i64 0) 1 8 Tryz.underlying29 hi hz0 hz1 hz2 rfl (by decide) _ _ _ rfl (World.ownsRow.alloc O1 _) ⟨w.heap.size, 0, none⟩ 1 1 [.int .i64 (-1)] rfl rfl ?b1 ?b2 (by decide) ?b3 ?b4 ?b5 _ rfl ?_)
    first | (case b1 => exact one_cell _ _ _ _ (by simp)) | skip
    case b2 => first | (intro u hu; simp at hu; subst hu; rfl) | rfl
    case b3 => unfold maxLen; omega
    case b4 => omega
    case b5 => first | (simp; omega) | omega
    intro g cap w3 O3 hgrow hat hgl
    have KP := keep_append (n := O.length + 1) (c := cap) hgrow hat
    have B3 := ((Below.refl B w).alloc hBw (.cells #[.int .i64 (-1)] 3)).grown hgrow (by simp; omega) (fun q hq => (O1.lt q hq).1)
    have O4 := owns_snoc O3
    clear hgrow hat O3
    go_wp2_with fail
    go_ret
    exact ⟨_, rfl, O4, B3, KP⟩
  · have i1 : ¬ top < 0 := by omega
    have i2 : ¬ ((n : Int) ≤ top) := by omega
    have i3 : (n : Int) < (O.length : Int) := by omega
    go_enter Tryz.func58, Tryz.ntmps58
    go_wp2_with (at_builtin; refine wpList_append_lies _ rfl _ _ 29 rfl B 3 i (.int .i64 0) 1 8 Tryz.underlying29 hi hz0 hz1 hz2 rfl (by decide) _ _ _ rfl (World.ownsRow.alloc O1 _) ⟨w.heap.size, 0, none⟩ 1 1 [.int .i64 (-1)] rfl rfl ?c1 ?c2 (by decide) ?c3 ?c4 ?c5 _ rfl ?_)
    first | (case c1 => exact one_cell _ _ _ _ (by simp)) | skip
    case c2 => first | (intro u hu; simp at hu; subst hu; rfl) | rfl
    case c3 => unfold maxLen; omega
    case c4 => omega
    case c5 => first | (simp; omega) | omega
    intro g cap w3 O3 hgrow hat hgl
    have KP := keep_append (n := O.length + 1) (c := cap) hgrow hat
    have B3 := ((Below.refl B w).alloc hBw (.cells #[.int .i64 (-1)] 3)).grown hgrow (by simp; omega) (fun q hq => (O1.lt q hq).1)
    have O4 := owns_snoc O3
    clear hgrow hat O3
    go_wp2_with fail
    go_ret
    exact ⟨_, rfl, O4, B3, KP⟩

theorem kidsF_drop {f : Int → List Int → List Int} {top : Int} {ks : List Int} {j : Nat} (hj : j < ks.length) (O : List Int) : kidsF f top (ks.drop j) O = if top ≤ ks[j] then O ++ [-1] else kidsF f top (ks.drop (j + 1)) (f ks[j] O) := by
  rw [List.drop_eq_getElem_cons hj, kidsF]

set_option maxRecDepth 100000 in
set_option maxHeartbeats 6400000 in
theorem l2walk_any (a : Option Addr) (n c : Nat) (N : List Nd) (w0 : World) (B : Nat) (hN : Nds w0 a n c N) (hB : w0.heap.size ≤ B) (hn : n ≤ 4000) (h3 : ∀ ks ∈ N.map Nd.kids, ks.length ≤ 3) :
    ∀ (fuel : Nat) (top : Int) (O : List Int) (v : Value) (w : World), fuel ≤ 4000 → (N.length ≤ fuel ∨ top < fuel) → O.length ≤ 100000 → Below w0.heap.size w0 w → B ≤ w.heap.size → w.ownsRow B 3 1 v O.length (intsV O) →
    Calls Tryz.prog 58 #[.slice a n c, .int .i64 top, v] w fun e w' => WalkAns B w v (walkF (N.map Nd.kids) fuel top O) e w' := by
  have HL := hide hN.len
  have HK := hide (show (N.map Nd.kids).length = n by rw [List.length_map, hN.len])
  have H3 := hide h3
  obtain ⟨i, hi, hz0, hz1, hz2⟩ := info_parts infoI
  intro fuel
  induction fuel with
  | zero =>
    intro top O v w _ hf hO hb hBw O1
    have hl := unhide HL
    rw [walk_unfit (K := N.map Nd.kids) (n := n) (by rw [List.length_map]; omega) 0]
    exact l2walk_unfit a n c B top O v w hn (by omega) hO hBw O1
  | succ fuel ih =>
    intro top O v w hfl hf hO hb hBw O1
    by_cases hu : top < 0 ∨ (n : Int) ≤ top ∨ n < O.length
    · rw [walk_unfit (K := N.map Nd.kids) (n := n) (by rw [unhide HK]; exact hu) (fuel + 1)]
      exact l2walk_unfit a n c B top O v w hn hu hO hBw O1
    · obtain ⟨t, rfl⟩ : ∃ t : Nat, top = (t : Int) := ⟨top.toNat, by omega⟩
      have htn : t < n := by omega
      have hOn : O.length ≤ n := by omega
      have htl : t < N.length := by rw [unhide HL]; exact htn
      have i1 : ¬ ((t : Int) < 0) := by omega
      have i2 : ¬ ((n : Int) ≤ (t : Int)) := by omega
      have i2' : (t : Int) < (n : Int) := by omega
      have i3 : ¬ ((n : Int) < (O.length : Int)) := by omega
      have hft : t ≤ fuel := by have := unhide HL; omega
      have HW := hide (show walkF (N.map Nd.kids) (fuel + 1) (t : Int) O = kidsF (walkF (N.map Nd.kids) fuel) (t : Int) (N[t].kids) O by
        rw [walkF]
        dsimp only
        rw [if_neg (by rw [unhide HK]; exact hu), Int.toNat_natCast, List.getD_eq_getElem?_getD, List.getElem?_map, List.getElem?_eq_getElem htl]
        rfl)
      have hk3 : N[t].kids.length ≤ 3 := unhide H3 _ (List.mem_map_of_mem (List.getElem_mem htl))
      rw [unhide HW]
      clear HW hu
      obtain ⟨b, off, rfl, hbl, an, nn, cn, ak, nk, ck, c0, c1, c2, c3, c4, hNm, hKd⟩ := hN.cells t htl
      have c4 := (hb.cell (p := ⟨b, off + t * 5 + 4, none⟩) hbl).trans c4
      have HWL := hide (fun k O => walkF_len (K := N.map Nd.kids) (unhide H3) fuel k O)
      rw [unhide HK] at HWL
      generalize N[t] = x at c0 c1 c2 c3 c4 hNm hKd hk3 ⊢
      generalize walkF (N.map Nd.kids) fuel = F at ih HWL ⊢
      have HKL := hide hKd.len
      have hnk : nk ≤ 3 := by rw [← hKd.len]; exact hk3
      obtain ⟨xv, cv, rfl, _⟩ := owns_form2 O1
      have HRR := hide (show kidsF F (t : Int) (x.kids.drop 0) O = kidsF F (t : Int) x.kids O by rw [List.drop_zero])
      generalize kidsF F (t : Int) x.kids O = R at HRR ⊢
      clear c0 c1 c2 c3 hk3
      go_enter Tryz.func58, Tryz.ntmps58
      go_wp2_with fail
      go_loopw [2, 33] (fun u i wr => ∃ (j : Nat) (O' : List Int), j ≤ nk ∧ i = .int .i64 j ∧ Hid (kidsF F (t : Int) (x.kids.drop j) O' = R) ∧ O'.length ≤ n + 3 * fuel + j ∧ wr.ownsRow B 3 1 u O'.length (intsV O') ∧ Below B w wr ∧ Keep w (.slice xv O.length cv) wr u) (fun _ i _ => nk - (intOf i).toNat)
      case atStart => exact ⟨0, O, by omega, rfl, HRR, by omega, O1, Below.refl _ _, Keep.refl _ _⟩
      case round =>
        obtain ⟨j, O', hj, rfl, HJ, hOl, P1, E1, KE⟩ := hrel
        obtain ⟨xu, cu, rfl, _⟩ := owns_form2 P1
        have E1s := Nat.le_trans hBw E1.size
        have E0 := hb.trans (E1.mono hB)
        by_cases hjl : j < nk
        · have ijl : (j : Int) < (nk : Int) := by omega
          have hjk : j < x.kids.length := by rw [unhide HKL]; exact hjl
          obtain ⟨bk, ok, rfl, hbk, ck0⟩ := (hKd.below E0 (Nat.le_refl _)).cells j hjk
          have HD := hide (kidsF_drop (f := F) (top := (t : Int)) hjk O')
          rw [unhide HJ] at HD
          have Hjl := hide hjl
          generalize x.kids[j] = y at ck0 HD
          by_cases hy : (t : Int) ≤ y
          · have HX := hide (show R = O' ++ [-1] by rw [unhide HD, if_pos hy])
            go_wp2_with (at_builtin; refine wpList_append_lies _ rfl _ _ 29 rfl B 3 i (.int .i64 0) 1 8 Tryz.underlying29 hi hz0 hz1 hz2 rfl (by decide) _ _ _ rfl (World.ownsRow.alloc P1 _) ⟨wr.heap.size, 0, none⟩ 1 1 [.int .i64 (-1)] rfl rfl ?d1 ?d2 (by decide) ?d3 ?d4 ?d5 _ rfl ?_)
            first | (case d1 => exact one_cell _ _ _ _ (by simp)) | skip
            case d2 => first | (intro u hu; simp at hu; subst hu; rfl) | rfl
            case d3 => unfold maxLen; omega
            case d4 => omega
            case d5 => first | (simp; omega) | omega
            intro g cap w3 O3 hgrow hat hgl
            have KP := keep_append (n := O'.length + 1) (c := cap) hgrow hat
            have B3 := (E1.alloc E1s (.cells #[.int .i64 (-1)] 3)).grown hgrow (by simp; omega) (fun q hq => (P1.lt q hq).1)
            have O4 := owns_snoc O3
            clear hgrow hat O3
            go_wp2_with fail
            go_ret
            exact ⟨_, rfl, by rw [unhide HX]; exact O4, B3, KE.trans KP⟩
          · have HX := hide (show kidsF F (t : Int) (x.kids.drop (j + 1)) (F y O') = R by rw [unhide HD, if_neg hy])
            have hwl := unhide HWL y O'
            clear HD
            go_wp2_with (go_at_call 58; refine (ih y O' _ wr (by omega) (by omega) (by omega) E0 E1s P1).mono ?_; rintro e w2 ⟨v2, rfl, O2, hb2, K2⟩)
            go_roundw
            case rel => exact ⟨j + 1, F y O', unhide Hjl, by go_num, HX, by omega, O2, E1.trans hb2, KE.trans K2⟩
            case measure => have := unhide Hjl; simp [intOf]; omega
        · have e : j = nk := by omega
          subst e
          have HX := hide (show R = O' ++ [(t : Int)] by
            rw [← unhide HJ, List.drop_of_length_le (by rw [unhide HKL]; exact Nat.le_refl _), kidsF])
          go_wp2_with (at_builtin; refine wpList_append_lies _ rfl _ _ 29 rfl B 3 i (.int .i64 0) 1 8 Tryz.underlying29 hi hz0 hz1 hz2 rfl (by decide) _ _ _ rfl (World.ownsRow.alloc P1 _) ⟨wr.heap.size, 0, none⟩ 1 1 [.int .i64 (t : Int)] rfl rfl ?e1 ?e2 (by decide) ?e3 ?e4 ?e5 _ rfl ?_)
          first | (case e1 => exact one_cell _ _ _ _ (by simp)) | skip
          case e2 => first | (intro u hu; simp at hu; subst hu; rfl) | rfl
          case e3 => unfold maxLen; omega
          case e4 => omega
          case e5 => first | (simp; omega) | omega
          intro g cap w3 O3 hgrow hat hgl
          have KP := keep_append (n := O'.length + 1) (c := cap) hgrow hat
          have B3 := (E1.alloc E1s (.cells #[.int .i64 (t : Int)] 3)).grown hgrow (by simp; omega) (fun q hq => (P1.lt q hq).1)
          have O4 := owns_snoc O3
          clear hgrow hat O3
          go_wp2_with fail
          go_ret
          exact ⟨_, rfl, by rw [unhide HX]; exact O4, B3, KE.trans KP⟩

end Go.Proofs.YtddpcehgopeklaaGreatDoor

namespace Go.Proofs.YtddpcehgopeklaaGreatDoor
open Go.RowKit
set_option linter.unusedVariables false

def optV (Es : List Ex) (k : Int) : Value := if k = -1 then .nilIface else match Es[k.toNat]? with
  | some e => e.val
  | none => .nilIface

def stmV (Es : List Ex) (j : Nat) (s : St) : List Value := [.int .i64 j, .int .i64 s.kind, .string s.name, optV Es s.cond, optV Es s.grant]

def stC (Es : List Ex) : Nat → List St → List Value
  | _, [] => []
  | i, s :: L => stmV Es i s ++ stC Es (i + 1) L

theorem stC_len (Es : List Ex) : ∀ (L : List St) (i : Nat), (stC Es i L).length = L.length * 5
  | [], i => rfl
  | s :: L, i => by rw [stC, List.length_append, stC_len Es L (i + 1)]; simp [stmV]; omega

theorem stC_snoc (Es : List Ex) (s : St) : ∀ (L : List St) (i : Nat), stC Es i (L ++ [s]) = stC Es i L ++ stmV Es (i + L.length) s
  | [], i => by simp [stC]
  | x :: L, i => by
    rw [List.cons_append, stC, stC, stC_snoc Es s L (i + 1), List.append_assoc]
    congr 3
    simp; omega

theorem infoStm : (Tryz.prog.info? 90).map (fun i => (i.zero, i.size, i.bytes)) = some (some (.agg #[.int .i64 0, .int .i64 0, .string ByteArray.empty, .nilIface, .nilIface]), 5, 64) := by kernel_rfl

theorem optV_none (Es : List Ex) : optV Es (-1) = .nilIface := rfl

theorem optV_some {Es : List Ex} {k : Int} (h0 : 0 ≤ k) (h : k < Es.length) : optV Es k = (Es[k.toNat]'(by omega)).val := by
  rw [optV, if_neg (by omega), List.getElem?_eq_getElem (by omega)]

theorem five_cell (w : World) (v0 v1 v2 v3 v4 : Value) (t : TypeId) (b : Nat) (hb : b = w.heap.size) : ∀ j u, ([v0, v1, v2, v3, v4] : List Value)[j]? = some u → (w.alloc (.cells #[v0, v1, v2, v3, v4] t)).cell? ((⟨b, 0, none⟩ : Addr).add j) = some u := fun j u h => by
  subst hb
  have hadd : (⟨w.heap.size, 0, none⟩ : Addr).add j = ⟨w.heap.size, j, none⟩ := by by_cases e : j = 0 <;> simp [Addr.add, e]
  rw [hadd, (Row.new w #[v0, v1, v2, v3, v4] t).cell j, ← h]
  simp

theorem own_set {w : World} {base : Nat} {e : TypeId} {size n : Nat} {v : Value} {xs : List Value} (h : w.ownsRow base e size v n xs) (p : Addr) (u : Value) (hp : ∀ q, v.ownBlock = some q → q ≠ p.block) : (w.setCell p u).ownsRow base e size v n xs :=
  owns_blocks2 h (fun q hq => heap_setCell_other w p q u (hp q hq))

set_option maxHeartbeats 1600000 in
set_option maxRecDepth 100000 in
theorem statementsOf_any (a b : Option Addr) (n c m d : Nat) (N : List Nd) (L : List St) (w0 w : World) (h : Nds w0 a n c N) (hw : Below w0.heap.size w0 w) (hL : Sts w b m d L) (P : Ex → Prop) (hM : Makes w0 N P)
    (hR : ∀ s ∈ L, (s.cond = -1 ∨ (0 ≤ s.cond ∧ s.cond < n)) ∧ (s.grant = -1 ∨ (0 ≤ s.grant ∧ s.grant < n))) :
    Calls Tryz.prog 41 #[.agg #[.slice a n c, .slice b m d]] w fun r w' => (∃ v Es, r = .returned v ∧ Es.length = n ∧ (∀ j, (h : j < Es.length) → IsT N j Es[j]) ∧ (∀ e ∈ Es, P e) ∧ w'.ownsRow w.heap.size 90 5 v m (stC Es 0 L)) ∧ Below w.heap.size w w' := by
  have hm := hL.small
  have hn := h.small
  have HL := hide hL.len
  have HR := hide hR
  have R0 := Row.new w #[.slice a n c, .slice b m d] 37
  have B0 := (Below.refl w.heap.size w).alloc (Nat.le_refl _) (.cells #[.slice a n c, .slice b m d] 37)
  have HT := hide (treesOf_any a n c N w0 _ h (hw.trans (B0.mono hw.size)) P hM)
  clear hR hM h
  obtain ⟨ie, hie, ez0, ez1, ez2⟩ := info_parts infoStm
  go_enter Tryz.func41, Tryz.ntmps41
  go_wp2_with fail
  refine (unhide HT).mono ?_
  rintro r w1 ⟨⟨v, Es, rfl, hEl, O1⟩, hb1⟩
  subst hEl
  have B1 := B0.trans (hb1.mono B0.size)
  have R1 := R0.after hb1 (Nat.le_refl _)
  have p0 : w1.cell? ⟨w.heap.size, 0, none⟩ = some (.slice a Es.length c) := R1.cell 0
  have p1 : w1.cell? ⟨w.heap.size, 1, none⟩ = some (.slice b m d) := R1.cell 1
  obtain ⟨av, cv, rfl, T1⟩ := O1.trs (by omega)
  have z1 := B1.size
  dsimp only
  go_wp2_with fail
  go_loopw [4, 14] (fun v i wr => ∃ (k : Nat), k ≤ m ∧ i = .int .i64 k ∧ wr.ownsRow w1.heap.size 90 5 v k (stC Es 0 (L.take k)) ∧ Below w1.heap.size w1 wr) (fun _ i _ => m - (intOf i).toNat)
  case atStart => exact ⟨0, by omega, rfl, World.ownsRow_nil _ _ _ _, Below.refl _ _⟩
  case round =>
    obtain ⟨k, hk, rfl, Q1, D1⟩ := hrel
    have zd := D1.size
    by_cases hlt : k < m
    · have ilt : (k : Int) < (m : Int) := by omega
      have hkl : k < L.length := by rw [unhide HL]; exact hlt
      obtain ⟨b1, off, rfl, hbl, c0, c1, c2, c3⟩ := (hL.below (B1.trans (D1.mono B1.size)) (Nat.le_refl _)).cells k hkl
      obtain ⟨hr1, hr2⟩ := unhide HR L[k] (List.getElem_mem hkl)
      have HS := hide (show stC Es 0 (L.take (k + 1)) = stC Es 0 (L.take k) ++ stmV Es k L[k] by
        rw [List.take_succ_eq_append_getElem hkl, stC_snoc, List.length_take, Nat.zero_add, show min k L.length = k by omega])
      have Hlt := hide hlt
      generalize L[k] = s at c0 c1 c2 c3 hr1 hr2 HS
      generalize stC Es 0 (L.take k) = A at Q1 HS
      obtain ⟨xv, kv, rfl, _⟩ := owns_form2 Q1
      have T2 := T1.below D1 (Nat.le_refl _)
      clear hkl hlt T1
      obtain ⟨cd, hcd⟩ : ∃ cd, cd = s.cond := ⟨_, rfl⟩
      obtain ⟨gr, hgr⟩ : ∃ gr, gr = s.grant := ⟨_, rfl⟩
      rw [← hcd] at c2 hr1
      rw [← hgr] at c3 hr2
      have HV := hide (show stmV Es k s = [.int .i64 k, .int .i64 s.kind, .string s.name, optV Es cd, optV Es gr] by rw [hcd, hgr]; rfl)
      rw [unhide HV] at HS
      clear hcd hgr HV
      generalize s.kind = kd at c0 HS
      generalize s.name = nm at c1 HS
      rcases hr1 with rfl | hr1
      · rcases hr2 with rfl | hr2
        · have Q2 := (Q1.alloc (.cells #[.int .i64 kd, .string nm, .int .i64 (-1), .int .i64 (-1)] 77)).alloc (.cells #[.int .i64 k, .int .i64 kd, .string nm, .nilIface, .nilIface] 90)
          have D2 := (D1.alloc D1.size (.cells #[.int .i64 kd, .string nm, .int .i64 (-1), .int .i64 (-1)] 77)).alloc (by simp; omega) (.cells #[.int .i64 k, .int .i64 kd, .string nm, .nilIface, .nilIface] 90)
          have HW := hide (show [Value.int .i64 k, .int .i64 kd, .string nm, optV Es (-1), optV Es (-1)] = [.int .i64 k, .int .i64 kd, .string nm, .nilIface, .nilIface] by rw [optV_none])
          rw [unhide HW] at HS
          go_wp2_with (at_builtin; refine wpList_append_own _ rfl _ _ 82 rfl w1.heap.size 90 ie (.agg #[.int .i64 0, .int .i64 0, .string ByteArray.empty, .nilIface, .nilIface]) 5 64 Tryz.underlying82 hie ez0 ez1 ez2 rfl (by decide) _ _ _ rfl (World.ownsRow.alloc Q2 _) ⟨wr.heap.size + 2, 0, none⟩ 1 1 [.int .i64 k, .int .i64 kd, .string nm, .nilIface, .nilIface] rfl rfl ?d1 ?d2 ?d3 ?d4 ?d5 ?_)
          case d1 => exact five_cell _ _ _ _ _ _ _ _ (by simp)
          case d2 => intro u hu; simp at hu; rcases hu with rfl | rfl | rfl | rfl <;> rfl
          case d3 => unfold maxLen; omega
          case d4 => omega
          case d5 => simp; omega
          intro v' w4 Q5 hgrow _
          have D5 := (D2.alloc D2.size (.cells #[.int .i64 k, .int .i64 kd, .string nm, .nilIface, .nilIface] 90)).grown hgrow (by simp; omega) (fun q hq => (Q2.lt q hq).1)
          clear hgrow
          go_wp2_with fail
          go_roundw
          case rel => exact ⟨k + 1, unhide Hlt, by go_num, by rw [unhide HS]; exact Q5, D5⟩
          case measure => have := unhide Hlt; simp [intOf]; omega
        · obtain ⟨qg, rfl⟩ : ∃ qg : Nat, gr = (qg : Int) := ⟨gr.toNat, by omega⟩
          have HG1 := hide (optV_some (Es := Es) (k := (qg : Int)) (by omega) (by omega))
          obtain ⟨bqg, oqg, haqg, lqg, gqg, iqg⟩ := T2.get (k := qg) (List.getElem?_eq_getElem (by omega))
          simp only [Int.toNat_natCast] at HG1
          obtain ⟨tg, ug, fqg⟩ := (Es[qg]'(by omega)).form
          rw [fqg] at HG1 gqg
          have nqg : ((qg : Int) == -1) = false := beq_eq_false_iff_ne.2 (by omega)
          have mqg : ((qg : Int) != -1) = true := bne_iff_ne.2 (by omega)
          have jqg : (qg : Int) < (Es.length : Int) := by omega
          subst haqg
          have Q2 := (Q1.alloc (.cells #[.int .i64 kd, .string nm, .int .i64 (-1), .int .i64 qg] 77)).alloc (.cells #[.int .i64 k, .int .i64 kd, .string nm, .nilIface, .iface tg ug] 90)
          have D2 := (D1.alloc D1.size (.cells #[.int .i64 kd, .string nm, .int .i64 (-1), .int .i64 qg] 77)).alloc (by simp; omega) (.cells #[.int .i64 k, .int .i64 kd, .string nm, .nilIface, .iface tg ug] 90)
          have HW := hide (show [Value.int .i64 k, .int .i64 kd, .string nm, optV Es (-1), optV Es qg] = [.int .i64 k, .int .i64 kd, .string nm, .nilIface, .iface tg ug] by rw [unhide HG1, optV_none])
          rw [unhide HW] at HS
          go_wp2_with (at_builtin; refine wpList_append_own _ rfl _ _ 82 rfl w1.heap.size 90 ie (.agg #[.int .i64 0, .int .i64 0, .string ByteArray.empty, .nilIface, .nilIface]) 5 64 Tryz.underlying82 hie ez0 ez1 ez2 rfl (by decide) _ _ _ rfl (World.ownsRow.alloc Q2 _) ⟨wr.heap.size + 2, 0, none⟩ 1 1 [.int .i64 k, .int .i64 kd, .string nm, .nilIface, .iface tg ug] rfl rfl ?d1 ?d2 ?d3 ?d4 ?d5 ?_)
          case d1 => exact five_cell _ _ _ _ _ _ _ _ (by simp)
          case d2 => intro u hu; simp at hu; rcases hu with rfl | rfl | rfl | rfl | rfl <;> rfl
          case d3 => unfold maxLen; omega
          case d4 => omega
          case d5 => simp; omega
          intro v' w4 Q5 hgrow _
          have D5 := (D2.alloc D2.size (.cells #[.int .i64 k, .int .i64 kd, .string nm, .nilIface, .iface tg ug] 90)).grown hgrow (by simp; omega) (fun q hq => (Q2.lt q hq).1)
          clear hgrow
          go_wp2_with fail
          go_roundw
          case rel => exact ⟨k + 1, unhide Hlt, by go_num, by rw [unhide HS]; exact Q5, D5⟩
          case measure => have := unhide Hlt; simp [intOf]; omega
      · obtain ⟨qc, rfl⟩ : ∃ qc : Nat, cd = (qc : Int) := ⟨cd.toNat, by omega⟩
        have HC1 := hide (optV_some (Es := Es) (k := (qc : Int)) (by omega) (by omega))
        obtain ⟨bqc, oqc, haqc, lqc, gqc, iqc⟩ := T2.get (k := qc) (List.getElem?_eq_getElem (by omega))
        simp only [Int.toNat_natCast] at HC1
        obtain ⟨tc, uc, fqc⟩ := (Es[qc]'(by omega)).form
        rw [fqc] at HC1 gqc
        have nqc : ((qc : Int) == -1) = false := beq_eq_false_iff_ne.2 (by omega)
        have mqc : ((qc : Int) != -1) = true := bne_iff_ne.2 (by omega)
        have jqc : (qc : Int) < (Es.length : Int) := by omega
        rcases hr2 with rfl | hr2
        · subst haqc
          have Q2 := (Q1.alloc (.cells #[.int .i64 kd, .string nm, .int .i64 qc, .int .i64 (-1)] 77)).alloc (.cells #[.int .i64 k, .int .i64 kd, .string nm, .iface tc uc, .nilIface] 90)
          have D2 := (D1.alloc D1.size (.cells #[.int .i64 kd, .string nm, .int .i64 qc, .int .i64 (-1)] 77)).alloc (by simp; omega) (.cells #[.int .i64 k, .int .i64 kd, .string nm, .iface tc uc, .nilIface] 90)
          have HW := hide (show [Value.int .i64 k, .int .i64 kd, .string nm, optV Es qc, optV Es (-1)] = [.int .i64 k, .int .i64 kd, .string nm, .iface tc uc, .nilIface] by rw [unhide HC1, optV_none])
          rw [unhide HW] at HS
          go_wp2_with (at_builtin; refine wpList_append_own _ rfl _ _ 82 rfl w1.heap.size 90 ie (.agg #[.int .i64 0, .int .i64 0, .string ByteArray.empty, .nilIface, .nilIface]) 5 64 Tryz.underlying82 hie ez0 ez1 ez2 rfl (by decide) _ _ _ rfl (World.ownsRow.alloc Q2 _) ⟨wr.heap.size + 2, 0, none⟩ 1 1 [.int .i64 k, .int .i64 kd, .string nm, .iface tc uc, .nilIface] rfl rfl ?d1 ?d2 ?d3 ?d4 ?d5 ?_)
          case d1 => exact five_cell _ _ _ _ _ _ _ _ (by simp)
          case d2 => intro u hu; simp at hu; rcases hu with rfl | rfl | rfl | rfl | rfl <;> rfl
          case d3 => unfold maxLen; omega
          case d4 => omega
          case d5 => simp; omega
          intro v' w4 Q5 hgrow _
          have D5 := (D2.alloc D2.size (.cells #[.int .i64 k, .int .i64 kd, .string nm, .iface tc uc, .nilIface] 90)).grown hgrow (by simp; omega) (fun q hq => (Q2.lt q hq).1)
          clear hgrow
          go_wp2_with fail
          go_roundw
          case rel => exact ⟨k + 1, unhide Hlt, by go_num, by rw [unhide HS]; exact Q5, D5⟩
          case measure => have := unhide Hlt; simp [intOf]; omega
        · obtain ⟨qg, rfl⟩ : ∃ qg : Nat, gr = (qg : Int) := ⟨gr.toNat, by omega⟩
          have HG1 := hide (optV_some (Es := Es) (k := (qg : Int)) (by omega) (by omega))
          obtain ⟨bqg, oqg, haqg, lqg, gqg, iqg⟩ := T2.get (k := qg) (List.getElem?_eq_getElem (by omega))
          simp only [Int.toNat_natCast] at HG1
          obtain ⟨tg, ug, fqg⟩ := (Es[qg]'(by omega)).form
          rw [fqg] at HG1 gqg
          have nqg : ((qg : Int) == -1) = false := beq_eq_false_iff_ne.2 (by omega)
          have mqg : ((qg : Int) != -1) = true := bne_iff_ne.2 (by omega)
          have jqg : (qg : Int) < (Es.length : Int) := by omega
          subst haqc
          obtain ⟨rfl, rfl⟩ : bqc = bqg ∧ oqc = oqg := by simpa using haqg
          clear haqg
          have Q2 := (Q1.alloc (.cells #[.int .i64 kd, .string nm, .int .i64 qc, .int .i64 qg] 77)).alloc (.cells #[.int .i64 k, .int .i64 kd, .string nm, .iface tc uc, .iface tg ug] 90)
          have D2 := (D1.alloc D1.size (.cells #[.int .i64 kd, .string nm, .int .i64 qc, .int .i64 qg] 77)).alloc (by simp; omega) (.cells #[.int .i64 k, .int .i64 kd, .string nm, .iface tc uc, .iface tg ug] 90)
          have HW := hide (show [Value.int .i64 k, .int .i64 kd, .string nm, optV Es qc, optV Es qg] = [.int .i64 k, .int .i64 kd, .string nm, .iface tc uc, .iface tg ug] by rw [unhide HC1, unhide HG1])
          rw [unhide HW] at HS
          go_wp2_with (at_builtin; refine wpList_append_own _ rfl _ _ 82 rfl w1.heap.size 90 ie (.agg #[.int .i64 0, .int .i64 0, .string ByteArray.empty, .nilIface, .nilIface]) 5 64 Tryz.underlying82 hie ez0 ez1 ez2 rfl (by decide) _ _ _ rfl (World.ownsRow.alloc Q2 _) ⟨wr.heap.size + 2, 0, none⟩ 1 1 [.int .i64 k, .int .i64 kd, .string nm, .iface tc uc, .iface tg ug] rfl rfl ?d1 ?d2 ?d3 ?d4 ?d5 ?_)
          case d1 => exact five_cell _ _ _ _ _ _ _ _ (by simp)
          case d2 => intro u hu; simp at hu; rcases hu with rfl | rfl | rfl | rfl | rfl <;> rfl
          case d3 => unfold maxLen; omega
          case d4 => omega
          case d5 => simp; omega
          intro v' w4 Q5 hgrow _
          have D5 := (D2.alloc D2.size (.cells #[.int .i64 k, .int .i64 kd, .string nm, .iface tc uc, .iface tg ug] 90)).grown hgrow (by simp; omega) (fun q hq => (Q2.lt q hq).1)
          clear hgrow
          go_wp2_with fail
          go_roundw
          case rel => exact ⟨k + 1, unhide Hlt, by go_num, by rw [unhide HS]; exact Q5, D5⟩
          case measure => have := unhide Hlt; simp [intOf]; omega
    · have e : k = m := by omega
      subst e
      rw [show L.take k = L by rw [← unhide HL, List.take_length]] at Q1
      obtain ⟨xv, kv, rfl, _⟩ := owns_form2 Q1
      go_wp2_with fail
      go_ret
      exact ⟨⟨_, Es, rfl, rfl, O1.tree, O1.fit, ownsRow_low Q1 z1⟩, B1.trans (D1.mono B1.size)⟩

end Go.Proofs.YtddpcehgopeklaaGreatDoor

namespace Go.Proofs.YtddpcehgopeklaaGreatDoor
open Go.RowKit Go.Extern.Stop Go.Stop Go.Extern

theorem as_valueOf27 (t : Addr) (w : World) : (ReflectliteValue.unpack (.iface 99 (.pointer (some t)))).run Tryz.prog w
    = .ok (.agg #[.pointer (some ⟨14, 99, none⟩), .pointer (some ⟨w.heap.size, 0, none⟩), .int .u64 150]) (w.alloc (.cells #[.pointer (some t)] 99)) := by kernel_rfl
theorem as_type27 (a : Addr) (w : World) : (ReflectliteValue.methodAny (ReflectliteValue.valueError "reflectlite.Value.Type" 0) (fun t _ _ _ => ReflectliteType.toType t) #[.agg #[.pointer (some ⟨14, 99, none⟩), .pointer (some a), .int .u64 150]]).run Tryz.prog w
    = .ok (.iface 177 (.agg #[.pointer (some ⟨14, 99, none⟩)])) w := by kernel_rfl
theorem as_methodKind (h : Value) (w : World) : (Go.method 357 177 (.agg #[h]) "Kind").run Tryz.prog w = .ok (138, h) w := by kernel_rfl
theorem as_kind27 (w : World) : ((ReflectliteType.abiMethod fun t => (fun a : Nat => Value.int IntKind.u8 (a : Int)) <$> Rtype.kind t) #[.pointer (some ⟨14, 99, none⟩)]).run Tryz.prog w = .ok (.int .u8 22) w := by kernel_rfl
theorem as_kind25 (w : World) : ((ReflectliteType.abiMethod fun t => (fun a : Nat => Value.int IntKind.u8 (a : Int)) <$> Rtype.kind t) #[.pointer (some ⟨14, 97, none⟩)]).run Tryz.prog w = .ok (.int .u8 22) w := by kernel_rfl

theorem rl_one {motive : Array Value → Sort _} (v : Value) (h1 : (v : Value) → motive #[v]) (h2 : (x : Array Value) → motive x) : ReflectliteValue.method.match_2 motive #[v] h1 h2 = h1 v := rfl
theorem rl_two {motive : Array Value → Sort _} (v x : Value) (h1 : (v x : Value) → motive #[v, x]) (h2 : (x : Array Value) → motive x) : ReflectliteValue.set.match_3 motive #[v, x] h1 h2 = h1 v x := rfl
theorem as_parts27 (a : Addr) (w : World) : (ReflectliteValue.parts (.agg #[.pointer (some ⟨14, 99, none⟩), .pointer (some a), .int .u64 150])).run Tryz.prog w = .ok (some (99, a, 150)) w := by kernel_rfl
/-- (Value).IsNil at the Value of a **p.E that is not nil. -/
theorem as_isNil27 (a p : Addr) (W : World) (ha : W.cell? a = some (.pointer (some p))) :
    (ReflectliteValue.method (ReflectliteValue.valueError "reflectlite.Value.IsNil" 0) ReflectliteValue.isNil #[.agg #[.pointer (some ⟨14, 99, none⟩), .pointer (some a), .int .u64 150]]).run Tryz.prog W = .ok (.bool false) W := by
  delta ReflectliteValue.method
  rw [rl_one]
  simp only [Sem.run_bind, as_parts27, Result.andThen]
  simp [ReflectliteValue.isNil, loadVar, isAgg, underlying, Tryz.underlying99, ha, Result.andThen]

theorem as_methodElem (h : Value) (w : World) : (Go.method 357 177 (.agg #[h]) "Elem").run Tryz.prog w = .ok (157, .agg #[h]) w := by kernel_rfl
theorem as_methodImplements (h : Value) (w : World) : (Go.method 357 177 (.agg #[h]) "Implements").run Tryz.prog w = .ok (158, .agg #[h]) w := by kernel_rfl
theorem as_methodAssignableTo (h : Value) (w : World) : (Go.method 357 177 (.agg #[h]) "AssignableTo").run Tryz.prog w = .ok (155, .agg #[h]) w := by kernel_rfl
theorem as_elem27 (w : World) : (ReflectliteType.method ReflectliteType.elem #[.agg #[.pointer (some ⟨14, 99, none⟩)]]).run Tryz.prog w = .ok (.iface 177 (.agg #[.pointer (some ⟨14, 97, none⟩)])) w := by kernel_rfl
theorem as_implements25 (w : World) : (ReflectliteType.relation "Implements" ReflectliteType.implements_ #[.agg #[.pointer (some ⟨14, 97, none⟩)], .iface 177 (.agg #[.pointer (some ⟨14, 59, none⟩)])]).run Tryz.prog w = .ok (.bool true) w := by kernel_rfl
theorem as_typeOf25 (v : Value) (w : World) : (ReflectliteType.typeOf #[.iface 97 v]).run Tryz.prog w = .ok (.iface 177 (.agg #[.pointer (some ⟨14, 97, none⟩)])) w := by kernel_rfl
theorem as_assignable25 (w : World) : (ReflectliteType.relation "AssignableTo" ReflectliteType.assignableTo #[.agg #[.pointer (some ⟨14, 97, none⟩)], .iface 177 (.agg #[.pointer (some ⟨14, 97, none⟩)])]).run Tryz.prog w = .ok (.bool true) w := by kernel_rfl
theorem as_valueOf25 (e : Addr) (w : World) : (ReflectliteValue.unpack (.iface 97 (.pointer (some e)))).run Tryz.prog w
    = .ok (.agg #[.pointer (some ⟨14, 97, none⟩), .pointer (some ⟨w.heap.size, 0, none⟩), .int .u64 150]) (w.alloc (.cells #[.pointer (some e)] 97)) := by kernel_rfl

theorem as_elemOf27 (w : World) : (Rtype.elem? 99).run Tryz.prog w = .ok (some 97) w := by kernel_rfl
theorem as_mk25 (p : Addr) (w : World) : (ReflectliteValue.mk 97 p ReflectliteValue.flagAddr).run Tryz.prog w = .ok (.agg #[.pointer (some ⟨14, 97, none⟩), .pointer (some p), .int .u64 406]) w := by kernel_rfl
/-- (Value).Elem at the Value of a **p.E that is not nil: the Value of the *p.E variable that it points to, addressable. -/
theorem as_elemV27 (a p : Addr) (W : World) (ha : W.cell? a = some (.pointer (some p))) :
    (ReflectliteValue.method (ReflectliteValue.valueError "reflectlite.Value.Elem" 0) ReflectliteValue.elem #[.agg #[.pointer (some ⟨14, 99, none⟩), .pointer (some a), .int .u64 150]]).run Tryz.prog W
      = .ok (.agg #[.pointer (some ⟨14, 97, none⟩), .pointer (some p), .int .u64 406]) W := by
  delta ReflectliteValue.method
  rw [rl_one]
  simp only [Sem.run_bind, as_parts27, Result.andThen]
  simp [ReflectliteValue.elem, loadVar, isAgg, underlying, Tryz.underlying99, ha, Result.andThen, as_elemOf27, as_mk25]
theorem as_parts25a (a : Addr) (w : World) : (ReflectliteValue.parts (.agg #[.pointer (some ⟨14, 97, none⟩), .pointer (some a), .int .u64 406])).run Tryz.prog w = .ok (some (97, a, 406)) w := by kernel_rfl
theorem as_parts25 (a : Addr) (w : World) : (ReflectliteValue.parts (.agg #[.pointer (some ⟨14, 97, none⟩), .pointer (some a), .int .u64 150])).run Tryz.prog w = .ok (some (97, a, 150)) w := by kernel_rfl
theorem as_direct25 (w : World) : (Rtype.directlyAssignable 97 97).run Tryz.prog w = .ok true w := by kernel_rfl
/-- (Value).Set: the *p.E variable at 'ta' gets what the Value's own variable 'b' holds. -/
theorem as_set25 (ta b e : Addr) (old : Value) (W : World) (hb : W.cell? b = some (.pointer (some e))) (ht : W.cell? ta = some old) (hf : W.frozen? ta = false) :
    (ReflectliteValue.set #[.agg #[.pointer (some ⟨14, 97, none⟩), .pointer (some ta), .int .u64 406], .agg #[.pointer (some ⟨14, 97, none⟩), .pointer (some b), .int .u64 150]]).run Tryz.prog W
      = .ok (.tuple #[]) (W.setCell ta (.pointer (some e))) := by
  delta ReflectliteValue.set
  rw [rl_two]
  simp only [Sem.run_bind, as_parts25a, as_parts25, Result.andThen]
  simp [ReflectliteValue.flagAddr, loadVar, isAgg, underlying, Tryz.underlying97, hb, Result.andThen, as_direct25, storeVar, Value.cells, storeCells, Addr.add]
  rw [run_store Tryz.prog W ta _ _ (by rfl)]
  simp [ht, hf]

set_option maxHeartbeats 4000000 in
theorem as_hit (e t : Addr) (old : Value) (w : World) (hg : w.cell? ⟨2, 0, none⟩ = some (.iface 177 (.agg #[.pointer (some ⟨14, 59, none⟩)]))) (ht0 : w.cell? t = some old) (hf0 : w.frozen? t = false) :
    Calls Tryz.prog 47 #[.iface 97 (.pointer (some e)), .iface 99 (.pointer (some t))] w fun ev w' => ev = .returned (.bool true) ∧ w' = ((((w.alloc (.cells #[.pointer (some t)] 99)).alloc (.cells #[.pointer (some ⟨14, 99, none⟩), .pointer (some ⟨w.heap.size, 0, none⟩), .int .u64 150] 137)).alloc (.cells #[.pointer (some ⟨14, 99, none⟩), .pointer (some ⟨w.heap.size, 0, none⟩), .int .u64 150] 137)).alloc (.cells #[.pointer (some e)] 97)).setCell t (.pointer (some e)) := by
  have h6 := @run_callFunc_extern Tryz.prog 70 _ (fun args => ReflectliteValue.unpack (args.getD 0 (.tuple #[]))) Tryz.func70 (by kernel_rfl) (by kernel_rfl) (by kernel_rfl) (by kernel_rfl)
  have h7 := @run_callFunc_extern Tryz.prog 71 _ (ReflectliteValue.methodAny (ReflectliteValue.valueError "reflectlite.Value.Type" 0) (fun t _ _ _ => ReflectliteType.toType t)) Tryz.func71 (by kernel_rfl) (by kernel_rfl) (by kernel_rfl) (by kernel_rfl)
  have h8 := @run_callFunc_extern Tryz.prog 72 _ (ReflectliteValue.method (ReflectliteValue.valueError "reflectlite.Value.IsNil" 0) ReflectliteValue.isNil) Tryz.func72 (by kernel_rfl) (by kernel_rfl) (by kernel_rfl) (by kernel_rfl)
  have h27 := @run_callFunc_extern Tryz.prog 138 _ (ReflectliteType.abiMethod fun t => do pure (.int .u8 (← Rtype.kind t))) Tryz.func138 (by kernel_rfl) (by kernel_rfl) (by kernel_rfl) (by kernel_rfl)
  have h37 := @run_callFunc_extern Tryz.prog 157 _ (ReflectliteType.method ReflectliteType.elem) Tryz.func157 (by kernel_rfl) (by kernel_rfl) (by kernel_rfl) (by kernel_rfl)
  have h38 := @run_callFunc_extern Tryz.prog 158 _ (ReflectliteType.relation "Implements" ReflectliteType.implements_) Tryz.func158 (by kernel_rfl) (by kernel_rfl) (by kernel_rfl) (by kernel_rfl)
  have h10 := @run_callFunc_extern Tryz.prog 97 _ ReflectliteType.typeOf Tryz.func97 (by kernel_rfl) (by kernel_rfl) (by kernel_rfl) (by kernel_rfl)
  have h35 := @run_callFunc_extern Tryz.prog 155 _ (ReflectliteType.relation "AssignableTo" ReflectliteType.assignableTo) Tryz.func155 (by kernel_rfl) (by kernel_rfl) (by kernel_rfl) (by kernel_rfl)
  have h11 := @run_callFunc_extern Tryz.prog 98 _ (ReflectliteValue.method (ReflectliteValue.valueError "reflectlite.Value.Elem" 0) ReflectliteValue.elem) Tryz.func98 (by kernel_rfl) (by kernel_rfl) (by kernel_rfl) (by kernel_rfl)
  have h12 := @run_callFunc_extern Tryz.prog 99 _ ReflectliteValue.set Tryz.func99 (by kernel_rfl) (by kernel_rfl) (by kernel_rfl) (by kernel_rfl)
  have tO := as_typeOf25
  have mA := as_methodAssignableTo
  have a25 := as_assignable25
  have v25 := as_valueOf25
  have f6 := as_valueOf27
  have f7 := as_type27
  have mK := as_methodKind
  have mE := as_methodElem
  have mI := as_methodImplements
  have k27 := as_kind27
  have k25 := as_kind25
  have e27 := as_elem27
  have i25 := as_implements25
  have n8 := as_isNil27 ⟨w.heap.size, 0, none⟩ t ((w.alloc (.cells #[.pointer (some t)] 99)).alloc (.cells #[.pointer (some ⟨14, 99, none⟩), .pointer (some ⟨w.heap.size, 0, none⟩), .int .u64 150] 137)) (by simp)
  have hlt : 2 < w.heap.size := by
    rcases Nat.lt_or_ge 2 w.heap.size with h | h
    · exact h
    · simp [World.cell?, Array.getElem?_eq_none h] at hg
  have hg2 : ((w.alloc (.cells #[.pointer (some t)] 99)).alloc (.cells #[.pointer (some ⟨14, 99, none⟩), .pointer (some ⟨w.heap.size, 0, none⟩), .int .u64 150] 137)).cell? ⟨2, 0, none⟩ = some (.iface 177 (.agg #[.pointer (some ⟨14, 59, none⟩)])) := by
    rw [World.cell?_alloc_lt _ _ ⟨2, 0, none⟩ (by simp; omega), World.cell?_alloc_lt _ _ ⟨2, 0, none⟩ hlt]; exact hg
  have htl : t.block < w.heap.size := by
    rcases Nat.lt_or_ge t.block w.heap.size with h | h
    · exact h
    · simp [World.cell?, Array.getElem?_eq_none h] at ht0
  have el := as_elemV27 ⟨w.heap.size, 0, none⟩ t (((w.alloc (.cells #[.pointer (some t)] 99)).alloc (.cells #[.pointer (some ⟨14, 99, none⟩), .pointer (some ⟨w.heap.size, 0, none⟩), .int .u64 150] 137)).alloc (.cells #[.pointer (some ⟨14, 99, none⟩), .pointer (some ⟨w.heap.size, 0, none⟩), .int .u64 150] 137)) (by rw [World.cell?_alloc_lt _ _ ⟨w.heap.size, 0, none⟩ (by simp; omega)]; simp)
  have st := as_set25 t ⟨w.heap.size + 1 + 1 + 1, 0, none⟩ e old ((((w.alloc (.cells #[.pointer (some t)] 99)).alloc (.cells #[.pointer (some ⟨14, 99, none⟩), .pointer (some ⟨w.heap.size, 0, none⟩), .int .u64 150] 137)).alloc (.cells #[.pointer (some ⟨14, 99, none⟩), .pointer (some ⟨w.heap.size, 0, none⟩), .int .u64 150] 137)).alloc (.cells #[.pointer (some e)] 97))
    (by rw [World.cell?_alloc_at _ _ _ _ (by simp)]; rfl)
    (by rw [World.cell?_alloc_lt _ _ t (by simp; omega), World.cell?_alloc_lt _ _ t (by simp; omega), World.cell?_alloc_lt _ _ t (by simp; omega), World.cell?_alloc_lt _ _ t htl]; exact ht0)
    (by rw [World.frozen?_alloc_old _ _ t (by simp; omega), World.frozen?_alloc_old _ _ t (by simp; omega), World.frozen?_alloc_old _ _ t (by simp; omega), World.frozen?_alloc_old _ _ t (Nat.ne_of_lt htl)]; exact hf0)
  go_enter Tryz.func47, Tryz.ntmps47
  go_wp2
  refine wp_loop_rounds 1 ?_
  rw [rounds_succ]
  go_wp2
  go_ret
  exact ⟨rfl, rfl⟩

end Go.Proofs.YtddpcehgopeklaaGreatDoor

namespace Go.Proofs.YtddpcehgopeklaaGreatDoor
open Go.RowKit Go.Extern.Stop Go.Stop Go.Extern

theorem isTypeOf (v : Value) (w : World) : (Extern.ReflectliteType.typeOf #[.iface 224 v]).run Tryz.prog w = .ok (.iface 177 (.agg #[.pointer (some ⟨14, 224, none⟩)])) w := by kernel_rfl
def compF : TypeId → Sem Value := fun t => do Go.Extern.Rtype.noPackHeld "Comparable" t; pure (.bool (← typeInfo t).comparable)
theorem isComparable (w : World) : ((Extern.ReflectliteType.method compF) #[.agg #[.pointer (some ⟨14, 224, none⟩)]]).run Tryz.prog w = .ok (.bool true) w := by kernel_rfl
theorem isMethodComparable (v : Value) (w : World) : (Go.method 357 177 v "Comparable").run Tryz.prog w = .ok (156, v) w := by kernel_rfl
theorem isComp : (Tryz.prog.info? 224).map (·.comparable) = some true := by kernel_rfl
theorem isSize : (Tryz.prog.info? 245).map (·.size) = some 1 := by kernel_rfl

theorem noIsE (v : Value) (xT : TypeId) (w : World) : (Instr.typeAssert (.iface 224 v) xT 210 true).run Tryz.prog w = .ok (.tuple #[.nilIface, .bool false]) w := run_typeAssert_lacksB Tryz.underlying210 (by kernel_rfl) (by kernel_rfl) v xT w
theorem noUnwrapE (v : Value) (xT : TypeId) (w : World) : (Instr.typeAssert (.iface 224 v) xT 185 true).run Tryz.prog w = .ok (.tuple #[.nilIface, .bool false]) w := run_typeAssert_lacksB Tryz.underlying185 (by kernel_rfl) (by kernel_rfl) v xT w
theorem noUnwrapsE (v : Value) (xT : TypeId) (w : World) : (Instr.typeAssert (.iface 224 v) xT 187 true).run Tryz.prog w = .ok (.tuple #[.nilIface, .bool false]) w := run_typeAssert_lacksB Tryz.underlying187 (by kernel_rfl) (by kernel_rfl) v xT w

/-- errors.Is(x, x), x a pointer to an errors.errorString. -/
theorem is_same (a : Addr) (w : World) :
    Calls Tryz.prog 74 #[.iface 224 (.pointer (some a)), .iface 224 (.pointer (some a))] w fun e w' => e = .returned (.bool true) ∧ w' = w := by
  obtain ⟨i, hi, hcmp⟩ := Option.map_eq_some_iff.1 isComp
  obtain ⟨j, hj, hjs⟩ := Option.map_eq_some_iff.1 isSize
  have h8 := @run_callFunc_extern Tryz.prog 97 _ Extern.ReflectliteType.typeOf Tryz.func97 (by kernel_rfl) (by kernel_rfl) (by kernel_rfl) (by kernel_rfl)
  have h32 := @run_callFunc_extern Tryz.prog 156 _ (Extern.ReflectliteType.method compF) Tryz.func156 (by kernel_rfl) (by kernel_rfl) (by kernel_rfl) (by kernel_rfl)
  have tT := isTypeOf
  have cT := isComparable
  have mR := isMethodComparable
  have heq := run_eql_iface_ptr_same (P := Tryz.prog) w a Tryz.underlying59 Tryz.underlying224 hi hcmp hj
  go_enter Tryz.func74, Tryz.ntmps74
  go_wp2
  refine wp_loop_rounds 1 ?_
  rw [rounds_succ]
  go_wp2
  go_ret
  exact ⟨rfl, rfl⟩

/-- errors.Is(x, y), two different pointers to errors.errorString: neither has Is nor Unwrap: false. -/
theorem is_other (a b : Addr) (ca cb : Array Value) (ta tb : TypeId) (w : World) (hne : a ≠ b) (ha : w.heap[a.block]? = some (.cells ca ta (0, 0))) (hb : w.heap[b.block]? = some (.cells cb tb (0, 0))) :
    Calls Tryz.prog 74 #[.iface 224 (.pointer (some a)), .iface 224 (.pointer (some b))] w fun e w' => e = .returned (.bool false) ∧ w' = w := by
  obtain ⟨i, hi, hcmp⟩ := Option.map_eq_some_iff.1 isComp
  obtain ⟨j, hj, hjs⟩ := Option.map_eq_some_iff.1 isSize
  have h8 := @run_callFunc_extern Tryz.prog 97 _ Extern.ReflectliteType.typeOf Tryz.func97 (by kernel_rfl) (by kernel_rfl) (by kernel_rfl) (by kernel_rfl)
  have h32 := @run_callFunc_extern Tryz.prog 156 _ (Extern.ReflectliteType.method compF) Tryz.func156 (by kernel_rfl) (by kernel_rfl) (by kernel_rfl) (by kernel_rfl)
  have tT := isTypeOf
  have cT := isComparable
  have mR := isMethodComparable
  have nE := noIsE
  have uE := noUnwrapE
  have vE := noUnwrapsE
  have heq := run_eql_iface_ptr_other (P := Tryz.prog) w Tryz.underlying59 Tryz.underlying224 hi hcmp hj (by rw [hjs]; decide) hne ha hb
  go_enter Tryz.func74, Tryz.ntmps74
  go_wp2
  refine wp_loop_rounds 1 ?_
  rw [rounds_succ]
  go_wp2
  go_ret
  exact ⟨rfl, rfl⟩

end Go.Proofs.YtddpcehgopeklaaGreatDoor

namespace Go.Proofs.YtddpcehgopeklaaGreatDoor
open Go.RowKit

/-- a row that lies at an address, as long as said -/
def Wd (w : World) (x : Addr) (n : Nat) (t : TypeId) : Prop := ∃ q cs, x = ⟨q, 0, none⟩ ∧ Row w q cs t ∧ cs.size = n

theorem Wd.below {w w' : World} {B n : Nat} {x : Addr} {t : TypeId} (h : Wd w x n t) (hb : Below B w w') (hB : w.heap.size ≤ B) : Wd w' x n t := by
  obtain ⟨q, cs, e, r, z⟩ := h
  exact ⟨q, cs, e, r.after hb hB, z⟩

theorem Wd.setFar {w : World} {n : Nat} {x : Addr} {t : TypeId} (h : Wd w x n t) {p : Addr} (hp : p.block ≠ x.block) (u : Value) : Wd (w.setCell p u) x n t := by
  obtain ⟨q, cs, rfl, r, z⟩ := h
  exact ⟨q, cs, rfl, r.setFar (fun e => hp e.symm) u, z⟩

theorem Wd.of_owns {w : World} {B n : Nat} {x : Addr} {t : TypeId} {xs : List Value} (h : w.ownsRow B t 1 (.slice (some x) n n) n xs) : Wd w x n t := by
  rcases h.2 with ⟨q, _⟩ | ⟨g, cap, cur, q, _, hg, _, _, hz, _⟩
  · cases q
  · cases q
    exact ⟨g, cur, rfl, ⟨hg⟩, by omega⟩

end Go.Proofs.YtddpcehgopeklaaGreatDoor

namespace Go.Proofs.YtddpcehgopeklaaGreatDoor
open Go.ChangeShapes Go.WideShapes Go.RowKit

theorem lt_of_cell {w : World} {p : Addr} {v : Value} (h : w.cell? p = some v) : p.block < w.heap.size := by
  by_cases hb : p.block < w.heap.size
  · exact hb
  · have : w.heap[p.block]? = none := Array.getElem?_eq_none (by omega)
    simp [World.cell?, this] at h

theorem Strs.of_trod {H : Type} {enc : TypeId × Value → H} {P : Program} {w : World} {held : Bool} {t e : TypeId} {fuel : Nat} {x : DataW H × List MemPlace} {a : Option Addr} {n c : Nat}
    (ht : P.underlying t = some (.slice e)) (he : P.underlying e = some .string) (hc : P.cellsOf e = 1)
    (h : DataW.trod enc P w 0 (fun _ => true) held fuel t [.slice a n c] = some x) : ∃ ss, Strs w a n c ss := by
  rcases open_strings ht he hc h with ⟨hcs, _⟩ | ⟨ad, len, cap, ss, hcs, _, hl, hm, hz, _, hcell, hws⟩
  · simp only [List.cons.injEq, Value.slice.injEq, and_true] at hcs
    obtain ⟨rfl, rfl, rfl⟩ := hcs
    exact ⟨[], rfl, Nat.le_refl _, Nat.zero_le _, fun j hj => by omega, fun j hj => by omega⟩
  · simp only [List.cons.injEq, Value.slice.injEq, and_true] at hcs
    obtain ⟨rfl, rfl, rfl⟩ := hcs
    simp only [if_true] at hz
    have hlen : (ss.take n).length = n := by simp; omega
    have hnth : ∀ j, j < n → nth (ss.take n) j = ss.getD j ByteArray.empty := fun j hj => by
      rw [nth_eq _ j (by omega), List.getElem_take]
      simp [List.getD, show j < ss.length from by omega]
    refine ⟨ss.take n, hlen.symm, hl, hm, fun j hj => ?_, fun j hj => ?_⟩
    · rw [hnth j hj]
      apply hws
      simp [List.getD, show j < ss.length from by omega]
    · have hcj := hcell j (by omega)
      have hs := World.cell?_spot (hcell 0 (by omega))
      obtain ⟨b, off, spot⟩ := ad
      simp only [Addr.add, if_true] at hs
      subst hs
      have hadd : (⟨b, off, none⟩ : Addr).add j = ⟨b, off + j, none⟩ := by
        by_cases e : j = 0 <;> simp [Addr.add, e]
      rw [hadd] at hcj
      refine ⟨b, off, rfl, ?_, ?_⟩
      · exact lt_of_cell hcj
      · rw [hnth j hj, ← hcj]

end Go.Proofs.YtddpcehgopeklaaGreatDoor
