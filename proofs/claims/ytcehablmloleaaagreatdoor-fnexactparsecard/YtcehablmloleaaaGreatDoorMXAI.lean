/-
  ONC, OND, ONE, NUH. Own work.
-/
import Derived.Test.YtcehablmloleaaaGreatDoorMXAH
import Derived.Test.YtcehablmloleaaaGreatDoorMXAK
namespace Go.Proofs.YtcehablmloleaaaGreatDoor
open Go.RowKit
set_option linter.unusedVariables false

/-- a row of the call's own: what marking it may touch -/
theorem owns_tightN {w : World} {lo hi n c : Nat} {a : Option Addr} {e : TypeId} {size : Nat} {xs : List Value} (h : w.ownsRow lo e size (.slice a n c) n xs) (hb : ∀ q, (Value.slice a n c).ownBlock = some q → q < hi) :
    ∃ l u, w.ownsRow l e size (.slice a n c) n xs ∧ (∀ q, (Value.slice a n c).ownBlock = some q → q < u) ∧ ((l = 0 ∧ u = 0) ∨ (lo ≤ l ∧ u ≤ hi)) ∧ ∀ q, (Value.slice a n c).ownBlock ≠ some q → q < l ∨ u ≤ q := by
  rcases h.2 with ⟨hv, h0⟩ | ⟨g, cap, cur, hv, hlo, hg, h4⟩
  · refine ⟨0, 0, ⟨h.1, .inl ⟨hv, h0⟩⟩, fun q hq => ?_, .inl ⟨rfl, rfl⟩, fun q _ => .inr (Nat.zero_le _)⟩
    rw [hv] at hq; cases hq
  · have hb' := hb g (by rw [hv]; rfl)
    refine ⟨g, g + 1, ⟨h.1, .inr ⟨g, cap, cur, hv, Nat.le_refl _, hg, h4⟩⟩, fun q hq => ?_, .inr ⟨hlo, hb'⟩, fun q hq => ?_⟩
    · rw [hv] at hq
      have : g = q := by simpa [Value.ownBlock] using hq
      omega
    · have : g ≠ q := fun e => hq (by rw [hv, ← e]; rfl)
      omega

set_option maxRecDepth 100000 in
set_option maxHeartbeats 3200000 in
theorem markNodeS_own (lo hi : Nat) (a : Option Addr) (n c : Nat) (P : List Nd) (nv kv : List Value) (k : Nat) (w : World) (h : OwnN w lo (.slice a n c) P nv kv) (hin : InN (.slice a n c) nv kv hi) (hh : hi ≤ w.heap.size) (hl : P.length = n) (ok : ∀ x ∈ P, okN x) (hk : mdK k P P.length ≤ 17592186044416) :
    Calls Tryz.prog 23 #[.slice a n c, .int .i64 k] w fun e w' => e = .returned (.int .i64 (mdK k P P.length : Nat)) ∧ OwnN w' lo (.slice a n c) (mdl k P) nv kv ∧ Touch lo hi w w' ∧ KeepN w w' (.slice a n c) nv kv := by
  have Hl := hide hl
  have Hok := hide ok
  have HK := hide hk
  have hn : n ≤ 17592186044416 := by
    have : mdK k P P.length = k + 3 * P.length + ((P.take P.length).map nlen).sum := rfl
    omega
  clear hl ok hk
  go_enter Tryz.func23, Tryz.ntmps23
  go_wp2
  go_loopw [1, 5] (fun q i wr => ∃ (j : Nat) (z : Int), j ≤ n ∧ i = .int .i64 j ∧ q = .int .i64 z ∧ z = ((mdK k P j : Nat) : Int) ∧ OwnN wr lo (.slice a n c) (mixD k P j) nv kv ∧ Touch lo hi w wr ∧ KeepN w wr (.slice a n c) nv kv) (fun _ i _ => n - (intOf i).toNat)
  case atStart => exact ⟨0, k, Nat.zero_le _, rfl, rfl, by rw [mdK_zero], by rw [mixD_zero]; exact h, Touch.refl _ _ _, fun _ _ _ _ _ => rfl⟩
  case round =>
    obtain ⟨j, z, hj, rfl, rfl, hz, OP, ht, hkp⟩ := hrel
    by_cases hlt : j < n
    · have hjl : j < P.length := by rw [unhide Hl]; exact hlt
      have hlm : (mixD k P j).length = P.length := mixD_len k P j (by omega)
      have hjm : j < (mixD k P j).length := by omega
      have hjn : j < nv.length := by rw [OP.len]; exact hjm
      have hjk : j < kv.length := by rw [OP.lenk]; exact hjm
      have hz1 := mdK_succ k P j hjl
      have hz2 := mdK_mono k P (j + 1) (by omega)
      have hK := unhide HK
      have ilt : (j : Int) < (n : Int) := by omega
      have z0 : 0 ≤ z := by omega
      obtain ⟨g, hg⟩ : ∃ g, a = some ⟨g, 0, none⟩ := by
        rcases OP.own.2 with ⟨_, h0⟩ | ⟨g, cap, cur, hv, _⟩
        · omega
        · simp only [Value.slice.injEq] at hv; exact ⟨g, hv.1⟩
      subst hg
      have hgl := (OP.lts.1 g rfl).1
      have hgh : g < hi := hin.1 g rfl
      have hgw := (OP.lts.1 g rfl).2
      have eat := mixD_at k P j hjl hjm
      have xx := ndC_at (mixD k P j) nv kv j hjm hjn hjk
      have x0 := xx 0 (by decide)
      have x1 := xx 1 (by decide)
      have x2 := xx 2 (by decide)
      have x3 := xx 3 (by decide)
      have x4 := xx 4 (by decide)
      simp only [nd5, Nat.add_zero, List.getElem?_cons_zero, List.getElem?_cons_succ] at x0 x1 x2 x3 x4
      have hown : wr.ownsRow lo 91 5 (.slice (some ⟨g, 0, none⟩) n c) n (ndC (mixD k P j) nv kv) := by have := OP.own; rwa [hlm, unhide Hl] at this
      have hcl := ndC_len (mixD k P j) nv kv OP.len OP.lenk
      have hnm := OP.names j hjm hjn
      have hkd := OP.kids j hjm hjk
      rw [eat] at x0 x1 x2 hnm hkd
      obtain ⟨an, cn, hu⟩ := owns_form hnm
      obtain ⟨ak, ck, huk⟩ := owns_form hkd
      obtain ⟨m, hm⟩ : ∃ m, m = P[j].names.length := ⟨_, rfl⟩
      obtain ⟨p, hp⟩ : ∃ p, p = P[j].kids.length := ⟨_, rfl⟩
      have hnl : nlen P[j] = m + p := by rw [nlen, hm, hp]
      have hmok := unhide Hok P[j] (List.getElem_mem hjl)
      rw [← hm] at hu hnm
      rw [← hp] at huk hkd
      have z1 : z + 3 + m + p ≤ 17592186044416 := by omega
      have HZ := hide (show z + 3 + m + p = ((mdK k P (j + 1) : Nat) : Int) by omega)
      have far : ∀ q, nv[j].ownBlock = some q → (Value.slice (some ⟨g, 0, none⟩) n c).ownBlock ≠ some q := own_ne_ownN (OP.names j hjm hjn) OP.own (by decide)
      have fark : ∀ q, kv[j].ownBlock = some q → (Value.slice (some ⟨g, 0, none⟩) n c).ownBlock ≠ some q := own_ne_ownN (OP.kids j hjm hjk) OP.own (by decide)
      rw [hu] at x3 hnm
      rw [huk] at x4 hkd
      have c0 := (hown.cellAt (j * 5) (by omega)).trans x0
      have c1 := (hown.cellAt (j * 5 + 1) (by omega)).trans x1
      have cf := fun i => hown.frozenAt i
      have O2 := ((hown.stored (j * 5) (.int .i64 z)).1.stored (j * 5 + 1) (.int .i64 (z + 1))).1
      have T2 := (Touch.setCell (lo := g) (hi := g + 1) wr ⟨g, j * 5, none⟩ (.int .i64 z) (Nat.le_refl _) (Nat.lt_succ_self _)).trans (Touch.setCell (lo := g) (hi := g + 1) _ ⟨g, j * 5 + 1, none⟩ (.int .i64 (z + 1)) (Nat.le_refl _) (Nat.lt_succ_self _))
      have Hz := hide hz
      have Hlt := hide hlt
      have Hm := hide hm
      have Hu := hide hu
      have Huk := hide huk
      have Hp := hide hp
      have Hok2 := hide hmok
      have HOP := hide OP
      generalize P[j].op = k0 at c0
      generalize P[j].num = k1 at c1
      generalize P[j].text = k2 at x2
      obtain ⟨nm, hnmE⟩ : ∃ nm, nm = P[j].names := ⟨_, rfl⟩
      rw [← hnmE] at hnm
      have Hnm := hide hnmE
      obtain ⟨kd, hkdE⟩ : ∃ kd, kd = P[j].kids := ⟨_, rfl⟩
      rw [← hkdE] at hkd
      have Hkd := hide hkdE
      clear hz hz1 hz2 hK hm hu huk hp hnl hmok OP hown x0 x1 hnmE hkdE eat xx
      go_wp2_with fail
      generalize (wr.setCell ⟨g, j * 5, none⟩ (.int .i64 z)).setCell ⟨g, j * 5 + 1, none⟩ (.int .i64 (z + 1)) = W2 at O2 T2 ⊢
      clear c0 c1 cf
      refine (markText_int (z + 1 + 1) W2 (by omega) (by omega)).mono ?_
      rintro e w3 ⟨rfl, hb3⟩
      have O3 := owns_blocksN (w' := w3) O2 (fun q hq => hb3.block q (O2.lt q hq).2)
      have T3 := T2.trans (Touch.of_below (lo := g) (hi := g + 1) hb3 (Nat.le_refl _))
      clear O2 T2 hb3
      have c2 : w3.cell? ⟨g, j * 5 + 2, none⟩ = some (.string k2) := (O3.cellAt (j * 5 + 2) (by omega)).trans (by rw [List.getElem?_set_ne (by omega), List.getElem?_set_ne (by omega)]; exact x2)
      have f3 := fun i => O3.frozenAt i
      have O4 := (O3.stored (j * 5 + 2) (.string (markS (z + 1 + 1).toNat))).1
      have d3 : (w3.setCell ⟨g, j * 5 + 2, none⟩ (.string (markS (z + 1 + 1).toNat))).cell? ⟨g, j * 5 + 3, none⟩ = some (.slice an m cn) := (O4.cellAt (j * 5 + 3) (by omega)).trans (by rw [List.getElem?_set_ne (by omega), List.getElem?_set_ne (by omega), List.getElem?_set_ne (by omega)]; exact x3)
      have d4 : (w3.setCell ⟨g, j * 5 + 2, none⟩ (.string (markS (z + 1 + 1).toNat))).cell? ⟨g, j * 5 + 4, none⟩ = some (.slice ak p ck) := (O4.cellAt (j * 5 + 4) (by omega)).trans (by rw [List.getElem?_set_ne (by omega), List.getElem?_set_ne (by omega), List.getElem?_set_ne (by omega)]; exact x4)
      have T4 := T3.trans (Touch.setCell (lo := g) (hi := g + 1) w3 ⟨g, j * 5 + 2, none⟩ (.string (markS (z + 1 + 1).toNat)) (Nat.le_refl _) (Nat.lt_succ_self _))
      clear T3 O3
      go_wp2_with fail
      generalize w3.setCell ⟨g, j * 5 + 2, none⟩ (.string (markS (z + 1 + 1).toNat)) = W4 at O4 d3 d4 T4 ⊢
      clear c2 f3
      have hqne : ∀ q, (Value.slice an m cn).ownBlock = some q → q ≠ g := fun q hq e => by
        subst e
        exact far q (by rw [unhide Hu]; exact hq) rfl
      have N4 := owns_blocksN (w' := W4) hnm (fun q hq => T4.block q (hnm.lt q hq).2 (by have := hqne q hq; omega))
      obtain ⟨l, u, OS, hlu, hsep⟩ := ownS_of (hi := hi) N4 (fun s hs => by have := (unhide Hok2).2.2 s (by rw [← unhide Hnm]; exact hs); exact this) (by rw [unhide Hnm, unhide Hm]) (fun q hq => hin.2.1 j hjn q (by rw [unhide Hu]; exact hq)) (by have := T4.size; have := ht.size; omega)
      refine (markStringS_int l u _ _ _ _ (z + 1 + 1 + 1) W4 OS (by omega) (by omega)).mono ?_
      rintro e w5 ⟨rfl, OS5, T5⟩
      have K4 := owns_blocksN (w' := W4) hkd (fun q hq => T4.block q (hkd.lt q hq).2 (by
        have : q ≠ g := fun e => by
          subst e
          exact fark q (by rw [unhide Huk]; exact hq) rfl
        omega))
      have hsk : ∀ q, (Value.slice ak p ck).ownBlock = some q → q < l ∨ u ≤ q := fun q hq => hsep q (fun e => own_ne_ownN K4 N4 (by decide) q hq e)
      have K5 := owns_blocksN (w' := w5) K4 (fun q hq => T5.block q (K4.lt q hq).2 (hsk q hq))
      have O5 := owns_blocksN (w' := w5) O4 (fun q hq => T5.block q (O4.lt q hq).2 (hsep q (fun e => hqne q e (by have : g = q := (by simpa [Value.ownBlock] using hq); exact this.symm))))
      have d5 : w5.cell? ⟨g, j * 5 + 4, none⟩ = some (.slice ak p ck) := (O5.cellAt (j * 5 + 4) (by omega)).trans (by rw [List.getElem?_set_ne (by omega), List.getElem?_set_ne (by omega), List.getElem?_set_ne (by omega)]; exact x4)
      obtain ⟨lk, uk, KK, hkin, hluk, hsepk⟩ : ∃ lk uk, w5.ownsRow lk 3 1 (.slice ak p ck) p (intsV kd) ∧ (∀ q, (Value.slice ak p ck).ownBlock = some q → q < uk) ∧ ((lk = 0 ∧ uk = 0) ∨ (lo ≤ lk ∧ uk ≤ hi)) ∧ ∀ q, (Value.slice ak p ck).ownBlock ≠ some q → q < lk ∨ uk ≤ q := owns_tightN K5 (fun q hq => hin.2.2 j hjk q (by rw [unhide Huk]; exact hq))
      clear d3 d4
      go_wp2_with fail
      refine (markIntS_own lk uk ak p ck kd (z + 1 + 1 + 1 + m) w5 KK hkin (by rw [unhide Hkd, unhide Hp]) (by omega) (by omega)).mono ?_
      rintro e w6 ⟨rfl, KI6, T6⟩
      have hgne6 : g < lk ∨ uk ≤ g := hsepk g (fun e => fark g (by rw [unhide Huk]; exact e) rfl)
      have HF : Hid (OwnN w6 lo (.slice (some ⟨g, 0, none⟩) n c) (mixD k P (j + 1)) nv kv) := hide (by
        have hz := unhide Hz
        have E : mixD k P (j + 1) = (mixD k P j).set j (mkD (mdK k P j) P[j].names.length P[j].kids.length) := (mixD_set k P j hjl).symm
        rw [E]
        refine (unhide HOP).upd j hjm hjn hjk _ ?_ ?_ ?_ ?_ ?_
        · rw [hlm, unhide Hl, ndC_set _ _ _ _ hjm (unhide HOP).len (unhide HOP).lenk]
          have e0 : (mkD (mdK k P j) P[j].names.length P[j].kids.length).op = z := hz.symm
          have e1 : (mkD (mdK k P j) P[j].names.length P[j].kids.length).num = z + 1 := by show ((mdK k P j + 1 : Nat) : Int) = _; omega
          have e2 : (mkD (mdK k P j) P[j].names.length P[j].kids.length).text = markS (z + 1 + 1).toNat := by show markS (mdK k P j + 2) = _; rw [show (z + 1 + 1).toNat = mdK k P j + 2 by omega]
          rw [e0, e1, e2]
          refine owns_blocksN O5 (fun q hq => ?_)
          have eq : g = q := by simpa [Value.ownBlock] using hq
          subst eq
          exact T6.block g (O5.lt g rfl).2 hgne6
        · have e3 : (mkD (mdK k P j) P[j].names.length P[j].kids.length).names = marks (z + 1 + 1 + 1).toNat m := by show marks (mdK k P j + 3) P[j].names.length = _; rw [unhide Hm, show (z + 1 + 1 + 1).toNat = mdK k P j + 3 by omega]
          rw [e3, unhide Hu]
          have hlen : (marks (z + 1 + 1 + 1).toNat m).length = m := by simp [marks]
          rw [hlen]
          have NN : w5.ownsRow lo 9 1 (.slice an m cn) m ((marks (z + 1 + 1 + 1).toNat m).map Value.string) := by
            refine ⟨OS5.own.1, ?_⟩
            rcases OS5.own.2 with h2 | ⟨g2, cap2, cur2, hv2, h3, h4⟩
            · exact .inl h2
            · refine .inr ⟨g2, cap2, cur2, hv2, ?_, h4⟩
              have := (N4.lt g2 (by rw [hv2]; rfl)).1
              exact this
          exact owns_blocksN NN (fun q hq => T6.block q (NN.lt q hq).2 (hsepk q (fun e => own_ne_ownN NN K5 (by decide) q hq e)))
        · have e4 : (mkD (mdK k P j) P[j].names.length P[j].kids.length).kids = marksZ (z + 1 + 1 + 1 + m).toNat p := by show marksZ (mdK k P j + 3 + P[j].names.length) P[j].kids.length = _; rw [unhide Hm, unhide Hp, show (z + 1 + 1 + 1 + (P[j].names.length : Int)).toNat = mdK k P j + 3 + P[j].names.length by omega]
          rw [e4, unhide Huk, marksZ_len]
          refine ⟨KI6.1, ?_⟩
          rcases KI6.2 with h2 | ⟨g2, cap2, cur2, hv2, h3, h4⟩
          · exact .inl h2
          · refine .inr ⟨g2, cap2, cur2, hv2, ?_, h4⟩
            exact (K5.lt g2 (by rw [hv2]; rfl)).1
        · intro i hi' hne q hq
          have hiN : i < (mixD k P j).length := by rw [← (unhide HOP).len]; exact hi'
          have hq2 : (Value.slice an m cn).ownBlock ≠ some q := fun e => by
            rw [← unhide Hu] at e
            by_cases hij : i < j
            · exact (unhide HOP).apart i j hij hjn q hq e
            · exact (unhide HOP).apart j i (by omega) hi' q e hq
          have hqk : (Value.slice ak p ck).ownBlock ≠ some q := fun e => by
            rw [← unhide Huk] at e
            exact own_ne_ownN ((unhide HOP).names i hiN hi') ((unhide HOP).kids j hjm hjk) (by decide) q hq e
          have hqg : q ≠ g := fun e => by subst e; exact own_ne_ownN ((unhide HOP).names i hiN hi') (unhide HOP).own (by decide) q hq rfl
          have hqw := ((unhide HOP).lts.2.1 i hi' q hq).2
          exact (T6.block q (by have := T4.size; have := T5.size; omega) (hsepk q hqk)).trans ((T5.block q (by have := T4.size; omega) (hsep q hq2)).trans (T4.block q hqw (by omega)))
        · intro i hi' hne q hq
          have hiN : i < (mixD k P j).length := by rw [← (unhide HOP).lenk]; exact hi'
          have hqk : (Value.slice ak p ck).ownBlock ≠ some q := fun e => by
            rw [← unhide Huk] at e
            by_cases hij : i < j
            · exact (unhide HOP).apartk i j hij hjk q hq e
            · exact (unhide HOP).apartk j i (by omega) hi' q e hq
          have hq2 : (Value.slice an m cn).ownBlock ≠ some q := fun e => by
            rw [← unhide Hu] at e
            exact own_ne_ownN ((unhide HOP).kids i hiN hi') ((unhide HOP).names j hjm hjn) (by decide) q hq e
          have hqg : q ≠ g := fun e => by subst e; exact own_ne_ownN ((unhide HOP).kids i hiN hi') (unhide HOP).own (by decide) q hq rfl
          have hqw := ((unhide HOP).lts.2.2 i hi' q hq).2
          exact (T6.block q (by have := T4.size; have := T5.size; omega) (hsepk q hqk)).trans ((T5.block q (by have := T4.size; omega) (hsep q hq2)).trans (T4.block q hqw (by omega))))
      have HTT := hide (((ht.trans (T4.wide (.inr ⟨hgl, hgh⟩))).trans (T5.wide (by rcases hlu with e | e; exact .inl e; exact .inr ⟨e.1, e.2.1⟩))).trans (T6.wide hluk))
      have HKP : Hid (KeepN w w6 (.slice (some ⟨g, 0, none⟩) n c) nv kv) := hide (fun q hq h1 h2 h3 => by
        have hqw := Nat.lt_of_lt_of_le hq ht.size
        have hqg : q ≠ g := fun e => h1 (by rw [e]; rfl)
        exact (T6.block q (by have := T4.size; have := T5.size; omega) (hsepk q (fun e => h3 j hjk (by rw [unhide Huk]; exact e)))).trans (((T5.block q (by have := T4.size; omega) (hsep q (fun e => h2 j hjn (by rw [unhide Hu]; exact e)))).trans (T4.block q hqw (by omega))).trans (hkp q hq h1 h2 h3)))
      clear O4 O5 d5 T4 T5 T6 OS OS5 N4 K4 K5 KK KI6 hnm hkd HOP hlu hluk hsep hsepk hsk far fark x2 x3 x4
      go_wp2_with fail
      go_roundw
      case rel => exact ⟨j + 1, z + 1 + 1 + 1 + m + p, unhide Hlt, by go_num, by go_num, by have := unhide HZ; omega, unhide HF, unhide HTT, unhide HKP⟩
      case measure => have := unhide Hlt; simp [intOf]; omega
    · have e : j = n := by omega
      subst e
      go_wp2
      go_ret
      rw [← unhide Hl] at hz OP
      rw [mixD_full] at OP
      exact ⟨by rw [hz]; rfl, by rw [← unhide Hl]; exact OP, ht, hkp⟩

end Go.Proofs.YtcehablmloleaaaGreatDoor

namespace Go.Proofs.YtcehablmloleaaaGreatDoor
open Go.RowKit
set_option linter.unusedVariables false

theorem marks_lenD (k n : Nat) : (marks k n).length = n := by simp [marks]

theorem ints_of_owns {w : World} {lo n c : Nat} {a : Option Addr} {L : List Int} (h : w.ownsRow lo 3 1 (.slice a n c) n (intsV L)) (hl : L.length = n) (hn : n ≤ 1048576) : Ints w a n c L := by
  refine ⟨hl, hn, fun j hj => ?_⟩
  obtain ⟨x, c', e, hx⟩ := owns_form2 h
  cases e
  obtain ⟨g, rfl, hg, hc⟩ := hx (by omega)
  refine ⟨g, 0, rfl, (h.lt g rfl).2, ?_⟩
  rw [Nat.zero_add]
  exact hc j _ (by rw [intsV, List.getElem?_map, List.getElem?_eq_getElem hj]; rfl)

set_option maxRecDepth 100000 in
set_option maxHeartbeats 3200000 in
theorem heldNodeS_own (lo : Nat) (a : Option Addr) (n c : Nat) (P : List Nd) (nv kv : List Value) (k : Nat) (w : World) (h : OwnN w lo (.slice a n c) (mdl k P) nv kv) (hl : P.length = n) (ok : ∀ x ∈ P, okN x) (hk : mdK k P P.length ≤ 17592186044416) :
    Calls Tryz.prog 25 #[.slice a n c, .int .i64 k] w fun e w' => e = .returned (.int .i64 (mdK k P P.length : Nat)) ∧ Below w.heap.size w w' := by
  have Hl := hide hl
  have HK := hide hk
  have Hok := hide ok
  have hn : n ≤ 17592186044416 := by
    have : mdK k P P.length = k + 3 * P.length + ((P.take P.length).map nlen).sum := rfl
    omega
  clear hl hk ok
  go_enter Tryz.func25, Tryz.ntmps25
  go_wp2
  go_loopw [1, 5] (fun q i wr => ∃ (j : Nat) (z : Int), j ≤ n ∧ i = .int .i64 j ∧ q = .int .i64 z ∧ z = ((mdK k P j : Nat) : Int) ∧ Below w.heap.size w wr) (fun _ i _ => n - (intOf i).toNat)
  case atStart => exact ⟨0, k, Nat.zero_le _, rfl, rfl, by rw [mdK_zero], Below.refl _ _⟩
  case round =>
    obtain ⟨j, z, hj, rfl, rfl, hz, hb⟩ := hrel
    by_cases hlt : j < n
    · have hjl : j < P.length := by rw [unhide Hl]; exact hlt
      have hml := mdl_len k P
      have hjm : j < (mdl k P).length := by omega
      have OP := h.blocks (w' := wr) (fun k _ hk' => hb.block k hk')
      have hjn : j < nv.length := by rw [OP.len]; exact hjm
      have hjk : j < kv.length := by rw [OP.lenk]; exact hjm
      have hz1 := mdK_succ k P j hjl
      have hz2 := mdK_mono k P (j + 1) (by omega)
      have hK := unhide HK
      have ilt : (j : Int) < (n : Int) := by omega
      have z0 : 0 ≤ z := by omega
      obtain ⟨g, hg⟩ : ∃ g, a = some ⟨g, 0, none⟩ := by
        rcases OP.own.2 with ⟨_, h0⟩ | ⟨g, cap, cur, hv, _⟩
        · rw [hml, unhide Hl] at h0; omega
        · simp only [Value.slice.injEq] at hv; exact ⟨g, hv.1⟩
      subst hg
      have hgw := (OP.lts.1 g rfl).2
      have hgw0 := (h.lts.1 g rfl).2
      have hown : wr.ownsRow lo 91 5 (.slice (some ⟨g, 0, none⟩) n c) n (ndC (mdl k P) nv kv) := by have := OP.own; rwa [hml, unhide Hl] at this
      have xx := ndC_at (mdl k P) nv kv j hjm hjn hjk
      have x0 := xx 0 (by decide)
      have x1 := xx 1 (by decide)
      have x2 := xx 2 (by decide)
      have x3 := xx 3 (by decide)
      have x4 := xx 4 (by decide)
      simp only [nd5, Nat.add_zero, List.getElem?_cons_zero, List.getElem?_cons_succ] at x0 x1 x2 x3 x4
      have hcl := ndC_len (mdl k P) nv kv OP.len OP.lenk
      have hok := unhide Hok P[j] (List.getElem_mem hjl)
      have hnm := OP.names j hjm hjn
      have hkd := OP.kids j hjm hjk
      have eat := mdl_at k P j hjl hjm
      rw [eat] at x0 x1 x2 hnm hkd
      obtain ⟨m, hm⟩ : ∃ m, m = P[j].names.length := ⟨_, rfl⟩
      obtain ⟨p, hp⟩ : ∃ p, p = P[j].kids.length := ⟨_, rfl⟩
      have hnl : nlen P[j] = m + p := by rw [nlen, hm, hp]
      rw [← hm, ← hp] at x0 x1 x2 hnm hkd
      have e0 : (mkD (mdK k P j) m p).op = z := hz.symm
      have e1 : (mkD (mdK k P j) m p).num = z + 1 := by show ((mdK k P j + 1 : Nat) : Int) = _; omega
      have e2 : (mkD (mdK k P j) m p).text = markS (z + 1 + 1).toNat := by show markS (mdK k P j + 2) = _; rw [show (z + 1 + 1).toNat = mdK k P j + 2 by omega]
      have e3 : (mkD (mdK k P j) m p).names = marks (z + 1 + 1 + 1).toNat m := by show marks (mdK k P j + 3) m = _; rw [show (z + 1 + 1 + 1).toNat = mdK k P j + 3 by omega]
      rw [e0] at x0
      rw [e1] at x1
      rw [e2] at x2
      have e4 : (mkD (mdK k P j) m p).kids = marksZ (z + 1 + 1 + 1 + m).toNat p := by show marksZ (mdK k P j + 3 + m) p = _; rw [show (z + 1 + 1 + 1 + (m : Int)).toNat = mdK k P j + 3 + m by omega]
      rw [e3, marks_lenD] at hnm
      rw [e4, marksZ_len] at hkd
      obtain ⟨an, cn, hu⟩ := owns_form hnm
      obtain ⟨ak, ck, huk⟩ := owns_form hkd
      rw [hu] at x3 hnm
      rw [huk] at x4 hkd
      have c0 := (hown.cellAt (j * 5) (by omega)).trans x0
      have c1 := (hown.cellAt (j * 5 + 1) (by omega)).trans x1
      have c2 := (hown.cellAt (j * 5 + 2) (by omega)).trans x2
      have c3 := (hown.cellAt (j * 5 + 3) (by omega)).trans x3
      have c4 := (hown.cellAt (j * 5 + 4) (by omega)).trans x4
      have z1 : z + 3 + m + p ≤ 17592186044416 := by omega
      have HZ := hide (show z + 3 + m + p = ((mdK k P (j + 1) : Nat) : Int) by omega)
      have SI : Ints wr ak p ck (marksZ (z + 1 + 1 + 1 + m).toNat p) := ints_of_owns hkd (marksZ_len _ _) (by rw [hp]; exact hok.2.1)
      have ST : Strs wr an m cn (marks (z + 1 + 1 + 1).toNat m) := Strs.of_owns hnm (marks_sizes _ _ (by omega))
      have Hlt := hide hlt
      clear hz hz1 hz2 hK hm hp hnl e0 e1 e2 e3 e4 x0 x1 x2 x3 x4 hown hnm hkd hu huk eat OP xx hok
      go_wp2_with fail
      go_region_held3 (fun w' => w'.cell? ⟨g, j * 5 + 2, none⟩ = some (.string (markS (z + 1 + 1).toNat))) (go_keep)
        ((go_at_call 43; refine (markText_int _ _ (by omega) (by omega)).mono ?_; rintro e w1 ⟨rfl, hb1⟩; have q2 := (hb1.cell (p := ⟨g, j * 5 + 2, none⟩) hgw).trans c2; have q3 := (hb1.cell (p := ⟨g, j * 5 + 3, none⟩) hgw).trans c3; have q4 := (hb1.cell (p := ⟨g, j * 5 + 4, none⟩) hgw).trans c4))
      all_goals
        have ST1 := ST.below (show Below wr.heap.size wr w1 from (Below.refl _ _).drew.trans hb1) (Nat.le_refl _)
        have SI1 := SI.below (show Below wr.heap.size wr w1 from (Below.refl _ _).drew.trans hb1) (Nat.le_refl _)
        have hg1 : g < w1.heap.size := Nat.lt_of_lt_of_le hgw hb1.size
        have hneg : ¬ (z + 1 + 1 + 1 + (m : Int) < 0) := by omega
        have hneg2 : ¬ (z + 1 + 1 + 1 + (m : Int) + (p : Int) < 0) := by omega
        go_wp2_with (first | (go_at_call 45; refine (heldStringS_int _ _ _ (z + 1 + 1 + 1) w1 ST1 (by omega) (by omega)).mono ?_; rintro e w2 ⟨rfl, hb2⟩; have q5 := (hb2.cell (p := ⟨g, j * 5 + 4, none⟩) hg1).trans q4) | (go_at_call 12; refine (heldIntS_any _ _ _ (z + 1 + 1 + 1 + m) w2 (SI1.below hb2 (Nat.le_refl _)) (by omega) (by omega)).mono ?_; rintro e w3 ⟨rfl, hb3⟩))
        go_roundw
        case rel => exact ⟨j + 1, z + 1 + 1 + 1 + m + p, unhide Hlt, by go_num, by go_num, by have := unhide HZ; omega, ((hb.drew.trans (hb1.mono hb.size)).trans (hb2.mono (by have h1 : wr.heap.size ≤ w1.heap.size := hb1.size; have := hb.size; omega))).trans (hb3.mono (by have h1 : wr.heap.size ≤ w1.heap.size := hb1.size; have := hb2.size; have := hb.size; omega))⟩
        case measure => have := unhide Hlt; simp [intOf]; omega
    · have e : j = n := by omega
      subst e
      go_wp2
      go_ret
      rw [← unhide Hl] at hz
      exact ⟨by rw [hz]; rfl, hb⟩

end Go.Proofs.YtcehablmloleaaaGreatDoor

namespace Go.Proofs.YtcehablmloleaaaGreatDoor
open Go.RowKit
set_option linter.unusedVariables false

/-- the cells of statements -/
def stmC (L : List St) : List Value := L.flatMap fun s => [.int .i64 s.kind, .string s.name, .int .i64 s.cond, .int .i64 s.grant]

theorem stmC_len : ∀ (L : List St), (stmC L).length = L.length * 4
  | [] => rfl
  | s :: L => by
    have := stmC_len L
    rw [stmC, List.flatMap_cons, List.length_append]
    rw [stmC] at this
    rw [this, List.length_cons]
    simp; omega

theorem stmC_at : ∀ (L : List St) (j : Nat) (h : j < L.length), ∀ r, r < 4 → (stmC L)[j * 4 + r]? = ([Value.int .i64 L[j].kind, .string L[j].name, .int .i64 L[j].cond, .int .i64 L[j].grant] : List Value)[r]?
  | s :: L, 0, _, r, hr => by
    rw [stmC, List.flatMap_cons, Nat.zero_mul, Nat.zero_add, List.getElem?_append_left (by simp; omega)]
    rfl
  | s :: L, j + 1, h, r, hr => by
    have ih := stmC_at L j (by simpa using h) r hr
    rw [stmC, List.flatMap_cons, List.getElem?_append_right (by simp; omega)]
    have e : (j + 1) * 4 + r - ([Value.int .i64 s.kind, .string s.name, .int .i64 s.cond, .int .i64 s.grant] : List Value).length = j * 4 + r := by simp; omega
    rw [e]
    rw [stmC] at ih
    rw [ih]
    rfl
  | [], _, h, _, _ => absurd h (by simp)

theorem stmC_set : ∀ (L : List St) (j : Nat) (h : j < L.length) (y : St), stmC (L.set j y) = ((((stmC L).set (j * 4) (.int .i64 y.kind)).set (j * 4 + 1) (.string y.name)).set (j * 4 + 2) (.int .i64 y.cond)).set (j * 4 + 3) (.int .i64 y.grant)
  | s :: L, 0, _, y => by simp [stmC]
  | s :: L, j + 1, h, y => by
    have ih := stmC_set L j (by simpa using h) y
    have e : ∀ (A : List Value) i v, ([Value.int .i64 s.kind, .string s.name, .int .i64 s.cond, .int .i64 s.grant] ++ A).set ((j + 1) * 4 + i) v = [Value.int .i64 s.kind, .string s.name, .int .i64 s.cond, .int .i64 s.grant] ++ A.set (j * 4 + i) v := fun A i v => by
      rw [List.set_append_right _ _ (by simp; omega)]
      congr 2
      simp; omega
    have c : ∀ x J, stmC (x :: J) = [Value.int .i64 x.kind, .string x.name, .int .i64 x.cond, .int .i64 x.grant] ++ stmC J := fun x J => by simp [stmC]
    rw [List.set_cons_succ, c, c, ih]
    have e0 := e (stmC L) 0 (.int .i64 y.kind)
    simp only [Nat.add_zero] at e0
    rw [e0, e, e, e]
  | [], _, h, _ => absurd h (by simp)

def mkSt (k j : Nat) : St := ⟨((k + 4 * j : Nat) : Int), markS (k + 4 * j + 1), ((k + 4 * j + 2 : Nat) : Int), ((k + 4 * j + 3 : Nat) : Int)⟩
def marksT (k n : Nat) : List St := (List.range n).map (mkSt k)
def mixT (L : List St) (k j : Nat) : List St := marksT k j ++ L.drop j

theorem marksT_len (k n : Nat) : (marksT k n).length = n := by simp [marksT]
theorem marksT_succ (k n : Nat) : marksT k (n + 1) = marksT k n ++ [mkSt k n] := by simp [marksT, List.range_succ]
theorem mixT_zero (L : List St) (k : Nat) : mixT L k 0 = L := by simp [mixT, marksT]
theorem mixT_full (L : List St) (k : Nat) : mixT L k L.length = marksT k L.length := by simp [mixT]
theorem mixT_len (L : List St) (k j : Nat) (h : j ≤ L.length) : (mixT L k j).length = L.length := by
  rw [mixT, List.length_append, marksT_len, List.length_drop]; omega
theorem mixT_set (L : List St) (k j : Nat) (h : j < L.length) : (mixT L k j).set j (mkSt k j) = mixT L k (j + 1) := by
  rw [mixT, List.drop_eq_getElem_cons h, List.set_append_right _ _ (by rw [marksT_len]; exact Nat.le_refl _), marksT_len, Nat.sub_self, List.set_cons_zero, mixT, marksT_succ, List.append_assoc]
  rfl

set_option maxRecDepth 100000 in
set_option maxHeartbeats 3200000 in
theorem markStmtS_own (lo hi : Nat) (a : Option Addr) (n c : Nat) (L : List St) (x : Int) (w : World) (h : w.ownsRow lo 51 4 (.slice a n c) n (stmC L)) (hin : ∀ q, (Value.slice a n c).ownBlock = some q → q < hi) (hh : hi ≤ w.heap.size) (hl : L.length = n) (hx : 0 ≤ x) (hk : x + 4 * n ≤ 35184372088832) :
    Calls Tryz.prog 24 #[.slice a n c, .int .i64 x] w fun e w' => e = .returned (.int .i64 (x + 4 * n)) ∧ w'.ownsRow lo 51 4 (.slice a n c) n (stmC (marksT x.toNat n)) ∧ Touch lo hi w w' := by
  obtain ⟨k, rfl⟩ := Int.eq_ofNat_of_zero_le hx
  rw [Int.toNat_natCast]
  have Hl := hide hl
  clear hl
  go_enter Tryz.func24, Tryz.ntmps24
  go_wp2
  go_loopw [1, 5] (fun q i wr => ∃ (j : Nat) (z : Int), j ≤ n ∧ i = .int .i64 j ∧ q = .int .i64 z ∧ z = ((k + 4 * j : Nat) : Int) ∧ wr.ownsRow lo 51 4 (.slice a n c) n (stmC (mixT L k j)) ∧ Touch lo hi w wr) (fun _ i _ => n - (intOf i).toNat)
  case atStart => exact ⟨0, k, Nat.zero_le _, rfl, rfl, by simp, by rw [mixT_zero]; exact h, Touch.refl _ _ _⟩
  case round =>
    obtain ⟨j, z, hj, rfl, rfl, hz, hown, ht⟩ := hrel
    by_cases hlt : j < n
    · have hjl : j < L.length := by rw [unhide Hl]; exact hlt
      have hlm : (mixT L k j).length = L.length := mixT_len L k j (by omega)
      have hjm : j < (mixT L k j).length := by omega
      have ilt : (j : Int) < (n : Int) := by omega
      have z0 : 0 ≤ z := by omega
      have z1 : z + 4 ≤ 35184372088832 := by omega
      obtain ⟨g, hg⟩ : ∃ g, a = some ⟨g, 0, none⟩ := by
        rcases hown.2 with ⟨_, h0⟩ | ⟨g, cap, cur, hv, _⟩
        · omega
        · simp only [Value.slice.injEq] at hv; exact ⟨g, hv.1⟩
      subst hg
      have hgl := (hown.lt g rfl).1
      have hgh : g < hi := hin g rfl
      have hcl := stmC_len (mixT L k j)
      have xx := stmC_at (mixT L k j) j hjm
      have x0 := xx 0 (by decide)
      have x1 := xx 1 (by decide)
      have x2 := xx 2 (by decide)
      have x3 := xx 3 (by decide)
      simp only [Nat.add_zero, List.getElem?_cons_zero, List.getElem?_cons_succ] at x0 x1 x2 x3
      have c0 := (hown.cellAt (j * 4) (by omega)).trans x0
      have cf := fun i => hown.frozenAt i
      have O1 := (hown.stored (j * 4) (.int .i64 z)).1
      have T1 := ht.trans (Touch.setCell (lo := lo) (hi := hi) wr ⟨g, j * 4, none⟩ (.int .i64 z) hgl hgh)
      have Hz := hide hz
      have Hlt := hide hlt
      generalize (mixT L k j)[j].kind = y0 at c0
      generalize (mixT L k j)[j].name = y1 at x1
      generalize (mixT L k j)[j].cond = y2 at x2
      generalize (mixT L k j)[j].grant = y3 at x3
      clear hz hown x0 ht xx
      go_wp2_with fail
      generalize wr.setCell ⟨g, j * 4, none⟩ (.int .i64 z) = W1 at O1 T1 ⊢
      clear c0 cf
      refine (markText_int (z + 1) W1 (by omega) (by omega)).mono ?_
      rintro e w2 ⟨rfl, hb2⟩
      have O2 := owns_blocksN (w' := w2) O1 (fun q hq => hb2.block q (O1.lt q hq).2)
      have T2 := T1.trans (Touch.of_below (lo := lo) (hi := hi) hb2 (by have := T1.size; omega))
      clear O1 T1 hb2
      have c1 : w2.cell? ⟨g, j * 4 + 1, none⟩ = some (.string y1) := (O2.cellAt (j * 4 + 1) (by omega)).trans (by rw [List.getElem?_set_ne (by omega)]; exact x1)
      have f2 := fun i => O2.frozenAt i
      have O3 := (O2.stored (j * 4 + 1) (.string (markS (z + 1).toNat))).1
      have T3 := T2.trans (Touch.setCell (lo := lo) (hi := hi) w2 ⟨g, j * 4 + 1, none⟩ (.string (markS (z + 1).toNat)) hgl hgh)
      have c2 : (w2.setCell ⟨g, j * 4 + 1, none⟩ (.string (markS (z + 1).toNat))).cell? ⟨g, j * 4 + 2, none⟩ = some (.int .i64 y2) := (O3.cellAt (j * 4 + 2) (by omega)).trans (by rw [List.getElem?_set_ne (by omega), List.getElem?_set_ne (by omega)]; exact x2)
      have f3 := fun i => O3.frozenAt i
      have O4 := (O3.stored (j * 4 + 2) (.int .i64 (z + 1 + 1))).1
      have T4 := T3.trans (Touch.setCell (lo := lo) (hi := hi) _ ⟨g, j * 4 + 2, none⟩ (.int .i64 (z + 1 + 1)) hgl hgh)
      have c3 : ((w2.setCell ⟨g, j * 4 + 1, none⟩ (.string (markS (z + 1).toNat))).setCell ⟨g, j * 4 + 2, none⟩ (.int .i64 (z + 1 + 1))).cell? ⟨g, j * 4 + 3, none⟩ = some (.int .i64 y3) := (O4.cellAt (j * 4 + 3) (by omega)).trans (by rw [List.getElem?_set_ne (by omega), List.getElem?_set_ne (by omega), List.getElem?_set_ne (by omega)]; exact x3)
      have f4 := fun i => O4.frozenAt i
      have HO := hide (O4.stored (j * 4 + 3) (.int .i64 (z + 1 + 1 + 1))).1
      have T5 := T4.trans (Touch.setCell (lo := lo) (hi := hi) _ ⟨g, j * 4 + 3, none⟩ (.int .i64 (z + 1 + 1 + 1)) hgl hgh)
      clear O2 O3 O4 T2 T3 T4 x1 x2 x3
      dsimp only
      go_wp2_with fail
      go_roundw
      case rel =>
        refine ⟨j + 1, z + 1 + 1 + 1 + 1, unhide Hlt, by go_num, by go_num, by have := unhide Hz; omega, ?_, T5⟩
        have hz := unhide Hz
        rw [← mixT_set L k j hjl, stmC_set _ _ hjm]
        have e0 : (mkSt k j).kind = z := hz.symm
        have e1 : (mkSt k j).name = markS (z + 1).toNat := by show markS (k + 4 * j + 1) = _; rw [show (z + 1).toNat = k + 4 * j + 1 by omega]
        have e2 : (mkSt k j).cond = z + 1 + 1 := by show ((k + 4 * j + 2 : Nat) : Int) = _; omega
        have e3 : (mkSt k j).grant = z + 1 + 1 + 1 := by show ((k + 4 * j + 3 : Nat) : Int) = _; omega
        rw [e0, e1, e2, e3]
        exact unhide HO
      case measure => have := unhide Hlt; simp [intOf]; omega
    · have e : j = n := by omega
      subst e
      go_wp2
      go_ret
      have hM : mixT L k j = marksT k j := by have := mixT_full L k; rwa [unhide Hl] at this
      rw [hM] at hown
      exact ⟨by rw [hz]; push_cast; rfl, hown, ht⟩

set_option maxRecDepth 100000 in
set_option maxHeartbeats 3200000 in
theorem heldStmtS_own (lo : Nat) (a : Option Addr) (n c : Nat) (x : Int) (w : World) (h : w.ownsRow lo 51 4 (.slice a n c) n (stmC (marksT x.toNat n))) (hx : 0 ≤ x) (hk : x + 4 * n ≤ 35184372088832) :
    Calls Tryz.prog 26 #[.slice a n c, .int .i64 x] w fun e w' => e = .returned (.int .i64 (x + 4 * n)) ∧ Below w.heap.size w w' := by
  obtain ⟨k, rfl⟩ := Int.eq_ofNat_of_zero_le hx
  rw [Int.toNat_natCast] at h
  go_enter Tryz.func26, Tryz.ntmps26
  go_wp2
  go_loopw [1, 5] (fun q i wr => ∃ (j : Nat) (z : Int), j ≤ n ∧ i = .int .i64 j ∧ q = .int .i64 z ∧ z = ((k + 4 * j : Nat) : Int) ∧ Below w.heap.size w wr) (fun _ i _ => n - (intOf i).toNat)
  case atStart => exact ⟨0, k, Nat.zero_le _, rfl, rfl, by simp, Below.refl _ _⟩
  case round =>
    obtain ⟨j, z, hj, rfl, rfl, hz, hb⟩ := hrel
    by_cases hlt : j < n
    · have ilt : (j : Int) < (n : Int) := by omega
      have hjm : j < (marksT k n).length := by rw [marksT_len]; exact hlt
      have z0 : 0 ≤ z := by omega
      have z1 : z + 4 ≤ 35184372088832 := by omega
      have h2 := owns_blocksN (w' := wr) h (fun q hq => hb.block q (h.lt q hq).2)
      obtain ⟨g, hg⟩ : ∃ g, a = some ⟨g, 0, none⟩ := by
        rcases h.2 with ⟨_, h0⟩ | ⟨g, cap, cur, hv, _⟩
        · omega
        · simp only [Value.slice.injEq] at hv; exact ⟨g, hv.1⟩
      subst hg
      have hgw := (h2.lt g rfl).2
      have hcl := stmC_len (marksT k n)
      have hml := marksT_len k n
      have xx := stmC_at (marksT k n) j hjm
      have em : (marksT k n)[j] = mkSt k j := by simp [marksT]
      rw [em] at xx
      have x0 := xx 0 (by decide)
      have x1 := xx 1 (by decide)
      have x2 := xx 2 (by decide)
      have x3 := xx 3 (by decide)
      simp only [Nat.add_zero, List.getElem?_cons_zero, List.getElem?_cons_succ] at x0 x1 x2 x3
      have e0 : (mkSt k j).kind = z := hz.symm
      have e1 : (mkSt k j).name = markS (z + 1).toNat := by show markS (k + 4 * j + 1) = _; rw [show (z + 1).toNat = k + 4 * j + 1 by omega]
      have e2 : (mkSt k j).cond = z + 1 + 1 := by show ((k + 4 * j + 2 : Nat) : Int) = _; omega
      have e3 : (mkSt k j).grant = z + 1 + 1 + 1 := by show ((k + 4 * j + 3 : Nat) : Int) = _; omega
      rw [e0] at x0
      rw [e1] at x1
      rw [e2] at x2
      rw [e3] at x3
      have c0 := (h2.cellAt (j * 4) (by omega)).trans x0
      have c1 := (h2.cellAt (j * 4 + 1) (by omega)).trans x1
      have c2 := (h2.cellAt (j * 4 + 2) (by omega)).trans x2
      have c3 := (h2.cellAt (j * 4 + 3) (by omega)).trans x3
      have Hz := hide hz
      have Hlt := hide hlt
      clear em e0 e1 e2 e3 hz x0 x1 x2 x3 xx h2
      go_wp2_with fail
      go_region_held3 (fun w' => w'.cell? ⟨g, j * 4 + 1, none⟩ = some (.string (markS (z + 1).toNat))) (go_keep)
        ((go_at_call 43; refine (markText_int _ _ (by omega) (by omega)).mono ?_; rintro e w1 ⟨rfl, hb1⟩; have q1 := (hb1.cell (p := ⟨g, j * 4 + 1, none⟩) hgw).trans c1; have q2 := (hb1.cell (p := ⟨g, j * 4 + 2, none⟩) hgw).trans c2; have q3 := (hb1.cell (p := ⟨g, j * 4 + 3, none⟩) hgw).trans c3))
      all_goals
        go_wp2_with fail
        go_roundw
        case rel => exact ⟨j + 1, z + 1 + 1 + 1 + 1, unhide Hlt, by go_num, by go_num, by have := unhide Hz; omega, hb.drew.trans (hb1.mono hb.size)⟩
        case measure => have := unhide Hlt; simp [intOf]; omega
    · have e : j = n := by omega
      subst e
      go_wp2
      go_ret
      exact ⟨by rw [hz]; push_cast; rfl, hb⟩

end Go.Proofs.YtcehablmloleaaaGreatDoor

namespace Go.Proofs.YtcehablmloleaaaGreatDoor
open Go.RowKit
set_option linter.unusedVariables false

theorem lowV_app {lo : Nat} {a b : List Value} (ha : ∀ j, (hj : j < a.length) → ∀ q, a[j].ownBlock = some q → lo ≤ q) (hb : ∀ j, (hj : j < b.length) → ∀ q, b[j].ownBlock = some q → lo ≤ q) : ∀ j, (hj : j < (a ++ b).length) → ∀ q, (a ++ b)[j].ownBlock = some q → lo ≤ q := fun j hj q hq => by
  by_cases h : j < a.length
  · rw [List.getElem_append_left h] at hq
    exact ha j h q hq
  · rw [List.getElem_append_right (by omega)] at hq
    exact hb _ (by simp at hj; omega) q hq

theorem lowV_one {lo : Nat} {v : Value} (h : ∀ q, v.ownBlock = some q → lo ≤ q) : ∀ j, (hj : j < [v].length) → ∀ q, [v][j].ownBlock = some q → lo ≤ q := fun j hj q hq => by
  have hj0 : j = 0 := by simp at hj; exact hj
  subst hj0
  exact h q hq

theorem lowV_mono {lo hi : Nat} {a : List Value} (ha : ∀ j, (hj : j < a.length) → ∀ q, a[j].ownBlock = some q → hi ≤ q) (h : lo ≤ hi) : ∀ j, (hj : j < a.length) → ∀ q, a[j].ownBlock = some q → lo ≤ q := fun j hj q hq => Nat.le_trans h (ha j hj q hq)

end Go.Proofs.YtcehablmloleaaaGreatDoor
