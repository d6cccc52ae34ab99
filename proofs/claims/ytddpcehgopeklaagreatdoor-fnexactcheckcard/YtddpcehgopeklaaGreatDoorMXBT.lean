/-
  EDK, EDM, EDN, EDO. Own work.
-/
import Derived.Test.YtddpcehgopeklaaGreatDoorMXBO
import Derived.Test.YtddpcehgopeklaaGreatDoorMXBP
import Derived.Test.YtddpcehgopeklaaGreatDoorMXBR
import Derived.Test.YtddpcehgopeklaaGreatDoorMXBS
import Derived.Test.YtddpcehgopeklaaGreatDoorMXBI
namespace Go.Proofs.YtddpcehgopeklaaGreatDoor
open Go.RowKit
set_option linter.unusedVariables false

theorem treesX_ex {w : World} {a : Option Addr} {n c : Nat} {N : List Nd} (h : Nds w a n c N) (hF : ∀ x ∈ N, fieldsB x = true) (hN : ∀ x ∈ N, x.num ≤ 9223372036854775807) (hK : ∀ (i : Nat) (x : Nd), N[i]? = some x → ∀ k ∈ x.kids, 0 ≤ k ∧ k < (i : Int)) :
    ∃ Es : List Ex, Es.length = N.length ∧ (∀ j, (h : j < Es.length) → IsT N j Es[j]) ∧ ∀ e ∈ Es, e.fit w := by
  have : ∀ k, k ≤ N.length → ∃ Es : List Ex, Es.length = k ∧ (∀ j, (h : j < Es.length) → IsT N j Es[j]) ∧ ∀ e ∈ Es, e.fit w := by
    intro k
    induction k with
    | zero => exact fun _ => ⟨[], rfl, fun j hj => absurd hj (by simp), fun e he => by cases he⟩
    | succ k ih =>
      intro hk
      obtain ⟨Es, hl, hE, hf⟩ := ih (by omega)
      have hkl : k < N.length := by omega
      have hx : N[k]? = some N[k] := List.getElem?_eq_getElem hkl
      obtain ⟨b, off, _, _, an, nn, cn, ak, nk, ck, _, _, _, _, _, hS, _⟩ := h.cells k hkl
      obtain ⟨e, _, ht, hfit⟩ := mkT_of (w := w) hx (hF _ (List.getElem_mem hkl)) (hK k _ hx) (hN _ (List.getElem_mem hkl)) hl hE hf hS
      refine ⟨Es ++ [e], by simp [hl], fun j hj => ?_, fun f hf' => ?_⟩
      · by_cases hj2 : j < Es.length
        · rw [List.getElem_append_left hj2]; exact hE j hj2
        · have : j = Es.length := by simp at hj; omega
          subst this
          simp only [List.getElem_concat_length]
          rw [hl]; exact ht
      · rcases List.mem_append.1 hf' with hf' | hf'
        · exact hf f hf'
        · simp at hf'; subst hf'; exact hfit
  exact this N.length (Nat.le_refl _)

theorem names_small {x : Nd} (h : fieldsB x = true) : x.names.length ≤ 1048576 := by
  rw [fieldsB, Bool.and_eq_true] at h
  have h := h.2
  repeat' split at h
  all_goals
    first
      | cases h; done
      | (simp only [Bool.and_eq_true, decide_eq_true_eq] at h; first | omega | (have := (setB_sizesQ h.1.1).1; omega))

theorem okM {ns : List ByteArray} {x : Nd} (h : fieldsB x = true) (ht : x.text.size ≤ 1048576) : okN (rvM ns x) ∧ (rvM ns x).text.size ≤ 1048576 := by
  have hn : ∀ s ∈ x.names, s.size ≤ maxLen := fun s hs => by
    have h2 := h
    rw [fieldsB, Bool.and_eq_true] at h2
    have h2 := h2.2
    repeat' split at h2
    all_goals
      first
        | cases h2; done
        | (simp only [Bool.and_eq_true, decide_eq_true_eq] at h2
           first
             | (have e := names0 h2.2; rw [e] at hs; cases hs; done)
             | (have := (setB_sizesQ h2.1.1).2 s hs; unfold maxLen; omega))
  have hk : x.kids.length ≤ 1048576 := by
    have h2 := h
    rw [fieldsB, Bool.and_eq_true, decide_eq_true_eq] at h2
    have h2 := h2.1
    unfold kidN at h2
    repeat' split at h2
    all_goals omega
  have ok : okN x := ⟨names_small h, hk, hn⟩
  unfold rvM
  split
  · split
    · exact ⟨ok, Nat.zero_le _⟩
    · exact ⟨ok, Nat.zero_le _⟩
  · exact ⟨ok, ht⟩

/-- what the model's Check hands back -/
def CmF (q : CkR) (e : Ending) (w' : World) : Prop :=
  (∃ f : Int × Int, q = .error f ∧ e = .returned (.tuple #[.agg #[.slice none 0 0, .slice none 0 0, .slice none 0 0], .agg #[.int .i64 f.1, .int .i64 f.2]])) ∨
  (∃ N L T x n cx y m cy z p cz, q = .ok (N, L, T) ∧ e = .returned (.tuple #[.agg #[.slice x n cx, .slice y m cy, .slice z p cz], .agg #[.int .i64 0, .int .i64 0]]) ∧ Nds w' x n cx N ∧ Sts w' y m cy L ∧ Ints w' z p cz T)

set_option maxHeartbeats 51200000 in
set_option maxRecDepth 100000 in
theorem sCheck_any (a b : Option Addr) (n c m d : Nat) (N : List Nd) (L : List St) (w : World) (h1 : Nds w a n c N) (h2 : Sts w b m d L) (hN : ∀ x ∈ N, x.num ≤ 9223372036854775807) :
    Calls Tryz.prog 5 #[.agg #[.slice a n c, .slice b m d]] w fun r w' => (∃ q, IsCn N L q ∧ CmF q r w') ∧ Below w.heap.size w w' := by
  have HN := hide h1.len
  have HL := hide h2.len
  have HNum := hide hN
  obtain ⟨ti, hti, hz0, hz1, hzb⟩ := info_parts infoND
  have RP := ((Row.new w #[.slice a n c, .slice b m d] 37).alloc (.cells #[.slice none 0 0, .slice none 0 0, .slice none 0 0] 31)).alloc (.cells #[.int .i64 0, .int .i64 0] 33)
  have RT := (Row.new (w.alloc (.cells #[.slice a n c, .slice b m d] 37)) #[.slice none 0 0, .slice none 0 0, .slice none 0 0] 31).alloc (.cells #[.int .i64 0, .int .i64 0] 33)
  have RF := Row.new ((w.alloc (.cells #[.slice a n c, .slice b m d] 37)).alloc (.cells #[.slice none 0 0, .slice none 0 0, .slice none 0 0] 31)) #[.int .i64 0, .int .i64 0] 33
  simp only [World.size_alloc] at RT RF
  have B1 := (((Below.refl w.heap.size w).alloc (Nat.le_refl _) (.cells #[.slice a n c, .slice b m d] 37)).alloc (by simp) (.cells #[.slice none 0 0, .slice none 0 0, .slice none 0 0] 31)).alloc (by simp; omega) (.cells #[.int .i64 0, .int .i64 0] 33)
  have N1 := h1.below B1 (Nat.le_refl _)
  have L1 := h2.below B1 (Nat.le_refl _)
  have HN0 := hide h1
  have HL0 := hide h2
  clear h1 h2 hN
  have W1E : ∃ W1, W1 = ((w.alloc (.cells #[.slice a n c, .slice b m d] 37)).alloc (.cells #[.slice none 0 0, .slice none 0 0, .slice none 0 0] 31)).alloc (.cells #[.int .i64 0, .int .i64 0] 33) := ⟨_, rfl⟩
  go_enter Tryz.func5, Tryz.ntmps5
  go_wp2_with fail
  obtain ⟨W1, hW1⟩ := W1E
  rw [← hW1] at RP RT RF B1 N1 L1 ⊢
  clear hW1
  refine (sValidPolicy_any _ _ _ _ _ _ N L _ N1 L1).mono ?_
  rintro r w2 ⟨rfl, hb2⟩
  have N2 := N1.below hb2 (Nat.le_refl _)
  have L2 := L1.below hb2 (Nat.le_refl _)
  have RP2 := RP.after hb2 (Nat.le_refl _)
  have RT2 := RT.after hb2 (Nat.le_refl _)
  have RF2 := RF.after hb2 (Nat.le_refl _)
  have B2 := B1.trans (hb2.mono B1.size)
  clear N1 L1 RP RT RF B1 hb2
  dsimp only
  cases hw : wellI N L with
  | false =>
    have HW := hide hw
    clear hw
    obtain ⟨t0, t1, t2, _⟩ := row3 RT2
    have tf := fun k => RT2.frozen k
    obtain ⟨u0, u1⟩ := row2 RF2
    have uf := fun k => RF2.frozen k
    go_wp2_with fail
    have RT5 := ((((RT2.set 0 (.slice none 0 0)).set 1 (.slice none 0 0)).set 2 (.slice none 0 0)).setFar (p := ⟨w.heap.size + 1 + 1, 0, none⟩) (by show w.heap.size + 1 ≠ w.heap.size + 1 + 1; omega) (.int .i64 10)).setFar (p := ⟨w.heap.size + 1 + 1, 1, none⟩) (by show w.heap.size + 1 ≠ w.heap.size + 1 + 1; omega) (.int .i64 0)
    have RF5 := ((((RF2.setFar (p := ⟨w.heap.size + 1, 0, none⟩) (by show w.heap.size + 1 + 1 ≠ w.heap.size + 1; omega) (.slice none 0 0)).setFar (p := ⟨w.heap.size + 1, 1, none⟩) (by show w.heap.size + 1 + 1 ≠ w.heap.size + 1; omega) (.slice none 0 0)).setFar (p := ⟨w.heap.size + 1, 2, none⟩) (by show w.heap.size + 1 + 1 ≠ w.heap.size + 1; omega) (.slice none 0 0)).set 0 (.int .i64 10)).set 1 (.int .i64 0)
    have B5 := ((((B2.setCell (p := ⟨w.heap.size + 1, 0, none⟩) (Nat.le_succ _) (.slice none 0 0)).setCell (p := ⟨w.heap.size + 1, 1, none⟩) (Nat.le_succ _) (.slice none 0 0)).setCell (p := ⟨w.heap.size + 1, 2, none⟩) (Nat.le_succ _) (.slice none 0 0)).setCell (p := ⟨w.heap.size + 1 + 1, 0, none⟩) (by show w.heap.size ≤ w.heap.size + 1 + 1; omega) (.int .i64 10)).setCell (p := ⟨w.heap.size + 1 + 1, 1, none⟩) (by show w.heap.size ≤ w.heap.size + 1 + 1; omega) (.int .i64 0)
    obtain ⟨e0, e1, e2, _⟩ := row3 RT5
    obtain ⟨g0, g1⟩ := row2 RF5
    exact bodyPost_ret (v := .tuple #[.agg #[.slice none 0 0, .slice none 0 0, .slice none 0 0], .agg #[.int .i64 10, .int .i64 0]]) (by simp [results, Tryz.results5, go_sem, e0, e1, e2, g0, g1]) rfl ⟨⟨_, .inl ⟨unhide HW, rfl⟩, .inl ⟨(10, 0), rfl, rfl⟩⟩, B5⟩
  | true =>
    have HW := hide hw
    have HP := hide (wellP_of hw)
    clear hw
    obtain ⟨Es, hEl, hE, _⟩ := treesX_ex N2 (unhide HP).fields (unhide HNum) (unhide HP).kids
    have HC := hide (l3check_anyX a b n c m d N L (unhide HP).fields w2 N2 L2 Es (by rw [hEl, unhide HN]) hE (by rw [← unhide HN]; exact (unhide HP).n) (by rw [← unhide HL]; exact (unhide HP).m) (spansX_of (unhide HW) hEl hE) (by rw [cntL_allX (unhide HW) hEl hE]; exact (unhide HP).n))
    have HEl := hide hEl
    have HE := hide hE
    obtain ⟨p0, p1⟩ := row2 RP2
    clear hEl hE
    go_wp2_with fail
    refine (unhide HC).mono ?_
    rintro r w3 (⟨B, lb, ns, ts, tt, nv, lv, tv, ho, hnl, rfl, M3, hlb, hb3⟩ | ⟨f, ho, rfl, hf, hb3⟩)
    · have HO := hide ho
      have HNL := hide hnl
      clear ho hnl HC
      obtain ⟨xt, ct, rfl, _⟩ := owns_form2 M3.types
      obtain ⟨xn, cn, rfl, hnm⟩ := M3.nmsX
      have RP3 := RP2.after hb3 (Nat.le_refl _)
      have RT3 := RT2.after hb3 (Nat.le_refl _)
      have RF3 := RF2.after hb3 (Nat.le_refl _)
      have B3 := B2.trans (hb3.mono B2.size)
      have lz : w.heap.size + 1 + 1 < w2.heap.size := RF2.lt
      have z3 := hb3.size
      clear RP2 RT2 RF2 p0 p1
      have A4 := ((Below.refl w3.heap.size w3).alloc (Nat.le_refl _) (.cells #[.int .i64 0, .int .i64 0] 33)).alloc (by simp) (.cells #[.slice none 0 0, .slice none 0 0, .slice xt tt.length ct] 31)
      have RV := Row.new (w3.alloc (.cells #[.int .i64 0, .int .i64 0] 33)) #[.slice none 0 0, .slice none 0 0, .slice xt tt.length ct] 31
      simp only [World.size_alloc] at RV
      have LL := (unhide HL0).below (B3.trans (A4.mono B3.size)) (Nat.le_refl _)
      have W4E : ∃ W4, W4 = (w3.alloc (.cells #[.int .i64 0, .int .i64 0] 33)).alloc (.cells #[.slice none 0 0, .slice none 0 0, .slice xt tt.length ct] 31) := ⟨_, rfl⟩
      have q1 : ((w3.alloc (.cells #[.int .i64 0, .int .i64 0] 33)).alloc (.cells #[.slice none 0 0, .slice none 0 0, .slice xt tt.length ct] 31)).cell? ⟨w.heap.size, 1, none⟩ = some (.slice b m d) := (RP3.after A4 (Nat.le_refl _)).cell 1
      have hm6 : m ≤ 600 := by rw [← unhide HL]; exact (unhide HP).m
      dsimp only
      go_wp2_with (at_builtin; refine wpList_append_stsC rfl _ _ rfl _ _ 0 [] rfl (World.ownsRow_nil _ (w3.heap.size + 1 + 1) _ _) b m d L rfl LL (by omega) (by simp) ?_)
      intro v5 w5 O5 D5
      obtain ⟨W4, hW4⟩ := W4E
      have z4 : W4.heap.size = w3.heap.size + 1 + 1 := by rw [hW4]; simp
      rw [← hW4] at A4 RV LL D5 q1
      clear hW4 q1
      obtain ⟨xs, cs, rfl, _⟩ := owns_form2 O5
      have RV5 := RV.below D5 (by omega)
      obtain ⟨s0, s1, s2, _⟩ := row3 RV5
      have sf := fun k => RV5.frozen k
      have D45 : Below w3.heap.size w3 w5 := A4.trans (D5.mono (by omega))
      have z5 : w3.heap.size + 1 + 1 ≤ w5.heap.size := by have := D5.size; omega
      have RV6 := RV5.set 1 (.slice xs m cs)
      have D6 := D45.setCell (p := ⟨w3.heap.size + 1, 1, none⟩) (Nat.le_succ _) (.slice xs m cs)
      have O6 := own_set3 O5 ⟨w3.heap.size + 1, 1, none⟩ (.slice xs m cs) (fun q hq => by have := (O5.lt q hq).1; show q ≠ w3.heap.size + 1; omega)
      have q0 : (w5.setCell ⟨w3.heap.size + 1, 1, none⟩ (.slice xs m cs)).cell? ⟨w.heap.size, 0, none⟩ = some (.slice a n c) := (RP3.after D6 (Nat.le_refl _)).cell 0
      have W6E : ∃ W6, W6 = w5.setCell ⟨w3.heap.size + 1, 1, none⟩ (.slice xs m cs) := ⟨_, rfl⟩
      go_wp2_with fail
      obtain ⟨W6, hW6⟩ := W6E
      have z6 : W6.heap.size = w5.heap.size := by rw [hW6]; simp
      rw [← hW6] at RV6 D6 O6 ⊢
      clear hW6 q0 s0 s1 s2 sf RV5 O5 D5 D45 RV A4 LL
      have hn4 : n ≤ 4000 := by rw [← unhide HN]; exact (unhide HP).n
      have HNdp := hide ((unhide HN0).below (B3.trans (D6.mono B3.size)) (Nat.le_refl _))
      have B6 : Below w.heap.size w W6 := B3.trans (D6.mono B3.size)
      have hlbs : lb < W6.heap.size := by have := M3.row.lt; have := D6.size; omega
      have ON0 := OwnN.nil W6 W6.heap.size
      have hlz : w.heap.size + 1 + 1 < w3.heap.size := by omega
      go_loopw [41] (fun i wr => ∃ (k : Nat) (vN : Value) (nw kw : List Value), k ≤ n ∧ i = .int .i64 k ∧ Row wr (w3.heap.size + 1) #[vN, .slice xs m cs, .slice xt tt.length ct] 31 ∧ Hid (OwnN wr W6.heap.size vN ((N.take k).map (rvM ns)) nw kw) ∧ Below (w3.heap.size + 1) W6 wr ∧ Hid (∀ q, q < W6.heap.size → q ≠ w3.heap.size + 1 → wr.heap[q]? = W6.heap[q]?)) (fun i _ => n - (intOf i).toNat)
      case atStart => exact ⟨0, .slice none 0 0, [], [], by omega, rfl, RV6, hide ON0, Below.refl _ _, hide fun _ _ _ => rfl⟩
      case round =>
        obtain ⟨k, vN, nw, kw, hk, rfl, RW, HON, BW, HK⟩ := hrel
        have Bw : Below w.heap.size w wr := B6.trans (BW.mono (by omega))
        have zW := BW.size
        by_cases hlt : k < n
        · have ilt : (k : Int) < (n : Int) := by omega
          have hkl : k < N.length := by rw [unhide HN]; exact hlt
          obtain ⟨b0, o0, ha0, hbl, an, nn, cn0, ak, nk, ck, c0, c1, c2, c3, c4, hNm, hKd⟩ := ((unhide HN0).below Bw (Nat.le_refl _)).cells k hkl
          have HFL := hide ((unhide HP).fields _ (List.getElem_mem hkl))
          have HTK := hide (show (N.take (k + 1)).map (rvM ns) = (N.take k).map (rvM ns) ++ [rvM ns N[k]] by rw [List.take_succ_eq_append_getElem hkl, List.map_append]; rfl)
          have HVL := hide (show ((N.take k).map (rvM ns)).length = k by rw [List.length_map, List.length_take]; omega)
          have HOW := hide (show wr.ownsRow W6.heap.size 53 5 vN k (ndC ((N.take k).map (rvM ns)) nw kw) by have := (unhide HON).own; rwa [unhide HVL] at this)
          obtain ⟨vx, vc, rfl, _⟩ := owns_form2 (unhide HOW)
          have Hlt := hide hlt
          generalize N[k] = x at c0 c1 c2 hNm hKd HFL HTK
          have hnn : nn ≤ 1048576 := by rw [hNm.len]; exact names_small (unhide HFL)
          have A7 := (Below.refl wr.heap.size wr).alloc (Nat.le_refl _) (.cells #[.int .i64 x.op, .int .i64 x.num, .string x.text, .slice an nn cn0, .slice ak nk ck] 53)
          have HCP := hide (l3copy_any x an nn cn0 ak nk ck _ (hNm.below A7 (Nat.le_refl _)) (hKd.below A7 (Nat.le_refl _)) hnn)
          have R7 := Row.new wr #[.int .i64 x.op, .int .i64 x.num, .string x.text, .slice an nn cn0, .slice ak nk ck] 53
          have W7E : ∃ W7, W7 = wr.alloc (.cells #[.int .i64 x.op, .int .i64 x.num, .string x.text, .slice an nn cn0, .slice ak nk ck] 53) := ⟨_, rfl⟩
          clear hlt hkl hNm hKd
          rw [ha0]
          go_wp2_with fail
          refine (unhide HCP).mono ?_
          rintro r w8 ⟨⟨u, cu, ku, ckk, rfl, OU, OK⟩, hb8⟩
          obtain ⟨W7, hW7⟩ := W7E
          rw [← hW7] at A7 R7 OU OK hb8
          clear hW7 HCP c0 c1 c2 c3 c4
          have R8 := R7.after hb8 (Nat.le_refl _)
          have A8 := A7.trans (hb8.mono A7.size)
          have MC : ∃ mc, mc = #[Value.int .i64 x.op, .int .i64 x.num, .string x.text, .slice u x.names.length cu, .slice ku x.kids.length ckk] := ⟨_, rfl⟩
          have R9 := R8.alloc (.cells #[.int .i64 x.op, .int .i64 x.num, .string x.text, .slice u x.names.length cu, .slice ku x.kids.length ckk] 53)
          have M9 := Row.new w8 #[.int .i64 x.op, .int .i64 x.num, .string x.text, .slice u x.names.length cu, .slice ku x.kids.length ckk] 53
          have RW9 := (RW.after A8 (Nat.le_refl _)).alloc (.cells #[.int .i64 x.op, .int .i64 x.num, .string x.text, .slice u x.names.length cu, .slice ku x.kids.length ckk] 53)
          have A9 := A8.alloc A8.size (.cells #[.int .i64 x.op, .int .i64 x.num, .string x.text, .slice u x.names.length cu, .slice ku x.kids.length ckk] 53)
          have OU9 := ownsRow_below OU ((Below.refl w8.heap.size w8).alloc (Nat.le_refl _) (.cells #[.int .i64 x.op, .int .i64 x.num, .string x.text, .slice u x.names.length cu, .slice ku x.kids.length ckk] 53)) (Nat.le_refl _)
          have OK9 := ownsRow_below OK ((Below.refl w8.heap.size w8).alloc (Nat.le_refl _) (.cells #[.int .i64 x.op, .int .i64 x.num, .string x.text, .slice u x.names.length cu, .slice ku x.kids.length ckk] 53)) (Nat.le_refl _)
          obtain ⟨y0, y1, y2, y3, y4⟩ := row5N R9
          obtain ⟨m0, m1, m2, m3, m4⟩ := row5N M9
          have mf := fun k => M9.frozen k
          obtain ⟨t0, t1, t2, _⟩ := row3 RW9
          have tf := fun k => RW9.frozen k
          have W9E : ∃ W9, W9 = w8.alloc (.cells #[.int .i64 x.op, .int .i64 x.num, .string x.text, .slice u x.names.length cu, .slice ku x.kids.length ckk] 53) := ⟨_, rfl⟩
          dsimp only
          by_cases h5 : x.op = 5
          · have e5 : (x.op == 5) = true := beq_iff_eq.2 h5
            have HX5 := hide h5
            have z8 : wr.heap.size < W7.heap.size ∧ W7.heap.size ≤ w8.heap.size := ⟨R7.lt, hb8.size⟩
            have nmw : wr.heap.size ≠ w8.heap.size := by omega
            have ntw : w3.heap.size + 1 ≠ w8.heap.size := by omega
            have lew : wr.heap.size ≤ w8.heap.size := by omega
            have M10 := Row.new w8 #[.int .i64 6, .int .i64 x.num, .string ⟨#[]⟩, .slice u x.names.length cu, .slice ku x.kids.length ckk] 53
            have R10 := R8.alloc (.cells #[.int .i64 6, .int .i64 x.num, .string ⟨#[]⟩, .slice u x.names.length cu, .slice ku x.kids.length ckk] 53)
            have RW10 := (RW.after A8 (Nat.le_refl _)).alloc (.cells #[.int .i64 6, .int .i64 x.num, .string ⟨#[]⟩, .slice u x.names.length cu, .slice ku x.kids.length ckk] 53)
            have A10 := A8.alloc A8.size (.cells #[.int .i64 6, .int .i64 x.num, .string ⟨#[]⟩, .slice u x.names.length cu, .slice ku x.kids.length ckk] 53)
            have hOU : ∀ q, (Value.slice u x.names.length cu).ownBlock = some q → q ≠ w8.heap.size := fun q hq => by have := (OU.lt q hq).2; omega
            have hOK : ∀ q, (Value.slice ku x.kids.length ckk).ownBlock = some q → q ≠ w8.heap.size := fun q hq => by have := (OK.lt q hq).2; omega
            have OU10 := ownsRow_below OU ((Below.refl w8.heap.size w8).alloc (Nat.le_refl _) (.cells #[.int .i64 6, .int .i64 x.num, .string ⟨#[]⟩, .slice u x.names.length cu, .slice ku x.kids.length ckk] 53)) (Nat.le_refl _)
            have OK10 := ownsRow_below OK ((Below.refl w8.heap.size w8).alloc (Nat.le_refl _) (.cells #[.int .i64 6, .int .i64 x.num, .string ⟨#[]⟩, .slice u x.names.length cu, .slice ku x.kids.length ckk] 53)) (Nat.le_refl _)
            obtain ⟨i0, i1, i2, i3, i4⟩ := row5N R10
            have WWE : ∃ WW, WW = w8.alloc (.cells #[.int .i64 6, .int .i64 x.num, .string ⟨#[]⟩, .slice u x.names.length cu, .slice ku x.kids.length ckk] 53) := ⟨_, rfl⟩
            clear h5
            go_wp2_with fail
            obtain ⟨WW, hWW⟩ := WWE
            rw [← hWW] at M10 R10 RW10 A10 OU10 OK10 ⊢
            clear hWW m0 m1 m2 m3 m4 mf t0 t1 t2 tf y0 y1 y2 y3 y4 i0 i1 i2 i3 i4
            refine (l3attr_any x.text _).mono ?_
            rintro r w11 ⟨rfl, hb11⟩
            have M11 := M10.after hb11 (Nat.le_refl _)
            have R11 := R10.after hb11 (Nat.le_refl _)
            have RW11 := RW10.after hb11 (Nat.le_refl _)
            have A11 := A10.trans (hb11.mono A10.size)
            have OU11 := ownsRow_below OU10 hb11 (Nat.le_refl _)
            have OK11 := ownsRow_below OK10 hb11 (Nat.le_refl _)
            have z11 : w8.heap.size < w11.heap.size := M11.lt
            clear M10 R10 RW10 A10 OU10 OK10 hb11
            obtain ⟨m0, m1, m2, m3, m4⟩ := row5N M11
            have mf := fun k => M11.frozen k
            obtain ⟨t0, t1, t2, _⟩ := row3 RW11
            have tf := fun k => RW11.frozen k
            obtain ⟨y0, y1, y2, y3, y4⟩ := row5N R11
            dsimp only
            have HRW := hide (show rvM ns x = if findI x.text attN 0 < 0 then ⟨7, findI x.text ns 0, ⟨#[]⟩, x.names, x.kids⟩ else ⟨6, findI x.text attN 0, ⟨#[]⟩, x.names, x.kids⟩ by rw [rvM, if_pos (unhide HX5)])
            by_cases hneg : findI x.text attN 0 < 0
            · have HRV0 := hide ((unhide HRW).trans (if_pos hneg))
              generalize findI x.text attN 0 = fa at hneg
              have M12 := (M11.set 1 (.int .i64 fa)).set 0 (.int .i64 7)
              have R12 := (R11.setFar (p := ⟨w8.heap.size, 1, none⟩) nmw (.int .i64 fa)).setFar (p := ⟨w8.heap.size, 0, none⟩) nmw (.int .i64 7)
              have RW12 := (RW11.setFar (p := ⟨w8.heap.size, 1, none⟩) ntw (.int .i64 fa)).setFar (p := ⟨w8.heap.size, 0, none⟩) ntw (.int .i64 7)
              have A12 := (A11.setCell (p := ⟨w8.heap.size, 1, none⟩) lew (.int .i64 fa)).setCell (p := ⟨w8.heap.size, 0, none⟩) lew (.int .i64 7)
              have OU12 := own_set3 (own_set3 OU11 ⟨w8.heap.size, 1, none⟩ (.int .i64 fa) hOU) ⟨w8.heap.size, 0, none⟩ (.int .i64 7) hOU
              have OK12 := own_set3 (own_set3 OK11 ⟨w8.heap.size, 1, none⟩ (.int .i64 fa) hOK) ⟨w8.heap.size, 0, none⟩ (.int .i64 7) hOK
              obtain ⟨i0, i1, i2, i3, i4⟩ := row5N R12
              have WVE : ∃ WV, WV = (w11.setCell ⟨w8.heap.size, 1, none⟩ (.int .i64 fa)).setCell ⟨w8.heap.size, 0, none⟩ (.int .i64 7) := ⟨_, rfl⟩
              go_wp2_with fail
              obtain ⟨WV, hWV⟩ := WVE
              rw [← hWV] at M12 R12 RW12 A12 OU12 OK12 ⊢
              clear hWV m0 m1 m2 m3 m4 mf t0 t1 t2 tf y0 y1 y2 y3 y4 i0 i1 i2 i3 i4
              have kblk : ∀ q, q < w3.heap.size → WV.heap[q]? = w3.heap[q]? := fun q hq => ((A12.block q (by omega)).trans (unhide HK q (by omega) (by omega))).trans (D6.block q hq)
              have hlb3 : lb < w3.heap.size := M3.row.lt
              have cl0 : WV.cell? ⟨lb, 0, none⟩ = some (.slice xn ns.length cn) := (World.cell?_of_block (w := w3) (kblk lb hlb3)).trans (M3.row.cell 0)
              have nms : Nms WV xn ns := fun j hj => by
                obtain ⟨bb, oo, h1, h2, h3⟩ := hnm j hj
                exact ⟨bb, oo, h1, by have := A12.size; omega, (World.cell?_of_block (w := w3) (kblk bb h2)).trans h3⟩
              have hnsl : ns.length ≤ 1048576 := by
                have h9 := (allS_len (unhide HO)).2.1
                have h8 := unhide HNL
                have h7 := (unhide HP).m
                simp at h9
                omega
              refine (find_any lb xn ns.length cn ns x.text _ cl0 (by have := A12.size; omega) rfl hnsl nms).mono ?_
              rintro r w13 ⟨rfl, hb13⟩
              have M13 := M12.after hb13 (Nat.le_refl _)
              have RW13 := RW12.after hb13 (Nat.le_refl _)
              have A13 := A12.trans (hb13.mono A12.size)
              have OU13 := ownsRow_below OU12 hb13 (Nat.le_refl _)
              have OK13 := ownsRow_below OK12 hb13 (Nat.le_refl _)
              have z13 : w8.heap.size < w13.heap.size := M13.lt
              clear M12 R12 RW12 A12 OU12 OK12 hb13 kblk cl0 nms
              have HRV := HRV0
              generalize findI x.text ns 0 = fk at HRV HRV0 ⊢
              obtain ⟨m0, m1, m2, m3, m4⟩ := row5N M13
              have mf := fun k => M13.frozen k
              have M14 := M13.set 1 (.int .i64 fk)
              have RW14 := RW13.setFar (p := ⟨w8.heap.size, 1, none⟩) ntw (.int .i64 fk)
              have A14 := A13.setCell (p := ⟨w8.heap.size, 1, none⟩) lew (.int .i64 fk)
              have OU14 := own_set3 OU13 ⟨w8.heap.size, 1, none⟩ (.int .i64 fk) hOU
              have OK14 := own_set3 OK13 ⟨w8.heap.size, 1, none⟩ (.int .i64 fk) hOK
              obtain ⟨l0, l1, l2, l3, l4⟩ := row5N M14
              obtain ⟨t0, t1, t2, _⟩ := row3 RW14
              have tf := fun k => RW14.frozen k
              dsimp only
              have OWA := ownsRow_below (unhide HOW) A14 (Nat.le_refl _)
              have W9E : ∃ W9, W9 = w13.setCell ⟨w8.heap.size, 1, none⟩ (.int .i64 fk) := ⟨_, rfl⟩
              go_wp2_with (at_builtin; refine wpList_append_lies _ rfl _ _ 27 rfl W6.heap.size 53 ti (.agg #[.int .i64 0, .int .i64 0, .string ByteArray.empty, .slice none 0 0, .slice none 0 0]) 5 80 Tryz.underlying27 hti hz0 hz1 hzb rfl (by decide) _ _ _ rfl (World.ownsRow.alloc OWA _) ⟨w13.heap.size, 0, none⟩ 1 1 [.int .i64 7, .int .i64 fk, .string ⟨#[]⟩, .slice u x.names.length cu, .slice ku x.kids.length ckk] rfl rfl ?c1k7 ?c2k7 (by decide) ?c3k7 ?c4k7 ?c5k7 (w13.heap.size + 1) (by simp) ?_)
              try (case c1k7 => exact five_cell _ _ _ _ _ _ _ _ (by simp))
              case c2k7 => first | (intro v hv; simp at hv; rcases hv with rfl | rfl | rfl | rfl | rfl <;> rfl) | exact ⟨rfl, rfl, rfl, rfl, rfl⟩
              case c3k7 => first | (unfold maxLen; omega) | omega
              case c4k7 => omega
              case c5k7 => first | (simp; omega) | omega
              intro g7 c7 wA O7 hgrow hat hgl
              obtain ⟨W9, hW9⟩ := W9E
              have hs9 : W9.heap.size = w13.heap.size := by rw [hW9]; simp
              rw [← hW9] at A14 RW14 OU14 OK14 OWA hgrow
              clear hW9
              have B10 : Below W9.heap.size W9 (W9.alloc (.cells #[.int .i64 7, .int .i64 fk, .string ⟨#[]⟩, .slice u x.names.length cu, .slice ku x.kids.length ckk] 53)) := (Below.refl _ _).alloc (Nat.le_refl _) _
              have RWg := (RW14.alloc (.cells #[.int .i64 7, .int .i64 fk, .string ⟨#[]⟩, .slice u x.names.length cu, .slice ku x.kids.length ckk] 53)).grown hgrow (fun e => own_ne_row RW14 OWA (by decide) e.symm)
              obtain ⟨s0, s1, s2, _⟩ := row3 RWg
              have sf := fun k => RWg.frozen k
              have ON9 := ((unhide HON).blocks (w' := W9.alloc (.cells #[.int .i64 7, .int .i64 fk, .string ⟨#[]⟩, .slice u x.names.length cu, .slice ku x.kids.length ckk] 53)) (fun q h1 h2 => (B10.block q (Nat.lt_of_lt_of_le h2 A14.size)).trans (A14.block q h2)))
              have ltn := (unhide HON).lts
              have OUg := ownsRow_below OU14 B10 (Nat.le_refl _)
              have OKg := ownsRow_below OK14 B10 (Nat.le_refl _)
              have ONX := ON9.snoc (x := ⟨7, fk, ⟨#[]⟩, x.names, x.kids⟩) (u := .slice u x.names.length cu) (k := .slice ku x.kids.length ckk) (owns_lowJ OUg (by omega)) (owns_lowJ OKg (by omega)) (fun j hj q hq e => by have h1 := (ltn.2.1 j hj q hq).2; have h2 := (OUg.lt q e).1; omega) (fun j hj q hq e => by have h1 := (ltn.2.2 j hj q hq).2; have h2 := (OKg.lt q e).1; omega) (v' := .slice (some ⟨g7, 0, none⟩) (k + 1) c7) (w2 := wA) (by rw [unhide HVL]; have h7 := O7; rw [← z6, ← List.map_take] at h7; exact h7) hgrow
              have RWX := RWg.set 0 (.slice (some ⟨g7, 0, none⟩) (k + 1) c7)
              have KX : ∀ q, q < W6.heap.size → q ≠ w3.heap.size + 1 → (wA.setCell ⟨w3.heap.size + 1, 0, none⟩ (.slice (some ⟨g7, 0, none⟩) (k + 1) c7)).heap[q]? = W6.heap[q]? := fun q h1 h2 => by
                rw [heap_setCell_other _ _ q _ h2, hgrow.block q (by have := A14.size; simp; omega) (fun e => by have := ((unhide HOW).lt q e.symm).1; omega), B10.block q (by have := A14.size; omega), A14.block q (by omega)]
                exact unhide HK q h1 h2
              have BX : Below (w3.heap.size + 1) W6 (wA.setCell ⟨w3.heap.size + 1, 0, none⟩ (.slice (some ⟨g7, 0, none⟩) (k + 1) c7)) := (((BW.trans (A14.mono (by omega))).alloc (by have := A14.size; omega) _).grown hgrow (by have := A14.size; simp; omega) (fun q hq => by have := ((unhide HOW).lt q hq).1; omega)).setCell (p := ⟨w3.heap.size + 1, 0, none⟩) (Nat.le_refl _) _
              have HONX := hide (show OwnN (wA.setCell ⟨w3.heap.size + 1, 0, none⟩ (.slice (some ⟨g7, 0, none⟩) (k + 1) c7)) W6.heap.size (.slice (some ⟨g7, 0, none⟩) (k + 1) c7) ((N.take (k + 1)).map (rvM ns)) (nw ++ [.slice u x.names.length cu]) (kw ++ [.slice ku x.kids.length ckk]) by
                rw [unhide HTK, unhide HRV]
                exact ONX.blocks (fun q h1 h2 => heap_setCell_other _ _ q _ (by show q ≠ w3.heap.size + 1; omega)))
              have HKX := hide KX
              clear ONX ON9 ltn OUg OKg KX hgrow hat O7
              go_wp2_with fail
              go_roundw
              case rel => exact ⟨k + 1, _, _, _, unhide Hlt, by go_num, RWX, HONX, BX, HKX⟩
              case measure => have := unhide Hlt; simp [intOf]; omega

            · have HRV0 := hide ((unhide HRW).trans (if_neg hneg))
              have HRV := HRV0
              generalize findI x.text attN 0 = fa at hneg HRV HRV0
              have M12 := M11.set 1 (.int .i64 fa)
              have RW12 := RW11.setFar (p := ⟨w8.heap.size, 1, none⟩) ntw (.int .i64 fa)
              have A12 := A11.setCell (p := ⟨w8.heap.size, 1, none⟩) lew (.int .i64 fa)
              have OU12 := own_set3 OU11 ⟨w8.heap.size, 1, none⟩ (.int .i64 fa) hOU
              have OK12 := own_set3 OK11 ⟨w8.heap.size, 1, none⟩ (.int .i64 fa) hOK
              obtain ⟨l0, l1, l2, l3, l4⟩ := row5N M12
              obtain ⟨t10, t11, t12, _⟩ := row3 RW12
              have OWA := ownsRow_below (unhide HOW) A12 (Nat.le_refl _)
              have W9E : ∃ W9, W9 = w11.setCell ⟨w8.heap.size, 1, none⟩ (.int .i64 fa) := ⟨_, rfl⟩
              go_wp2_with (at_builtin; refine wpList_append_lies _ rfl _ _ 27 rfl W6.heap.size 53 ti (.agg #[.int .i64 0, .int .i64 0, .string ByteArray.empty, .slice none 0 0, .slice none 0 0]) 5 80 Tryz.underlying27 hti hz0 hz1 hzb rfl (by decide) _ _ _ rfl (World.ownsRow.alloc OWA _) ⟨w11.heap.size, 0, none⟩ 1 1 [.int .i64 6, .int .i64 fa, .string ⟨#[]⟩, .slice u x.names.length cu, .slice ku x.kids.length ckk] rfl rfl ?c1k6 ?c2k6 (by decide) ?c3k6 ?c4k6 ?c5k6 (w11.heap.size + 1) (by simp) ?_)
              try (case c1k6 => exact five_cell _ _ _ _ _ _ _ _ (by simp))
              case c2k6 => first | (intro v hv; simp at hv; rcases hv with rfl | rfl | rfl | rfl | rfl <;> rfl) | exact ⟨rfl, rfl, rfl, rfl, rfl⟩
              case c3k6 => first | (unfold maxLen; omega) | omega
              case c4k6 => omega
              case c5k6 => first | (simp; omega) | omega
              intro g7 c7 wA O7 hgrow hat hgl
              obtain ⟨W9, hW9⟩ := W9E
              have hs9 : W9.heap.size = w11.heap.size := by rw [hW9]; simp
              rw [← hW9] at A12 RW12 OU12 OK12 OWA hgrow
              clear hW9
              have B10 : Below W9.heap.size W9 (W9.alloc (.cells #[.int .i64 6, .int .i64 fa, .string ⟨#[]⟩, .slice u x.names.length cu, .slice ku x.kids.length ckk] 53)) := (Below.refl _ _).alloc (Nat.le_refl _) _
              have RWg := (RW12.alloc (.cells #[.int .i64 6, .int .i64 fa, .string ⟨#[]⟩, .slice u x.names.length cu, .slice ku x.kids.length ckk] 53)).grown hgrow (fun e => own_ne_row RW12 OWA (by decide) e.symm)
              obtain ⟨s0, s1, s2, _⟩ := row3 RWg
              have sf := fun k => RWg.frozen k
              have ON9 := ((unhide HON).blocks (w' := W9.alloc (.cells #[.int .i64 6, .int .i64 fa, .string ⟨#[]⟩, .slice u x.names.length cu, .slice ku x.kids.length ckk] 53)) (fun q h1 h2 => (B10.block q (Nat.lt_of_lt_of_le h2 A12.size)).trans (A12.block q h2)))
              have ltn := (unhide HON).lts
              have OUg := ownsRow_below OU12 B10 (Nat.le_refl _)
              have OKg := ownsRow_below OK12 B10 (Nat.le_refl _)
              have ONX := ON9.snoc (x := ⟨6, fa, ⟨#[]⟩, x.names, x.kids⟩) (u := .slice u x.names.length cu) (k := .slice ku x.kids.length ckk) (owns_lowJ OUg (by omega)) (owns_lowJ OKg (by omega)) (fun j hj q hq e => by have h1 := (ltn.2.1 j hj q hq).2; have h2 := (OUg.lt q e).1; omega) (fun j hj q hq e => by have h1 := (ltn.2.2 j hj q hq).2; have h2 := (OKg.lt q e).1; omega) (v' := .slice (some ⟨g7, 0, none⟩) (k + 1) c7) (w2 := wA) (by rw [unhide HVL]; have h7 := O7; rw [← z6, ← List.map_take] at h7; exact h7) hgrow
              have RWX := RWg.set 0 (.slice (some ⟨g7, 0, none⟩) (k + 1) c7)
              have KX : ∀ q, q < W6.heap.size → q ≠ w3.heap.size + 1 → (wA.setCell ⟨w3.heap.size + 1, 0, none⟩ (.slice (some ⟨g7, 0, none⟩) (k + 1) c7)).heap[q]? = W6.heap[q]? := fun q h1 h2 => by
                rw [heap_setCell_other _ _ q _ h2, hgrow.block q (by have := A12.size; simp; omega) (fun e => by have := ((unhide HOW).lt q e.symm).1; omega), B10.block q (by have := A12.size; omega), A12.block q (by omega)]
                exact unhide HK q h1 h2
              have BX : Below (w3.heap.size + 1) W6 (wA.setCell ⟨w3.heap.size + 1, 0, none⟩ (.slice (some ⟨g7, 0, none⟩) (k + 1) c7)) := (((BW.trans (A12.mono (by omega))).alloc (by have := A12.size; omega) _).grown hgrow (by have := A12.size; simp; omega) (fun q hq => by have := ((unhide HOW).lt q hq).1; omega)).setCell (p := ⟨w3.heap.size + 1, 0, none⟩) (Nat.le_refl _) _
              have HONX := hide (show OwnN (wA.setCell ⟨w3.heap.size + 1, 0, none⟩ (.slice (some ⟨g7, 0, none⟩) (k + 1) c7)) W6.heap.size (.slice (some ⟨g7, 0, none⟩) (k + 1) c7) ((N.take (k + 1)).map (rvM ns)) (nw ++ [.slice u x.names.length cu]) (kw ++ [.slice ku x.kids.length ckk]) by
                rw [unhide HTK, unhide HRV]
                exact ONX.blocks (fun q h1 h2 => heap_setCell_other _ _ q _ (by show q ≠ w3.heap.size + 1; omega)))
              have HKX := hide KX
              clear ONX ON9 ltn OUg OKg KX hgrow hat O7
              go_wp2_with fail
              go_roundw
              case rel => exact ⟨k + 1, _, _, _, unhide Hlt, by go_num, RWX, HONX, BX, HKX⟩
              case measure => have := unhide Hlt; simp [intOf]; omega
          · have e5 : (x.op == 5) = false := beq_eq_false_iff_ne.2 h5
            have HRV := hide (show rvM ns x = x by rw [rvM, if_neg h5])
            clear h5
            have z8 : wr.heap.size < W7.heap.size ∧ W7.heap.size ≤ w8.heap.size := ⟨R7.lt, hb8.size⟩
            have OW9 := ownsRow_below (unhide HOW) A9 (Nat.le_refl _)
            go_wp2_with (at_builtin; refine wpList_append_lies _ rfl _ _ 27 rfl W6.heap.size 53 ti (.agg #[.int .i64 0, .int .i64 0, .string ByteArray.empty, .slice none 0 0, .slice none 0 0]) 5 80 Tryz.underlying27 hti hz0 hz1 hzb rfl (by decide) _ _ _ rfl (World.ownsRow.alloc OW9 _) ⟨w8.heap.size + 1, 0, none⟩ 1 1 [.int .i64 x.op, .int .i64 x.num, .string x.text, .slice u x.names.length cu, .slice ku x.kids.length ckk] rfl rfl ?c1 ?c2 (by decide) ?c3 ?c4 ?c5 (w8.heap.size + 1 + 1) (by simp) ?_)
            case c1 => exact five_cell _ _ _ _ _ _ _ _ (by simp)
            case c2 => intro v hv; simp at hv; rcases hv with rfl | rfl | rfl | rfl | rfl <;> rfl
            case c3 => unfold maxLen; omega
            case c4 => omega
            case c5 => simp; omega
            intro g7 c7 w10 O7 hgrow hat hgl
            obtain ⟨W9, hW9⟩ := W9E
            have hs9 : W9.heap.size = w8.heap.size + 1 := by rw [hW9]; simp
            rw [← hW9] at R9 M9 RW9 A9 OU9 OK9 OW9 hgrow
            clear hW9
            have B10 : Below W9.heap.size W9 (W9.alloc (.cells #[.int .i64 x.op, .int .i64 x.num, .string x.text, .slice u x.names.length cu, .slice ku x.kids.length ckk] 53)) := (Below.refl _ _).alloc (Nat.le_refl _) _
            have RW10 := (RW9.alloc (.cells #[.int .i64 x.op, .int .i64 x.num, .string x.text, .slice u x.names.length cu, .slice ku x.kids.length ckk] 53)).grown hgrow (fun e => own_ne_row RW9 OW9 (by decide) e.symm)
            obtain ⟨s0, s1, s2, _⟩ := row3 RW10
            have sf := fun k => RW10.frozen k
            have ON9 := ((unhide HON).blocks (w' := W9.alloc (.cells #[.int .i64 x.op, .int .i64 x.num, .string x.text, .slice u x.names.length cu, .slice ku x.kids.length ckk] 53)) (fun q h1 h2 => (B10.block q (Nat.lt_of_lt_of_le h2 A9.size)).trans (A9.block q h2)))
            have ltn := (unhide HON).lts
            have OU10 := ownsRow_below OU9 B10 (Nat.le_refl _)
            have OK10 := ownsRow_below OK9 B10 (Nat.le_refl _)
            have ONX := ON9.snoc (x := x) (u := .slice u x.names.length cu) (k := .slice ku x.kids.length ckk) (owns_lowJ OU10 (by omega)) (owns_lowJ OK10 (by omega)) (fun j hj q hq e => by have h1 := (ltn.2.1 j hj q hq).2; have h2 := (OU10.lt q e).1; omega) (fun j hj q hq e => by have h1 := (ltn.2.2 j hj q hq).2; have h2 := (OK10.lt q e).1; omega) (v' := .slice (some ⟨g7, 0, none⟩) (k + 1) c7) (w2 := w10) (by rw [unhide HVL]; have h7 := O7; rw [← z6, ← List.map_take] at h7; exact h7) hgrow
            have RWX := RW10.set 0 (.slice (some ⟨g7, 0, none⟩) (k + 1) c7)
            have KX : ∀ q, q < W6.heap.size → q ≠ w3.heap.size + 1 → (w10.setCell ⟨w3.heap.size + 1, 0, none⟩ (.slice (some ⟨g7, 0, none⟩) (k + 1) c7)).heap[q]? = W6.heap[q]? := fun q h1 h2 => by
              rw [heap_setCell_other _ _ q _ h2, hgrow.block q (by have := A9.size; simp; omega) (fun e => by have := ((unhide HOW).lt q e.symm).1; omega), B10.block q (by have := A9.size; omega), A9.block q (by omega)]
              exact unhide HK q h1 h2
            have BX : Below (w3.heap.size + 1) W6 (w10.setCell ⟨w3.heap.size + 1, 0, none⟩ (.slice (some ⟨g7, 0, none⟩) (k + 1) c7)) := (((BW.trans (A9.mono (by omega))).alloc (by have := A9.size; omega) _).grown hgrow (by have := A9.size; simp; omega) (fun q hq => by have := ((unhide HOW).lt q hq).1; omega)).setCell (p := ⟨w3.heap.size + 1, 0, none⟩) (Nat.le_refl _) _
            have HONX := hide (show OwnN (w10.setCell ⟨w3.heap.size + 1, 0, none⟩ (.slice (some ⟨g7, 0, none⟩) (k + 1) c7)) W6.heap.size (.slice (some ⟨g7, 0, none⟩) (k + 1) c7) ((N.take (k + 1)).map (rvM ns)) (nw ++ [.slice u x.names.length cu]) (kw ++ [.slice ku x.kids.length ckk]) by
              rw [unhide HTK, unhide HRV]
              exact ONX.blocks (fun q h1 h2 => heap_setCell_other _ _ q _ (by show q ≠ w3.heap.size + 1; omega)))
            have HKX := hide KX
            clear ONX ON9 ltn OU10 OK10 KX hgrow hat O7
            go_wp2_with fail
            go_roundw
            case rel => exact ⟨k + 1, _, _, _, unhide Hlt, by go_num, RWX, HONX, BX, HKX⟩
            case measure => have := unhide Hlt; simp [intOf]; omega
        · have e : k = n := by omega
          subst e
          obtain ⟨vx, vc, rfl, _⟩ := owns_form2 (unhide HON).own
          have HVL := hide (show ((N.take k).map (rvM ns)).length = k by rw [List.length_map, List.length_take]; have := unhide HN; omega)
          have HTN := hide (show N.take k = N by rw [← unhide HN, List.take_length])
          have RT6 := (RT3.after D6 (Nat.le_refl _)).below BW (by omega)
          have RF6 := (RF3.after D6 (Nat.le_refl _)).below BW (by omega)
          obtain ⟨r0, r1, r2, _⟩ := row3 RW
          obtain ⟨t0, t1, t2, _⟩ := row3 RT6
          have tf := fun j => RT6.frozen j
          obtain ⟨u0, u1⟩ := row2 RF6
          have uf := fun j => RF6.frozen j
          have n1 : w.heap.size + 1 ≠ w3.heap.size + 1 := by omega
          have n2 : w.heap.size + 1 + 1 ≠ w3.heap.size + 1 := by omega
          have n3 : w3.heap.size + 1 ≠ w.heap.size + 1 := by omega
          have n4 : w3.heap.size + 1 ≠ w.heap.size + 1 + 1 := by omega
          have hvl : ((N.take k).map (rvM ns)).length = k := unhide HVL
          rw [hvl] at HON r0 RW
          clear hvl
          have Bw2 : Below w.heap.size w wr := Bw
          have RTX := ((((RT6.set 0 (.slice vx k vc)).set 1 (.slice xs m cs)).set 2 (.slice xt tt.length ct)).setFar (p := ⟨w.heap.size + 1 + 1, 0, none⟩) (by show w.heap.size + 1 ≠ w.heap.size + 1 + 1; omega) (.int .i64 0)).setFar (p := ⟨w.heap.size + 1 + 1, 1, none⟩) (by show w.heap.size + 1 ≠ w.heap.size + 1 + 1; omega) (.int .i64 0)
          have RFX := ((((RF6.setFar (p := ⟨w.heap.size + 1, 0, none⟩) (by show w.heap.size + 1 + 1 ≠ w.heap.size + 1; omega) (.slice vx k vc)).setFar (p := ⟨w.heap.size + 1, 1, none⟩) (by show w.heap.size + 1 + 1 ≠ w.heap.size + 1; omega) (.slice xs m cs)).setFar (p := ⟨w.heap.size + 1, 2, none⟩) (by show w.heap.size + 1 + 1 ≠ w.heap.size + 1; omega) (.slice xt tt.length ct)).set 0 (.int .i64 0)).set 1 (.int .i64 0)
          have BX := ((((Bw.setCell (p := ⟨w.heap.size + 1, 0, none⟩) (Nat.le_succ _) (.slice vx k vc)).setCell (p := ⟨w.heap.size + 1, 1, none⟩) (Nat.le_succ _) (.slice xs m cs)).setCell (p := ⟨w.heap.size + 1, 2, none⟩) (Nat.le_succ _) (.slice xt tt.length ct)).setCell (p := ⟨w.heap.size + 1 + 1, 0, none⟩) (by show w.heap.size ≤ w.heap.size + 1 + 1; omega) (.int .i64 0)).setCell (p := ⟨w.heap.size + 1 + 1, 1, none⟩) (by show w.heap.size ≤ w.heap.size + 1 + 1; omega) (.int .i64 0)
          have kp : ∀ q, w2.heap.size ≤ q → (((((wr.setCell ⟨w.heap.size + 1, 0, none⟩ (.slice vx k vc)).setCell ⟨w.heap.size + 1, 1, none⟩ (.slice xs m cs)).setCell ⟨w.heap.size + 1, 2, none⟩ (.slice xt tt.length ct)).setCell ⟨w.heap.size + 1 + 1, 0, none⟩ (.int .i64 0)).setCell ⟨w.heap.size + 1 + 1, 1, none⟩ (.int .i64 0)).heap[q]? = wr.heap[q]? := fun q h1 => by
            have a1 : q ≠ w.heap.size + 1 := by omega
            have a2 : q ≠ w.heap.size + 1 + 1 := by omega
            rw [heap_setCell_other _ _ q _ a2, heap_setCell_other _ _ q _ a2, heap_setCell_other _ _ q _ a1, heap_setCell_other _ _ q _ a1, heap_setCell_other _ _ q _ a1]
          have OX := (unhide HON).blocks (w' := ((((wr.setCell ⟨w.heap.size + 1, 0, none⟩ (.slice vx k vc)).setCell ⟨w.heap.size + 1, 1, none⟩ (.slice xs m cs)).setCell ⟨w.heap.size + 1, 2, none⟩ (.slice xt tt.length ct)).setCell ⟨w.heap.size + 1 + 1, 0, none⟩ (.int .i64 0)).setCell ⟨w.heap.size + 1 + 1, 1, none⟩ (.int .i64 0)) (fun q h1 h2 => kp q (by omega))
          rw [unhide HTN] at OX
          have hnl := unhide HNL
          have HOK := hide (show ∀ y ∈ N.map (rvM ns), okN y ∧ y.text.size ≤ 1048576 from fun y hy => by
            obtain ⟨x, hx, rfl⟩ := List.mem_map.1 hy
            exact okM ((unhide HP).fields x hx) ((unhide HN0).sizes x hx))
          have HND := hide (OX.nds (by rw [List.length_map]; exact unhide HN) (by omega) (unhide HOK))
          have OSw : wr.ownsRow (w3.heap.size + 1 + 1) 77 4 (.slice xs m cs) m (stmC L) := owns_blocks2 O6 (fun q hq => unhide HK q (O6.lt q hq).2 (by have := (O6.lt q hq).1; omega))
          have HST := hide (sts_of_owns (owns_blocks2 OSw (fun q hq => kp q (by have := (OSw.lt q hq).1; omega))) (unhide HL) (by omega) (unhide HL0).sizes)
          have OT6 := ownsRow_below M3.types D6 (Nat.le_refl _)
          have OTw : wr.ownsRow B 3 1 (.slice xt tt.length ct) tt.length (intsV tt) := owns_blocks2 OT6 (fun q hq => unhide HK q (OT6.lt q hq).2 (by have := (M3.types.lt q hq).2; omega))
          have hBB : w2.heap.size ≤ B := by have := M3.low; omega
          have httl : tt.length ≤ 1048576 := by
            have h9 := (allS_len (unhide HO)).1
            rw [cntL_allX (unhide HW) (unhide HEl) (unhide HE)] at h9
            have h8 := (unhide HP).n
            simp at h9
            omega
          have HIT := hide (ints_of_owns (owns_blocks2 OTw (fun q hq => kp q (by have := (OTw.lt q hq).1; omega))) rfl httl)
          have HRS := hide (show N.map (rvM ns) = N.map (rvX (dOf ns ts)) from List.map_congr_left fun x hx => rvM_eq hnl ((unhide HP).fields x hx) (fun h5 => by obtain ⟨j, hj, hje⟩ := List.getElem_of_mem hx; exact name_found (unhide HW) (unhide HEl) (unhide HE) (unhide HO) (j := j) (by rw [List.getElem?_eq_getElem hj, hje]) h5))
          clear OX kp OSw OTw OT6
          go_wp2_with fail
          obtain ⟨e0, e1, e2, _⟩ := row3 RTX
          obtain ⟨g0, g1⟩ := row2 RFX
          exact bodyPost_ret (v := .tuple #[.agg #[.slice vx k vc, .slice xs m cs, .slice xt tt.length ct], .agg #[.int .i64 0, .int .i64 0]]) (by simp [results, Tryz.results5, go_sem, e0, e1, e2, g0, g1]) rfl ⟨⟨.ok (N.map (rvX (dOf ns ts)), L, tt), .inr ⟨unhide HW, Es, unhide HEl, unhide HE, by rw [unhide HO]⟩, .inr ⟨_, _, _, _, _, _, _, _, _, _, _, _, rfl, rfl, (by rw [← unhide HRS]; exact unhide HND), unhide HST, unhide HIT⟩⟩, BX⟩
    · have HO := hide ho
      clear ho HC
      have RT3 := RT2.after hb3 (Nat.le_refl _)
      have RF3 := RF2.after hb3 (Nat.le_refl _)
      have B3 := B2.trans (hb3.mono B2.size)
      have RT4 := RT3.alloc (.cells #[.int .i64 f.1, .int .i64 f.2] 33)
      have RF4 := RF3.alloc (.cells #[.int .i64 f.1, .int .i64 f.2] 33)
      have RV := Row.new w3 #[.int .i64 f.1, .int .i64 f.2] 33
      have B4 := B3.alloc B3.size (.cells #[.int .i64 f.1, .int .i64 f.2] 33)
      have ne0 : (f.1 != 0) = true := bne_iff_ne.2 hf
      have lz : w.heap.size + 1 + 1 < w3.heap.size := RF3.lt
      have W4E : ∃ W4, W4 = w3.alloc (.cells #[.int .i64 f.1, .int .i64 f.2] 33) := ⟨_, rfl⟩
      obtain ⟨v0, v1⟩ := row2 RV
      obtain ⟨t0, t1, t2, _⟩ := row3 RT4
      have tf := fun k => RT4.frozen k
      obtain ⟨u0, u1⟩ := row2 RF4
      have uf := fun k => RF4.frozen k
      dsimp only
      obtain ⟨W4, hW4⟩ := W4E
      go_wp2_with fail
      rw [← hW4] at RT4 RF4 RV B4 v0 v1 t0 t1 t2 tf u0 u1 uf ⊢
      clear hW4
      have n1 : w.heap.size + 1 ≠ w3.heap.size := by omega
      have n2 : w.heap.size + 1 + 1 ≠ w3.heap.size := by omega
      have n3 : w3.heap.size ≠ w.heap.size + 1 := by omega
      have n4 : w3.heap.size ≠ w.heap.size + 1 + 1 := by omega
      go_region
      all_goals
        have RT5 := ((((RT4.set 0 (.slice none 0 0)).set 1 (.slice none 0 0)).set 2 (.slice none 0 0)).setFar (p := ⟨w.heap.size + 1 + 1, 0, none⟩) (by show w.heap.size + 1 ≠ w.heap.size + 1 + 1; omega) (.int .i64 f.1)).setFar (p := ⟨w.heap.size + 1 + 1, 1, none⟩) (by show w.heap.size + 1 ≠ w.heap.size + 1 + 1; omega) (.int .i64 f.2)
        have RF5 := ((((RF4.setFar (p := ⟨w.heap.size + 1, 0, none⟩) (by show w.heap.size + 1 + 1 ≠ w.heap.size + 1; omega) (.slice none 0 0)).setFar (p := ⟨w.heap.size + 1, 1, none⟩) (by show w.heap.size + 1 + 1 ≠ w.heap.size + 1; omega) (.slice none 0 0)).setFar (p := ⟨w.heap.size + 1, 2, none⟩) (by show w.heap.size + 1 + 1 ≠ w.heap.size + 1; omega) (.slice none 0 0)).set 0 (.int .i64 f.1)).set 1 (.int .i64 f.2)
        have B5 := (((((B4.setCell (p := ⟨w.heap.size + 1, 0, none⟩) (Nat.le_succ _) (.slice none 0 0)).setCell (p := ⟨w.heap.size + 1, 1, none⟩) (Nat.le_succ _) (.slice none 0 0)).setCell (p := ⟨w.heap.size + 1, 2, none⟩) (Nat.le_succ _) (.slice none 0 0)).setCell (p := ⟨w.heap.size + 1 + 1, 0, none⟩) (by show w.heap.size ≤ w.heap.size + 1 + 1; omega) (.int .i64 f.1)).setCell (p := ⟨w.heap.size + 1 + 1, 1, none⟩) (by show w.heap.size ≤ w.heap.size + 1 + 1; omega) (.int .i64 f.2)).drew
        go_wp2_with fail
        obtain ⟨e0, e1, e2, _⟩ := row3 RT5
        obtain ⟨g0, g1⟩ := row2 RF5
        exact bodyPost_ret (v := .tuple #[.agg #[.slice none 0 0, .slice none 0 0, .slice none 0 0], .agg #[.int .i64 f.1, .int .i64 f.2]]) (by simp [results, Tryz.results5, go_sem, e0, e1, e2, g0, g1]) rfl ⟨⟨.error f, .inr ⟨unhide HW, Es, unhide HEl, unhide HE, by rw [unhide HO]⟩, .inl ⟨f, rfl, rfl⟩⟩, B5⟩

end Go.Proofs.YtddpcehgopeklaaGreatDoor

namespace Go.Proofs.YtddpcehgopeklaaGreatDoor
open Go.RowKit
set_option linter.unusedVariables false

set_option maxHeartbeats 800000 in
theorem eqFaultX (c a : Int) (w : World) :
    Calls Tryz.prog 9 #[.agg #[.int .i64 c, .int .i64 a], .agg #[.int .i64 c, .int .i64 a]] w fun e w' => e = .returned (.bool true) ∧ Below w.heap.size w w' := by
  have B0 := ((Below.refl w.heap.size w).alloc (Nat.le_refl _) (.cells #[.int .i64 c, .int .i64 a] 33)).alloc (by simp) (.cells #[.int .i64 c, .int .i64 a] 33)
  go_enter Tryz.func9, Tryz.ntmps9
  go_wp2
  go_ret
  exact ⟨rfl, B0⟩

/-- the rows of a policy that was copied -/
def PdM (B : Nat) (w : World) (x1 x2 : Addr) (m : Nat) (N : List Nd) : Prop := (∃ g, x1 = ⟨g, 0, none⟩ ∧ Hi w g N) ∧ Wd w x2 (m * 4) 77 ∧ B ≤ x1.block ∧ B ≤ x2.block

set_option maxHeartbeats 1600000 in
theorem toPolicy_z (a b : Option Addr) (n c m d : Nat) (N : List Nd) (L : List St) (w : World) (h1 : NdsR w a n c N) (h2 : StsR w b m d L) (hs : smallP n m N L) :
    Calls Tryz.prog 6 #[.agg #[.slice a n c, .slice b m d]] w fun e w' => ∃ x1 x2, e = .returned (.agg #[.slice (some x1) n n, .slice (some x2) m m]) ∧ Nds w' (some x1) n n N ∧ Sts w' (some x2) m m L ∧ Below w.heap.size w w' ∧ PdM w.heap.size w' x1 x2 m N := by
  go_enter Tryz.func6, Tryz.ntmps6
  go_wp2_with fail
  have B0 := ((((Below.refl w.heap.size w).alloc (Nat.le_refl _) (.cells #[.slice a n c, .slice b m d] 25)).alloc (by simp) (.cells #[.slice none 0 0, .slice none 0 0] 37)).alloc (by simp; omega) (.cells #[.slice none 0 0, .slice none 0 0] 37))
  have R0 := ((Row.new w #[.slice a n c, .slice b m d] 25).alloc (.cells #[.slice none 0 0, .slice none 0 0] 37)).alloc (.cells #[.slice none 0 0, .slice none 0 0] 37)
  have R1 := (Row.new (w.alloc (.cells #[.slice a n c, .slice b m d] 25)) #[.slice none 0 0, .slice none 0 0] 37).alloc (.cells #[.slice none 0 0, .slice none 0 0] 37)
  have R2 := Row.new ((w.alloc (.cells #[.slice a n c, .slice b m d] 25)).alloc (.cells #[.slice none 0 0, .slice none 0 0] 37)) #[.slice none 0 0, .slice none 0 0] 37
  simp only [World.size_alloc] at R1 R2
  refine (toNodeS_any _ _ _ _ _ (h1.below B0 (Nat.le_refl _)) hs.1.1 hs.1.2).mono ?_
  rintro e w1 ⟨rfl, hb1, ho1⟩
  have B1 := B0.trans (hb1.mono (by simp; omega))
  have r0 := R0.after hb1 (Nat.le_refl _)
  have r1 := R1.after hb1 (Nat.le_refl _)
  have r2 := R2.after hb1 (Nat.le_refl _)
  have z1 := hb1.size
  simp only [World.size_alloc] at z1 ho1
  clear B0 R0 R1 R2 hb1
  have q0 := r0.cell 1
  have q1 := r2.cell 0
  have q2 := r2.frozen 0
  simp only [List.getElem?_toArray, List.getElem?_cons_succ, List.getElem?_cons_zero] at q0 q1
  go_wp2_with fail
  have B2 := B1.setCell (p := ⟨w.heap.size + 1 + 1, 0, none⟩) (by show w.heap.size ≤ w.heap.size + 1 + 1; omega) (.slice (some ⟨w.heap.size + 1 + 1 + 1, 0, none⟩) n n)
  refine (toStmtS_any _ _ _ _ _ (h2.below B2 (Nat.le_refl _)) hs.2.1 hs.2.2).mono ?_
  rintro e w2 ⟨rfl, hb2, ho2, hw2⟩
  have r1' := (r1.setFar (p := ⟨w.heap.size + 1 + 1, 0, none⟩) (by show w.heap.size + 1 ≠ w.heap.size + 1 + 1; omega) (.slice (some ⟨w.heap.size + 1 + 1 + 1, 0, none⟩) n n)).after hb2 (Nat.le_refl _)
  have r2' := (r2.set 0 (.slice (some ⟨w.heap.size + 1 + 1 + 1, 0, none⟩) n n)).after hb2 (Nat.le_refl _)
  have s1'' := (ho1.setLow (p := ⟨w.heap.size + 1 + 1, 0, none⟩) (by show w.heap.size + 1 + 1 < w.heap.size + 1 + 1 + 1; omega) (.slice (some ⟨w.heap.size + 1 + 1 + 1, 0, none⟩) n n)).below hb2 (Nat.le_refl _)
  have B3 := B2.trans (hb2.mono (by simp; omega))
  have z2 := hb2.size
  simp only [World.size_setCell] at z2 ho2 hw2
  clear r0 r1 r2 ho1 q0 q1 q2 B1 B2 hb2
  have f1 := fun j => r1'.frozen j
  have f2 := fun j => r2'.frozen j
  have p0 := r1'.cell 0
  have p1 := r1'.cell 1
  have q0 := r2'.cell 0
  have q1 := r2'.cell 1
  simp at p0 p1 q0 q1
  go_wp2_with fail
  refine bodyPost_ret (v := .agg #[.slice (some ⟨w.heap.size + 1 + 1 + 1, 0, none⟩) n n, .slice (some ⟨w1.heap.size, 0, none⟩) m m]) (by simp [results, Tryz.results6, go_sem, p0, p1]) rfl ⟨_, _, rfl, ?_, ?_, ?_, ?_, ?_, ?_, ?_⟩
  · refine Hi.nds ?_ h1.len hs.1.1 hs.1.2
    refine Hi.setLow (Hi.setLow (Hi.setLow s1'' ?_ _) ?_ _) ?_ _
    all_goals (dsimp only; omega)
  · refine Sts.setFar (Sts.setFar (Sts.setFar ho2 ?_ _) ?_ _) ?_ _
    all_goals (dsimp only; omega)
  · refine Below.setCell (Below.setCell (Below.setCell B3 ?_ _) ?_ _) ?_ _
    all_goals (dsimp only; omega)
  · refine ⟨w.heap.size + 1 + 1 + 1, rfl, ?_⟩
    refine Hi.setLow (Hi.setLow (Hi.setLow s1'' ?_ _) ?_ _) ?_ _
    all_goals (dsimp only; omega)
  · refine Wd.setFar (Wd.setFar (Wd.setFar hw2 ?_ _) ?_ _) ?_ _
    all_goals (dsimp only; omega)
  · dsimp only; omega
  · dsimp only; omega

/-- a policy's rows, by their lengths -/
def PoZ (w : World) (lo hi : Nat) (x1 x2 : Addr) (n m : Nat) : Prop := ∃ g cs g2, x1 = ⟨g, 0, none⟩ ∧ x2 = ⟨g2, 0, none⟩ ∧ Row w g cs 53 ∧ cs.size = n * 5 ∧ NdZ w lo hi n cs ∧ Wd w ⟨g2, 0, none⟩ (m * 4) 77 ∧ (lo ≤ g ∧ g < hi) ∧ (lo ≤ g2 ∧ g2 < hi)

theorem PoZ.below {w w' : World} {lo hi n m : Nat} {x1 x2 : Addr} (h : PoZ w lo hi x1 x2 n m) (hb : Below w.heap.size w w') : PoZ w' lo hi x1 x2 n m := by
  obtain ⟨g, cs, g2, e1, e2, R, z, Z, W2, b⟩ := h
  exact ⟨g, cs, g2, e1, e2, R.after hb (Nat.le_refl _), z, Z.below hb, W2.below hb (Nat.le_refl _), b⟩

theorem PoZ.of {B n m : Nat} {w : World} {x1 x2 : Addr} {N : List Nd} {L : List St} (h : PdM B w x1 x2 m N) (hl : N.length = n) (hs : smallP n m N L) : PoZ w B w.heap.size x1 x2 n m := by
  obtain ⟨⟨g, rfl, cs, ⟨R, z⟩, hx⟩, ⟨g2, c2, rfl, R2, z2⟩, b1, b2⟩ := h
  refine ⟨g, cs, g2, rfl, rfl, R, by rw [z, hl], fun i hi => ?_, ⟨g2, c2, rfl, R2, z2⟩, ⟨b1, R.lt⟩, b2, R2.lt⟩
  obtain ⟨y1, nn, y2, nk, _, _, _, d3, d4, hS, hI, ⟨w1, w2⟩, g1, g2⟩ := hx i (by omega)
  have hsm := hs.1.2 _ (List.getElem_mem (by omega : i < N.length))
  obtain ⟨q1, t1, rfl, s1, u1⟩ := w1
  obtain ⟨q2, t2, rfl, s2, u2⟩ := w2
  exact ⟨q1, nn, q2, nk, d3, d4, ⟨q1, t1, rfl, s1, u1⟩, ⟨q2, t2, rfl, s2, u2⟩, by rw [hS.len]; exact hsm.2.1, hI.small, ⟨by have : g < q1 := g1; have : B ≤ g := b1; omega, s1.lt⟩, by have : g < q2 := g2; have : B ≤ g := b1; omega, s2.lt⟩

set_option maxRecDepth 100000 in
set_option maxHeartbeats 1600000 in
theorem markPolicy_z (lo hi : Nat) (x1 x2 : Addr) (n m : Nat) (w : World) (h : PoZ w lo hi x1 x2 n m) (hhi : hi ≤ w.heap.size) (hn : n ≤ 1048576) (hm : m ≤ 1048576) :
    Calls Tryz.prog 11 #[.agg #[.slice (some x1) n n, .slice (some x2) m m], .int .i64 1] w fun e w' => (∃ y : Nat, e = .returned (.int .i64 y) ∧ y ≤ 8796093022208) ∧ Touch lo hi w w' := by
  obtain ⟨g, cs, g2, rfl, rfl, R, z, Z, W2, b1, b2⟩ := h
  have B0 := (Below.refl w.heap.size w).alloc (Nat.le_refl _) (.cells #[.slice (some ⟨g, 0, none⟩) n n, .slice (some ⟨g2, 0, none⟩) m m] 37)
  have X0 := Row.new w #[.slice (some ⟨g, 0, none⟩) n n, .slice (some ⟨g2, 0, none⟩) m m] 37
  have K0 := KeepW.below B0
  have T0 := Touch.of_below (lo := lo) (hi := hi) B0 (Nat.le_refl _)
  have HN := hide (markNodeS_z lo hi g n n 1 cs _ (R.after B0 (Nat.le_refl _)) z (Z.below B0) b1 hn (by omega))
  have V2 := K0 _ _ _ W2
  clear W2 R Z K0
  go_enter Tryz.func11, Tryz.ntmps11
  go_wp2_with fail
  refine (unhide HN).mono ?_
  rintro e w1 ⟨⟨y, rfl, hy⟩, T1, K1⟩
  have X1 : Row w1 w.heap.size _ 37 := ⟨(T1.block _ X0.lt (.inr hhi)).trans X0.out⟩
  have U2 := K1 _ _ _ V2
  have D1 := T0.trans T1
  obtain ⟨m0, m1⟩ := row2 X1
  clear V2 T1 K1 X0 T0 HN
  dsimp only
  go_wp2_with fail
  refine (markStmtS_z g2 m m _ _ U2 hm (by omega) (by omega)).mono ?_
  rintro e w2 ⟨rfl, T2, K2⟩
  have X2 : Row w2 w.heap.size _ 37 := ⟨(T2.block _ X1.lt (.inr (by have := b2.2; omega))).trans X1.out⟩
  have D2 := D1.trans (T2.mono2 b2.1 b2.2)
  dsimp only
  go_wp2_with fail
  go_ret
  exact ⟨⟨y + 4 * m, by go_num, by omega⟩, D2⟩

end Go.Proofs.YtddpcehgopeklaaGreatDoor

namespace Go.Proofs.YtddpcehgopeklaaGreatDoor
open Go.RowKit
set_option linter.unusedVariables false

/-- what the law is given -/
structure EnvK (w : World) (a b : Option Addr) (n c m d : Nat) (N : List Nd) (L : List St) (aX a1 a2 a3 a4 a5 a6 a7 a8 a9 : Addr) : Prop where
  nd : NdsR w a n c N
  st : StsR w b m d L
  tab : TabOK w
  vo : Vok w a9
  sn : Sn9 w aX a1 a2 a3 a4 a5 a6 a7 a8 a9

theorem EnvK.below {w w' : World} {B : Nat} {a b : Option Addr} {n c m d : Nat} {N : List Nd} {L : List St} {aX a1 a2 a3 a4 a5 a6 a7 a8 a9 : Addr} (h : EnvK w a b n c m d N L aX a1 a2 a3 a4 a5 a6 a7 a8 a9) (hb : Below B w w') (hB : w.heap.size ≤ B) : EnvK w' a b n c m d N L aX a1 a2 a3 a4 a5 a6 a7 a8 a9 :=
  ⟨h.nd.below hb hB, h.st.below hb hB, h.tab.below hb hB, h.vo.below hb hB, h.sn.below hb hB⟩

/-- a copy of the policy -/
def CpP (w : World) (x1 x2 : Addr) (n m : Nat) (N : List Nd) (L : List St) : Prop := Nds w (some x1) n n N ∧ Sts w (some x2) m m L

theorem CpP.below {w w' : World} {x1 x2 : Addr} {n m : Nat} {N : List Nd} {L : List St} (h : CpP w x1 x2 n m N L) (hb : Below w.heap.size w w') : CpP w' x1 x2 n m N L :=
  ⟨h.1.below hb (Nat.le_refl _), h.2.below hb (Nat.le_refl _)⟩

/-- a typed policy and a fault, told by an answer -/
def ansOf : CkR → (List Nd × List St × List Int) × (Int × Int)
  | .ok t => (t, (0, 0))
  | .error f => (([], [], []), f)

theorem okX {D : List Dc} {x : Nd} (h : fieldsB x = true) (ht : x.text.size ≤ 1048576) : okN (rvX D x) ∧ (rvX D x).text.size ≤ 1048576 ∧ (rvX D x).names.length + (rvX D x).kids.length ≤ 65535 := by
  have h1 := okM (ns := []) h ht
  have hn : x.names.length ≤ 64 := by
    have h2 := h
    rw [fieldsB, Bool.and_eq_true] at h2
    have h2 := h2.2
    repeat' split at h2
    all_goals
      first
        | cases h2; done
        | (simp only [Bool.and_eq_true, decide_eq_true_eq] at h2; first | omega | (have := (setB_sizesQ h2.1.1).1; omega))
  have hk : x.kids.length ≤ 3 := by
    have h2 := h
    rw [fieldsB, Bool.and_eq_true, decide_eq_true_eq] at h2
    have h2 := h2.1
    unfold kidN at h2
    repeat' split at h2
    all_goals omega
  unfold rvX
  split
  · cases fnd D x.text with
    | none => exact ⟨⟨Nat.zero_le _, Nat.zero_le _, fun s hs => by cases hs⟩, Nat.zero_le _, Nat.zero_le _⟩
    | some d => exact ⟨⟨Nat.zero_le _, Nat.zero_le _, fun s hs => by cases hs⟩, Nat.zero_le _, Nat.zero_le _⟩
  · rename_i ho
    rw [rvM, if_neg ho] at h1
    exact ⟨h1.1, h1.2, by omega⟩

theorem okT_of {w : World} {a b : Option Addr} {n c m d : Nat} {N : List Nd} {L : List St} {q : CkR} (h1 : Nds w a n c N) (h2 : Sts w b m d L) (h : IsCn N L q) : okT (ansOf q).1.1 (ansOf q).1.2.1 (ansOf q).1.2.2 := by
  have e0 : okT [] [] [] := ⟨⟨by simp, fun x hx => (by cases hx)⟩, ⟨by simp, fun s hs => (by cases hs)⟩, by simp⟩
  rcases h with ⟨_, rfl⟩ | ⟨hw, Es, hl, hE, rfl⟩
  · exact e0
  · cases hs : allS Es (attD, [], []) L with
    | error f => exact e0
    | ok st =>
      have W := wellP_of hw
      have hT := (allS_len hs).1
      rw [cntL_allX hw hl hE] at hT
      have hn := W.n
      have hm := W.m
      refine ⟨⟨by simp [ansOf]; omega, fun y hy => ?_⟩, ⟨by simp [ansOf]; omega, fun s hs' => h2.sizes s hs'⟩, by simp [ansOf] at hT ⊢; omega⟩
      obtain ⟨x, hx, rfl⟩ := List.mem_map.1 hy
      exact okX (W.fields x hx) (h1.sizes x hx)

/-- the model's answer -/
def SpA (q : CkR) (w : World) (r : Ending) (w' : World) : Prop := (∃ x n cx y m cy z p cz, r = .returned (.tuple #[.agg #[.slice x n cx, .slice y m cy, .slice z p cz], .agg #[.int .i64 (ansOf q).2.1, .int .i64 (ansOf q).2.2]]) ∧ Nds w' x n cx (ansOf q).1.1 ∧ Sts w' y m cy (ansOf q).1.2.1 ∧ Ints w' z p cz (ansOf q).1.2.2) ∧ Below w.heap.size w w'

/-- the program's answer -/
def ImA (q : CkR) (w : World) (r : Ending) (w' : World) : Prop := (∃ x n cx y m cy z p cz nv kv hi, r = .returned (.tuple #[.agg #[.slice x n cx, .slice y m cy, .slice z p cz], .agg #[.int .i64 (ansOf q).2.1, .int .i64 (ansOf q).2.2]]) ∧ OwnTy w' w.heap.size hi x n cx y m cy z p cz (ansOf q).1.1 nv kv (ansOf q).1.2.1 (ansOf q).1.2.2) ∧ Below w.heap.size w w'

theorem ownTy_nil (w : World) (lo : Nat) : OwnTy w lo 0 none 0 0 none 0 0 none 0 0 [] [] [] [] [] :=
  ⟨OwnN.nil w lo, World.ownsRow_nil _ _ _ _, World.ownsRow_nil _ _ _ _, fun q hq => (by cases hq), ⟨fun q hq => (by cases hq), fun j hj => absurd hj (by simp), fun j hj => absurd hj (by simp)⟩, fun q hq => (by cases hq), fun q hq => (by cases hq), Nat.zero_le _, rfl, rfl, rfl⟩

section
variable {a b : Option Addr} {n c m d : Nat} {N : List Nd} {L : List St} {aX a1 a2 a3 a4 a5 a6 a7 a8 a9 : Addr}

theorem toP_any {w : World} (h : EnvK w a b n c m d N L aX a1 a2 a3 a4 a5 a6 a7 a8 a9) (hs : smallP n m N L) :
    Calls Tryz.prog 6 #[.agg #[.slice a n c, .slice b m d]] w fun e w' => ∃ x1 x2, e = .returned (.agg #[.slice (some x1) n n, .slice (some x2) m m]) ∧ CpP w' x1 x2 n m N L ∧ Below w.heap.size w w' ∧ PoZ w' w.heap.size w'.heap.size x1 x2 n m :=
  (toPolicy_z a b n c m d N L w h.nd h.st hs).mono fun e w' ⟨x1, x2, he, h1, h2, hb, M⟩ => ⟨x1, x2, he, ⟨h1, h2⟩, hb, PoZ.of M h.nd.len hs⟩

theorem sChk_any {w : World} {x1 x2 : Addr} (hN : ∀ x ∈ N, x.num ≤ 9223372036854775807) (hT : CpP w x1 x2 n m N L) :
    Calls Tryz.prog 5 #[.agg #[.slice (some x1) n n, .slice (some x2) m m]] w fun r w' => ∃ q, IsCn N L q ∧ SpA q w r w' := by
  refine (sCheck_any _ _ _ _ _ _ N L w hT.1 hT.2 hN).mono ?_
  rintro r w' ⟨⟨q, hq, hr⟩, hb⟩
  refine ⟨q, hq, ?_, hb⟩
  rcases hr with ⟨f, rfl, rfl⟩ | ⟨N', L', T', x, n', cx, y, m', cy, z, p, cz, rfl, rfl, g1, g2, g3⟩
  · exact ⟨none, 0, 0, none, 0, 0, none, 0, 0, rfl, ⟨rfl, by decide, fun x hx => (by cases hx), fun j hj => absurd hj (by simp [ansOf])⟩, ⟨rfl, by decide, fun x hx => (by cases hx), fun j hj => absurd hj (by simp [ansOf])⟩, ints_noneJ w'⟩
  · exact ⟨_, _, _, _, _, _, _, _, _, rfl, g1, g2, g3⟩

theorem iChk_any {w : World} (hN : ∀ x ∈ N, x.num ≤ 9223372036854775807) (hE : EnvK w a b n c m d N L aX a1 a2 a3 a4 a5 a6 a7 a8 a9) {x1 x2 : Addr} (hT : CpP w x1 x2 n m N L) {q : CkR} (hq : IsCn N L q) :
    Calls Tryz.prog 7 #[.agg #[.slice (some x1) n n, .slice (some x2) m m]] w (ImA q w) := by
  refine (iCheck_any _ _ _ _ _ _ N L aX a1 a2 a3 a4 a5 a6 a7 a8 a9 w hT.1 hT.2 hE.tab hE.vo hE.sn hN).mono ?_
  rintro r w' ⟨⟨q', hq', hr⟩, hb⟩
  rw [hq.one hq'.cn]
  refine ⟨?_, hb⟩
  rcases hr with ⟨f, rfl, rfl⟩ | ⟨N', L', T', x, n', cx, y, m', cy, z, p, cz, nv, kv, hi, rfl, rfl, g1⟩
  · exact ⟨none, 0, 0, none, 0, 0, none, 0, 0, [], [], 0, rfl, ownTy_nil w' _⟩
  · exact ⟨_, _, _, _, _, _, _, _, _, _, _, _, rfl, g1⟩

end

end Go.Proofs.YtddpcehgopeklaaGreatDoor

namespace Go.Proofs.YtddpcehgopeklaaGreatDoor
open Go.RowKit
set_option linter.unusedVariables false

/-- a typed policy, as it is read -/
def TyM (w : World) (x : Option Addr) (n cx : Nat) (y : Option Addr) (m cy : Nat) (z : Option Addr) (p cz : Nat) (t : List Nd × List St × List Int) : Prop := Nds w x n cx t.1 ∧ Sts w y m cy t.2.1 ∧ Ints w z p cz t.2.2

theorem TyM.below {w w' : World} {x y z : Option Addr} {n cx m cy p cz : Nat} {t : List Nd × List St × List Int} (h : TyM w x n cx y m cy z p cz t) (hb : Below w.heap.size w w') : TyM w' x n cx y m cy z p cz t :=
  ⟨h.1.below hb (Nat.le_refl _), h.2.1.below hb (Nat.le_refl _), h.2.2.below hb (Nat.le_refl _)⟩

theorem eqTM {w : World} {x y z x' y' z' : Option Addr} {n cx m cy p cz n' cx' m' cy' p' cz' : Nat} {t : List Nd × List St × List Int} (h : TyM w x n cx y m cy z p cz t) (k : TyM w x' n' cx' y' m' cy' z' p' cz' t) :
    Calls Tryz.prog 8 #[.agg #[.slice x n cx, .slice y m cy, .slice z p cz], .agg #[.slice x' n' cx', .slice y' m' cy', .slice z' p' cz']] w fun e w' => e = .returned (.bool true) ∧ Below w.heap.size w w' := by
  obtain rfl : n = n' := h.1.len.symm.trans k.1.len
  obtain rfl : m = m' := h.2.1.len.symm.trans k.2.1.len
  obtain rfl : p = p' := h.2.2.len.symm.trans k.2.2.len
  exact eqTyped_same _ _ _ _ _ _ _ _ _ _ _ _ _ _ _ t.1 t.2.1 t.2.2 w h.1 k.1 h.2.1 k.2.1 h.2.2 k.2.2

theorem rowTouchK {w w' : World} {b lo hi : Nat} {cs : Array Value} {t : TypeId} (h : Row w b cs t) (T : Touch lo hi w w') (hd : b < lo ∨ hi ≤ b) : Row w' b cs t := ⟨(T.block b h.lt hd).trans h.out⟩

set_option maxRecDepth 100000 in
set_option maxHeartbeats 12800000 in
theorem fnExactCheck_walk (a b : Option Addr) (n c m d : Nat) (N : List Nd) (L : List St) (aX a1 a2 a3 a4 a5 a6 a7 a8 a9 : Addr) (w : World) (h0 : EnvK w a b n c m d N L aX a1 a2 a3 a4 a5 a6 a7 a8 a9) (hnum : ∀ x ∈ N, x.num ≤ 9223372036854775807) :
    Calls Tryz.prog 3 #[.agg #[.slice a n c, .slice b m d]] w fun e w' => e = .returned (.bool true) ∧ Below w.heap.size w w' := by
  have RT := Row.new w #[.slice a n c, .slice b m d] 25
  have B0 := (Below.refl w.heap.size w).alloc (Nat.le_refl _) (.cells #[.slice a n c, .slice b m d] 25)
  have E0 := h0.below B0 (Nat.le_refl _)
  have HE := hide h0
  have HA := hide hnum
  clear hnum
  go_enter Tryz.func3, Tryz.ntmps3
  go_wp2_with fail
  refine (szPolicy_any _ _ _ _ _ _ N L _ E0.nd E0.st).mono ?_
  rintro e w1 ⟨⟨r, rfl, hr⟩, hb1⟩
  have RT1 := RT.after hb1 (Nat.le_refl _)
  have B1 := B0.trans (hb1.mono B0.size)
  clear RT B0 E0 hb1 h0
  dsimp only
  by_cases hr0 : r < 0
  · clear hr
    go_wp2_with fail
    go_ret
    exact ⟨rfl, B1⟩
  obtain ⟨r0, r1, hs⟩ := hr.resolve_left (by omega)
  have Hs := hide hs
  have Hs2 := hide (show n ≤ 1048576 ∧ m ≤ 1048576 from ⟨hs.1.1, hs.2.1⟩)
  clear hs hr
  -- the walk
  have zw := RT1.lt
  obtain ⟨m0, m1⟩ := row2 RT1
  go_wp2_with fail
  refine (toP_any ((unhide HE).below B1 (Nat.le_refl _)) (unhide Hs)).mono ?_
  rintro e v2 ⟨p1, p2, rfl, CP1, hb2, _⟩
  clear m0 m1
  have E2 := B1.trans (hb2.mono B1.size)
  have RT2 := RT1.after hb2 (Nat.le_refl _)
  have z2 := hb2.size
  clear B1 RT1 hb2
  dsimp only
  go_wp2_with fail
  refine (sChk_any (unhide HA) CP1).mono ?_
  rintro e v3 ⟨q, hq, ⟨x0, n0, cx0, y0, m0, cy0, z0, p0, cz0, rfl, g1, g2, g3⟩, hb3⟩
  have HQ := hide hq
  have HOK := hide (okT_of CP1.1 CP1.2 hq)
  clear hq
  have HM := hide (show TyM v3 x0 n0 cx0 y0 m0 cy0 z0 p0 cz0 (ansOf q).1 from ⟨g1, g2, g3⟩)
  clear g1 g2 g3 CP1
  have E3 := E2.trans (hb3.mono E2.size)
  have RT3 := RT2.after hb3 (Nat.le_refl _)
  have z3 := hb3.size
  clear E2 RT2 hb3
  generalize hAN : ansOf q = AN at HM HOK
  have HAN := hide hAN
  obtain ⟨t, fc, fa⟩ := AN
  try dsimp only at HM HOK
  clear hAN
  have F3 := Below.refl v3.heap.size v3
  try dsimp only
  have CRW := (Below.refl v3.heap.size v3).alloc (Nat.le_refl _) (.cells #[.slice x0 n0 cx0, .slice y0 m0 cy0, .slice z0 p0 cz0] 31)
  have RW := Row.new v3 #[.slice x0 n0 cx0, .slice y0 m0 cy0, .slice z0 p0 cz0] 31
  have ltRW : v3.heap.size < (v3.alloc (.cells #[.slice x0 n0 cx0, .slice y0 m0 cy0, .slice z0 p0 cz0] 31)).heap.size := by simp
  try simp only [World.size_alloc] at RW ltRW
  have E11 := E3.trans (CRW.mono E3.size)
  have F11 := F3.trans (CRW.mono F3.size)
  have zz11 := CRW.size
  replace RT3 := RT3.after CRW (Nat.le_refl _)
  clear E3 F3
  have CRV := (Below.refl (v3.alloc (.cells #[.slice x0 n0 cx0, .slice y0 m0 cy0, .slice z0 p0 cz0] 31)).heap.size (v3.alloc (.cells #[.slice x0 n0 cx0, .slice y0 m0 cy0, .slice z0 p0 cz0] 31))).alloc (Nat.le_refl _) (.cells #[.int .i64 fc, .int .i64 fa] 33)
  have RV := Row.new (v3.alloc (.cells #[.slice x0 n0 cx0, .slice y0 m0 cy0, .slice z0 p0 cz0] 31)) #[.int .i64 fc, .int .i64 fa] 33
  have ltRV : (v3.alloc (.cells #[.slice x0 n0 cx0, .slice y0 m0 cy0, .slice z0 p0 cz0] 31)).heap.size < ((v3.alloc (.cells #[.slice x0 n0 cx0, .slice y0 m0 cy0, .slice z0 p0 cz0] 31)).alloc (.cells #[.int .i64 fc, .int .i64 fa] 33)).heap.size := by simp
  try simp only [World.size_alloc] at RV ltRV
  have E12 := E11.trans (CRV.mono E11.size)
  have F12 := F11.trans (CRV.mono F11.size)
  have zz12 := CRV.size
  replace RT3 := RT3.after CRV (Nat.le_refl _)
  replace RW := RW.after CRV (Nat.le_refl _)
  clear E11 F11
  obtain ⟨k0, k1⟩ := row2 RT3
  go_wp2_with fail
  generalize hgenv4 : ((v3.alloc (.cells #[.slice x0 n0 cx0, .slice y0 m0 cy0, .slice z0 p0 cz0] 31)).alloc (.cells #[.int .i64 fc, .int .i64 fa] 33)) = v4 at RT3 RW RV E12 F12 zz12 k0 k1 ⊢
  clear hgenv4
  have lV4 : v3.heap.size + 1 < v4.heap.size := RV.lt
  refine (toP_any ((unhide HE).below E12 (Nat.le_refl _)) (unhide Hs)).mono ?_
  rintro e v5 ⟨q1, q2, rfl, CP5, hb5, PZ5⟩
  clear k0 k1
  have E13 := E12.trans (hb5.mono E12.size)
  have F13 := F12.trans (hb5.mono F12.size)
  have zz13 := hb5.size
  replace RT3 := RT3.after hb5 (Nat.le_refl _)
  replace RW := RW.after hb5 (Nat.le_refl _)
  replace RV := RV.after hb5 (Nat.le_refl _)
  clear E12 F12
  have zt5 := hb5.size
  clear hb5
  dsimp only
  have CRX := (Below.refl v5.heap.size v5).alloc (Nat.le_refl _) (.cells #[.slice (some q1) n n, .slice (some q2) m m] 37)
  have RX := Row.new v5 #[.slice (some q1) n n, .slice (some q2) m m] 37
  have ltRX : v5.heap.size < (v5.alloc (.cells #[.slice (some q1) n n, .slice (some q2) m m] 37)).heap.size := by simp
  try simp only [World.size_alloc] at RX ltRX
  have E14 := E13.trans (CRX.mono E13.size)
  have F14 := F13.trans (CRX.mono F13.size)
  have zz14 := CRX.size
  replace RT3 := RT3.after CRX (Nat.le_refl _)
  replace RW := RW.after CRX (Nat.le_refl _)
  replace RV := RV.after CRX (Nat.le_refl _)
  replace CP5 := CP5.below CRX
  replace PZ5 := PZ5.below CRX
  clear E13 F13
  obtain ⟨j0, j1⟩ := row2 RX
  go_wp2_with fail
  generalize hgenv6 : (v5.alloc (.cells #[.slice (some q1) n n, .slice (some q2) m m] 37)) = v6 at RT3 RW RV RX CP5 PZ5 E14 F14 zz14 j0 j1 ⊢
  clear hgenv6
  have lX6 : v5.heap.size < v6.heap.size := RX.lt
  refine (iChk_any (unhide HA) ((unhide HE).below E14 (Nat.le_refl _)) CP5 (unhide HQ)).mono ?_
  rintro e v7 ⟨⟨x1, n1, cx1, y1, m1, cy1, z1, p1, cz1, nv1, kv1, hi1, rfl, OG⟩, hb7⟩
  clear j0 j1
  rw [unhide HAN] at OG ⊢
  try dsimp only at OG
  have hG7 : hi1 ≤ v7.heap.size := OG.top
  have E15 := E14.trans (hb7.mono E14.size)
  have F15 := F14.trans (hb7.mono F14.size)
  have zz15 := hb7.size
  replace RT3 := RT3.after hb7 (Nat.le_refl _)
  replace RW := RW.after hb7 (Nat.le_refl _)
  replace RV := RV.after hb7 (Nat.le_refl _)
  replace RX := RX.after hb7 (Nat.le_refl _)
  replace CP5 := CP5.below hb7
  replace PZ5 := PZ5.below hb7
  clear E14 F14
  have zt7 := hb7.size
  clear hb7
  try dsimp only
  have CRG := (Below.refl v7.heap.size v7).alloc (Nat.le_refl _) (.cells #[.slice x1 n1 cx1, .slice y1 m1 cy1, .slice z1 p1 cz1] 31)
  have RG := Row.new v7 #[.slice x1 n1 cx1, .slice y1 m1 cy1, .slice z1 p1 cz1] 31
  have ltRG : v7.heap.size < (v7.alloc (.cells #[.slice x1 n1 cx1, .slice y1 m1 cy1, .slice z1 p1 cz1] 31)).heap.size := by simp
  try simp only [World.size_alloc] at RG ltRG
  have E16 := E15.trans (CRG.mono E15.size)
  have F16 := F15.trans (CRG.mono F15.size)
  have zz16 := CRG.size
  replace RT3 := RT3.after CRG (Nat.le_refl _)
  replace RW := RW.after CRG (Nat.le_refl _)
  replace RV := RV.after CRG (Nat.le_refl _)
  replace RX := RX.after CRG (Nat.le_refl _)
  replace OG := OG.below CRG (by have := OG.top; omega)
  replace CP5 := CP5.below CRG
  replace PZ5 := PZ5.below CRG
  clear E15 F15
  have CRK := (Below.refl (v7.alloc (.cells #[.slice x1 n1 cx1, .slice y1 m1 cy1, .slice z1 p1 cz1] 31)).heap.size (v7.alloc (.cells #[.slice x1 n1 cx1, .slice y1 m1 cy1, .slice z1 p1 cz1] 31))).alloc (Nat.le_refl _) (.cells #[.int .i64 fc, .int .i64 fa] 33)
  have RK := Row.new (v7.alloc (.cells #[.slice x1 n1 cx1, .slice y1 m1 cy1, .slice z1 p1 cz1] 31)) #[.int .i64 fc, .int .i64 fa] 33
  have ltRK : (v7.alloc (.cells #[.slice x1 n1 cx1, .slice y1 m1 cy1, .slice z1 p1 cz1] 31)).heap.size < ((v7.alloc (.cells #[.slice x1 n1 cx1, .slice y1 m1 cy1, .slice z1 p1 cz1] 31)).alloc (.cells #[.int .i64 fc, .int .i64 fa] 33)).heap.size := by simp
  try simp only [World.size_alloc] at RK ltRK
  have E17 := E16.trans (CRK.mono E16.size)
  have F17 := F16.trans (CRK.mono F16.size)
  have zz17 := CRK.size
  replace RT3 := RT3.after CRK (Nat.le_refl _)
  replace RW := RW.after CRK (Nat.le_refl _)
  replace RV := RV.after CRK (Nat.le_refl _)
  replace RX := RX.after CRK (Nat.le_refl _)
  replace RG := RG.after CRK (Nat.le_refl _)
  replace OG := OG.below CRK (by have := OG.top; omega)
  replace CP5 := CP5.below CRK
  replace PZ5 := PZ5.below CRK
  clear E16 F16
  obtain ⟨b0, b1, b2⟩ := rowT3 RW
  obtain ⟨c0, c1, c2⟩ := rowT3 RG
  obtain ⟨d0, d1⟩ := row2 RV
  obtain ⟨e0, e1⟩ := row2 RK
  have VG := hide (show TyM _ _ _ _ _ _ _ _ _ _ t from OG.mem (unhide HOK))
  go_wp2_with fail
  generalize hgenv8 : ((v7.alloc (.cells #[.slice x1 n1 cx1, .slice y1 m1 cy1, .slice z1 p1 cz1] 31)).alloc (.cells #[.int .i64 fc, .int .i64 fa] 33)) = v8 at RT3 RW RV RX RG RK OG CP5 PZ5 E17 F17 zz17 b0 b1 b2 c0 c1 c2 d0 d1 e0 e1 VG ⊢
  clear hgenv8
  refine (eqTM (unhide VG) ((unhide HM).below F17)).mono ?_
  rintro e v9 ⟨rfl, hbq⟩
  clear VG b0 b1 b2 c0 c1 c2 d0 d1 e0 e1
  have E18 := E17.trans (hbq.mono E17.size)
  have F18 := F17.trans (hbq.mono F17.size)
  have zz18 := hbq.size
  replace RT3 := RT3.after hbq (Nat.le_refl _)
  replace RW := RW.after hbq (Nat.le_refl _)
  replace RV := RV.after hbq (Nat.le_refl _)
  replace RX := RX.after hbq (Nat.le_refl _)
  replace RG := RG.after hbq (Nat.le_refl _)
  replace RK := RK.after hbq (Nat.le_refl _)
  replace OG := OG.below hbq (by have := OG.top; omega)
  replace CP5 := CP5.below hbq
  replace PZ5 := PZ5.below hbq
  clear E17 F17
  clear hbq
  dsimp only
  obtain ⟨d0, d1⟩ := row2 RV
  obtain ⟨e0, e1⟩ := row2 RK
  go_wp2_with fail
  refine (eqFaultX fc fa _).mono ?_
  rintro e v10 ⟨rfl, hbq⟩
  clear d0 d1 e0 e1
  have E19 := E18.trans (hbq.mono E18.size)
  have F19 := F18.trans (hbq.mono F18.size)
  have zz19 := hbq.size
  replace RT3 := RT3.after hbq (Nat.le_refl _)
  replace RW := RW.after hbq (Nat.le_refl _)
  replace RV := RV.after hbq (Nat.le_refl _)
  replace RX := RX.after hbq (Nat.le_refl _)
  replace RG := RG.after hbq (Nat.le_refl _)
  replace RK := RK.after hbq (Nat.le_refl _)
  replace OG := OG.below hbq (by have := OG.top; omega)
  replace CP5 := CP5.below hbq
  replace PZ5 := PZ5.below hbq
  clear E18 F18
  clear hbq
  dsimp only
  obtain ⟨m0, m1⟩ := row2 RT3
  obtain ⟨r0x, r1x⟩ := row2 RX
  go_wp2_with fail
  have DR := (Below.refl v10.heap.size v10).drew
  have keep : ∀ w', Below v10.heap.size v10 w' → ((w'.cell? ⟨v5.heap.size, 0, none⟩ = some (.slice (some q1) n n) ∧ w'.cell? ⟨v5.heap.size, 1, none⟩ = some (.slice (some q2) m m)) ∧ w'.cell? ⟨w.heap.size, 0, none⟩ = some (.slice a n c) ∧ w'.cell? ⟨w.heap.size, 1, none⟩ = some (.slice b m d)) := fun w' hb => ⟨row2 (RX.after hb (Nat.le_refl _)), row2 (RT3.after hb (Nat.le_refl _))⟩
  have KP := hide keep
  have s9 := keep _ DR
  have HE9 := hide ((unhide HE).below (E19.trans (DR.mono E19.size)) (Nat.le_refl _))
  clear keep m0 m1 r0x r1x
  go_region_held3 (fun w' => (w'.cell? ⟨v5.heap.size, 0, none⟩ = some (.slice (some q1) n n) ∧ w'.cell? ⟨v5.heap.size, 1, none⟩ = some (.slice (some q2) m m)) ∧ w'.cell? ⟨w.heap.size, 0, none⟩ = some (.slice a n c) ∧ w'.cell? ⟨w.heap.size, 1, none⟩ = some (.slice b m d)) (first | assumption | fail) (first
    | (go_at_call 6; refine (toP_any (unhide HE9) (unhide Hs)).mono ?_; rintro e v11 ⟨a11, b11, rfl, CP11, hb11, PZ11⟩; have G11 := DR.trans (hb11.mono DR.size); have s11 := unhide KP _ G11; have CPX := CP5.below G11)
    | (go_at_call 10; refine (eqPolicy_same _ _ _ _ _ _ _ _ _ _ N L _ CPX.1 CP11.1 CPX.2 CP11.2).mono ?_; rintro e v12 ⟨rfl, hb12⟩; have G12 := G11.trans (hb12.mono G11.size); have s12 := unhide KP _ G12))
  clear KP s9 s11 s12 HE9 PZ11 CPX CP11 hb11 hb12 G11 DR CP5
  have E20 := E19.trans (G12.mono E19.size)
  have F20 := F19.trans (G12.mono F19.size)
  have zz20 := G12.size
  replace RT3 := RT3.after G12 (Nat.le_refl _)
  replace RW := RW.after G12 (Nat.le_refl _)
  replace RV := RV.after G12 (Nat.le_refl _)
  replace RX := RX.after G12 (Nat.le_refl _)
  replace RG := RG.after G12 (Nat.le_refl _)
  replace RK := RK.after G12 (Nat.le_refl _)
  replace OG := OG.below G12 (by have := OG.top; omega)
  replace PZ5 := PZ5.below G12
  clear E19 F19
  clear G12
  obtain ⟨r0x, r1x⟩ := row2 RX
  go_wp2_with fail
  refine (markPolicy_z _ _ _ _ n m _ PZ5 (by omega) (unhide Hs2).1 (unhide Hs2).2).mono ?_
  rintro e v13 ⟨⟨yk, rfl, hyk⟩, T13⟩
  clear r0x r1x PZ5
  have E21 := below_touch E20 T13 (by omega) E20.size
  have F21 := below_touch F20 T13 (by omega) F20.size
  have zz21 := T13.size
  replace RT3 := rowTouchK RT3 T13 (.inl (by omega))
  replace RW := rowTouchK RW T13 (.inl (by omega))
  replace RV := rowTouchK RV T13 (.inl (by omega))
  replace RX := rowTouchK RX T13 (.inr (by omega))
  replace RG := rowTouchK RG T13 (.inr (by omega))
  replace RK := rowTouchK RK T13 (.inr (by omega))
  replace OG := OG.touch T13 (.inr (by omega))
  clear E20 F20
  clear T13
  have hzn : ¬ ((yk : Int) < 0) := by omega
  dsimp only
  obtain ⟨b0, b1, b2⟩ := rowT3 RW
  obtain ⟨c0, c1, c2⟩ := rowT3 RG
  obtain ⟨d0, d1⟩ := row2 RV
  obtain ⟨e0, e1⟩ := row2 RK
  have VG := hide (show TyM _ _ _ _ _ _ _ _ _ _ t from OG.mem (unhide HOK))
  go_wp2_with fail
  refine (eqTM (unhide VG) ((unhide HM).below F21)).mono ?_
  rintro e v14 ⟨rfl, hbq⟩
  clear VG b0 b1 b2 c0 c1 c2 d0 d1 e0 e1
  have E22 := E21.trans (hbq.mono E21.size)
  have F22 := F21.trans (hbq.mono F21.size)
  have zz22 := hbq.size
  replace RT3 := RT3.after hbq (Nat.le_refl _)
  replace RW := RW.after hbq (Nat.le_refl _)
  replace RV := RV.after hbq (Nat.le_refl _)
  replace RX := RX.after hbq (Nat.le_refl _)
  replace RG := RG.after hbq (Nat.le_refl _)
  replace RK := RK.after hbq (Nat.le_refl _)
  replace OG := OG.below hbq (by have := OG.top; omega)
  clear E21 F21
  clear hbq
  dsimp only
  obtain ⟨d0, d1⟩ := row2 RV
  obtain ⟨e0, e1⟩ := row2 RK
  go_wp2_with fail
  refine (eqFaultX fc fa _).mono ?_
  rintro e v15 ⟨rfl, hbq⟩
  clear d0 d1 e0 e1
  have E23 := E22.trans (hbq.mono E22.size)
  have F23 := F22.trans (hbq.mono F22.size)
  have zz23 := hbq.size
  replace RT3 := RT3.after hbq (Nat.le_refl _)
  replace RW := RW.after hbq (Nat.le_refl _)
  replace RV := RV.after hbq (Nat.le_refl _)
  replace RX := RX.after hbq (Nat.le_refl _)
  replace RG := RG.after hbq (Nat.le_refl _)
  replace RK := RK.after hbq (Nat.le_refl _)
  replace OG := OG.below hbq (by have := OG.top; omega)
  clear E22 F22
  clear hbq
  dsimp only
  obtain ⟨c0, c1, c2⟩ := rowT3 RG
  go_wp2_with fail
  refine (markTyped_own _ _ _ _ _ _ _ _ _ _ _ _ nv1 kv1 _ _ _ OG (unhide HOK)).mono ?_
  rintro e v16 ⟨rfl, OM, T16⟩
  have OMs := And.intro OG.ns OG.nt
  clear c0 c1 c2 OG
  have E24 := below_touch E23 T16 (by omega) E23.size
  have F24 := below_touch F23 T16 (by omega) F23.size
  have zz24 := T16.size
  replace RT3 := rowTouchK RT3 T16 (.inl (by omega))
  replace RW := rowTouchK RW T16 (.inl (by omega))
  replace RV := rowTouchK RV T16 (.inl (by omega))
  replace RX := rowTouchK RX T16 (.inl (by omega))
  replace RG := rowTouchK RG T16 (.inr (by omega))
  replace RK := rowTouchK RK T16 (.inr (by omega))
  clear E23 F23
  clear T16
  dsimp only
  have hm1 : m1 ≤ 65535 := by rw [← OMs.1]; exact (unhide HOK).2.1.1
  have hp1 : p1 ≤ 65535 := by rw [← OMs.2]; exact (unhide HOK).2.2
  obtain ⟨c0, c1, c2⟩ := rowT3 RG
  go_wp2_with fail
  refine (heldTyped_own _ _ _ _ _ _ _ _ _ _ _ _ nv1 kv1 _ _ _ OM (unhide HOK) hm1 hp1).mono ?_
  rintro e v17 ⟨rfl, hbh⟩
  clear c0 c1 c2
  have E25 := E24.trans (hbh.mono E24.size)
  have F25 := F24.trans (hbh.mono F24.size)
  have zz25 := hbh.size
  replace RT3 := RT3.after hbh (Nat.le_refl _)
  replace RW := RW.after hbh (Nat.le_refl _)
  replace RV := RV.after hbh (Nat.le_refl _)
  replace RX := RX.after hbh (Nat.le_refl _)
  replace RG := RG.after hbh (Nat.le_refl _)
  replace RK := RK.after hbh (Nat.le_refl _)
  replace OM := OM.below hbh (by have := OM.top; omega)
  clear E24 F24
  clear hbh
  dsimp only
  have hq : ¬ (mkY t.1 m1 p1 < 0) := by unfold mkY; omega
  obtain ⟨k0, k1⟩ := row2 RT3
  go_wp2_with fail
  refine (toP_any ((unhide HE).below E25 (Nat.le_refl _)) (unhide Hs)).mono ?_
  rintro e v18 ⟨u1, u2, rfl, CP18, hb18, _⟩
  clear k0 k1
  have E26 := E25.trans (hb18.mono E25.size)
  have F26 := F25.trans (hb18.mono F25.size)
  have zz26 := hb18.size
  replace RT3 := RT3.after hb18 (Nat.le_refl _)
  replace RW := RW.after hb18 (Nat.le_refl _)
  replace RV := RV.after hb18 (Nat.le_refl _)
  replace RX := RX.after hb18 (Nat.le_refl _)
  replace RG := RG.after hb18 (Nat.le_refl _)
  replace RK := RK.after hb18 (Nat.le_refl _)
  replace OM := OM.below hb18 (by have := OM.top; omega)
  clear E25 F25
  clear hb18
  dsimp only
  go_wp2_with fail
  refine (iChk_any (unhide HA) ((unhide HE).below E26 (Nat.le_refl _)) CP18 (unhide HQ)).mono ?_
  rintro e v19 ⟨⟨x2, n2, cx2, y2, m2, cy2, z2, p2, cz2, nv2, kv2, hi2, rfl, OH⟩, hb19⟩
  clear CP18
  rw [unhide HAN] at OH ⊢
  try dsimp only at OH
  have E27 := E26.trans (hb19.mono E26.size)
  have F27 := F26.trans (hb19.mono F26.size)
  have zz27 := hb19.size
  replace RT3 := RT3.after hb19 (Nat.le_refl _)
  replace RW := RW.after hb19 (Nat.le_refl _)
  replace RV := RV.after hb19 (Nat.le_refl _)
  replace RX := RX.after hb19 (Nat.le_refl _)
  replace RG := RG.after hb19 (Nat.le_refl _)
  replace RK := RK.after hb19 (Nat.le_refl _)
  replace OM := OM.below hb19 (by have := OM.top; omega)
  clear E26 F26
  clear hb19
  try dsimp only
  have CRH := (Below.refl v19.heap.size v19).alloc (Nat.le_refl _) (.cells #[.slice x2 n2 cx2, .slice y2 m2 cy2, .slice z2 p2 cz2] 31)
  have RH := Row.new v19 #[.slice x2 n2 cx2, .slice y2 m2 cy2, .slice z2 p2 cz2] 31
  have ltRH : v19.heap.size < (v19.alloc (.cells #[.slice x2 n2 cx2, .slice y2 m2 cy2, .slice z2 p2 cz2] 31)).heap.size := by simp
  try simp only [World.size_alloc] at RH ltRH
  have E28 := E27.trans (CRH.mono E27.size)
  have F28 := F27.trans (CRH.mono F27.size)
  have zz28 := CRH.size
  replace RT3 := RT3.after CRH (Nat.le_refl _)
  replace RW := RW.after CRH (Nat.le_refl _)
  replace RV := RV.after CRH (Nat.le_refl _)
  replace RX := RX.after CRH (Nat.le_refl _)
  replace RG := RG.after CRH (Nat.le_refl _)
  replace RK := RK.after CRH (Nat.le_refl _)
  replace OM := OM.below CRH (by have := OM.top; omega)
  replace OH := OH.below CRH (by have := OH.top; omega)
  clear E27 F27
  have CRJ := (Below.refl (v19.alloc (.cells #[.slice x2 n2 cx2, .slice y2 m2 cy2, .slice z2 p2 cz2] 31)).heap.size (v19.alloc (.cells #[.slice x2 n2 cx2, .slice y2 m2 cy2, .slice z2 p2 cz2] 31))).alloc (Nat.le_refl _) (.cells #[.int .i64 fc, .int .i64 fa] 33)
  have RJ := Row.new (v19.alloc (.cells #[.slice x2 n2 cx2, .slice y2 m2 cy2, .slice z2 p2 cz2] 31)) #[.int .i64 fc, .int .i64 fa] 33
  have ltRJ : (v19.alloc (.cells #[.slice x2 n2 cx2, .slice y2 m2 cy2, .slice z2 p2 cz2] 31)).heap.size < ((v19.alloc (.cells #[.slice x2 n2 cx2, .slice y2 m2 cy2, .slice z2 p2 cz2] 31)).alloc (.cells #[.int .i64 fc, .int .i64 fa] 33)).heap.size := by simp
  try simp only [World.size_alloc] at RJ ltRJ
  have E29 := E28.trans (CRJ.mono E28.size)
  have F29 := F28.trans (CRJ.mono F28.size)
  have zz29 := CRJ.size
  replace RT3 := RT3.after CRJ (Nat.le_refl _)
  replace RW := RW.after CRJ (Nat.le_refl _)
  replace RV := RV.after CRJ (Nat.le_refl _)
  replace RX := RX.after CRJ (Nat.le_refl _)
  replace RG := RG.after CRJ (Nat.le_refl _)
  replace RK := RK.after CRJ (Nat.le_refl _)
  replace RH := RH.after CRJ (Nat.le_refl _)
  replace OM := OM.below CRJ (by have := OM.top; omega)
  replace OH := OH.below CRJ (by have := OH.top; omega)
  clear E28 F28
  obtain ⟨b0, b1, b2⟩ := rowT3 RW
  obtain ⟨c0, c1, c2⟩ := rowT3 RH
  obtain ⟨d0, d1⟩ := row2 RV
  obtain ⟨e0, e1⟩ := row2 RJ
  have VG := hide (show TyM _ _ _ _ _ _ _ _ _ _ t from OH.mem (unhide HOK))
  go_wp2_with fail
  generalize hgenv20 : ((v19.alloc (.cells #[.slice x2 n2 cx2, .slice y2 m2 cy2, .slice z2 p2 cz2] 31)).alloc (.cells #[.int .i64 fc, .int .i64 fa] 33)) = v20 at RT3 RW RV RX RG RK RH RJ OM OH E29 F29 zz29 b0 b1 b2 c0 c1 c2 d0 d1 e0 e1 VG ⊢
  clear hgenv20
  refine (eqTM (unhide VG) ((unhide HM).below F29)).mono ?_
  rintro e v21 ⟨rfl, hbq⟩
  clear VG b0 b1 b2 c0 c1 c2 d0 d1 e0 e1
  have E30 := E29.trans (hbq.mono E29.size)
  have F30 := F29.trans (hbq.mono F29.size)
  have zz30 := hbq.size
  replace RT3 := RT3.after hbq (Nat.le_refl _)
  replace RW := RW.after hbq (Nat.le_refl _)
  replace RV := RV.after hbq (Nat.le_refl _)
  replace RX := RX.after hbq (Nat.le_refl _)
  replace RG := RG.after hbq (Nat.le_refl _)
  replace RK := RK.after hbq (Nat.le_refl _)
  replace RH := RH.after hbq (Nat.le_refl _)
  replace RJ := RJ.after hbq (Nat.le_refl _)
  replace OM := OM.below hbq (by have := OM.top; omega)
  replace OH := OH.below hbq (by have := OH.top; omega)
  clear E29 F29
  clear hbq
  dsimp only
  obtain ⟨d0, d1⟩ := row2 RV
  obtain ⟨e0, e1⟩ := row2 RJ
  go_wp2_with fail
  refine (eqFaultX fc fa _).mono ?_
  rintro e v22 ⟨rfl, hbq⟩
  clear d0 d1 e0 e1
  have E31 := E30.trans (hbq.mono E30.size)
  have F31 := F30.trans (hbq.mono F30.size)
  have zz31 := hbq.size
  replace RT3 := RT3.after hbq (Nat.le_refl _)
  replace RW := RW.after hbq (Nat.le_refl _)
  replace RV := RV.after hbq (Nat.le_refl _)
  replace RX := RX.after hbq (Nat.le_refl _)
  replace RG := RG.after hbq (Nat.le_refl _)
  replace RK := RK.after hbq (Nat.le_refl _)
  replace RH := RH.after hbq (Nat.le_refl _)
  replace RJ := RJ.after hbq (Nat.le_refl _)
  replace OM := OM.below hbq (by have := OM.top; omega)
  replace OH := OH.below hbq (by have := OH.top; omega)
  clear E30 F30
  clear hbq
  dsimp only
  obtain ⟨c0, c1, c2⟩ := rowT3 RG
  go_wp2_with fail
  refine (heldTyped_own _ _ _ _ _ _ _ _ _ _ _ _ nv1 kv1 _ _ _ OM (unhide HOK) hm1 hp1).mono ?_
  rintro e v23 ⟨rfl, hbh⟩
  clear c0 c1 c2
  have E32 := E31.trans (hbh.mono E31.size)
  have F32 := F31.trans (hbh.mono F31.size)
  have zz32 := hbh.size
  replace RT3 := RT3.after hbh (Nat.le_refl _)
  replace RW := RW.after hbh (Nat.le_refl _)
  replace RV := RV.after hbh (Nat.le_refl _)
  replace RX := RX.after hbh (Nat.le_refl _)
  replace RG := RG.after hbh (Nat.le_refl _)
  replace RK := RK.after hbh (Nat.le_refl _)
  replace RH := RH.after hbh (Nat.le_refl _)
  replace RJ := RJ.after hbh (Nat.le_refl _)
  replace OM := OM.below hbh (by have := OM.top; omega)
  replace OH := OH.below hbh (by have := OH.top; omega)
  clear E31 F31
  clear hbh
  dsimp only
  go_wp2_with fail
  go_ret
  exact ⟨rfl, E32⟩

end Go.Proofs.YtddpcehgopeklaaGreatDoor
