/-
  The trees of all nodes. Own work.
-/
import Derived.Test.YtbdplgelkgngmaaGreatDoorQH
import Derived.Test.YtbdplgelkgngmaaGreatDoorVPI
namespace Go.Proofs.YtbdplgelkgngmaaGreatDoor
open Go.RowKit
set_option linter.unusedVariables false

theorem identB_size {s : ByteArray} (h : identB s = true) : s.size ≤ 32 := by
  unfold identB at h
  have e : (toL s).length = s.size := by simp [toL]
  cases hs : toL s with
  | nil => rw [hs] at e; simp at e; omega
  | cons c r =>
    rw [hs] at h
    simp only [Bool.and_eq_true, decide_eq_true_eq] at h
    rw [← e, hs]
    exact h.1.1.1

theorem quotedB_size {s : ByteArray} (h : quotedB s = true) : s.size ≤ 32 := by
  unfold quotedB at h
  simp only [Bool.and_eq_true, decide_eq_true_eq] at h
  exact h.1

theorem setB_sizes {ss : List ByteArray} (h : setB ss = true) : ss.length ≤ 64 ∧ ∀ x ∈ ss, x.size ≤ 32 := by
  unfold setB at h
  simp only [Bool.and_eq_true, decide_eq_true_eq] at h
  refine ⟨h.1, fun x hx => ?_⟩
  have := List.all_eq_true.1 h.2.1 x hx
  simp only [vnB, Bool.and_eq_true, decide_eq_true_eq] at this
  omega

theorem kids_at {N : List Nd} {i : Nat} {Es : List Ex} (hl : Es.length = i) (hE : ∀ j, (h : j < Es.length) → IsT N j Es[j]) {k : Int} (hk : 0 ≤ k ∧ k < i) : ∃ (m : Nat) (e : Ex), k = m ∧ m < i ∧ Es[m]? = some e ∧ IsT N m e := by
  refine ⟨k.toNat, Es[k.toNat]'(by omega), by omega, by omega, List.getElem?_eq_getElem _, hE _ _⟩

theorem mkT_of {N : List Nd} {w : World} {i : Nat} {x : Nd} {an : Option Addr} {nn cn : Nat} (hx : N[i]? = some x) (hf : fieldsB x = true) (hk : ∀ k ∈ x.kids, 0 ≤ k ∧ k < i) (hnum : x.num ≤ 9223372036854775807) {Es : List Ex} (hl : Es.length = i)
    (hE : ∀ j, (h : j < Es.length) → IsT N j Es[j]) (hfit : ∀ e ∈ Es, e.fit w) (hS : Strs w an nn cn x.names) : ∃ e, MkT Es i x an nn cn e ∧ IsT N i e ∧ e.fit w := by
  unfold fieldsB at hf
  rw [Bool.and_eq_true, decide_eq_true_eq] at hf
  obtain ⟨hkn, hf⟩ := hf
  have hkids : ∀ n : Nat, kidN x.op = n → x.kids.length = n := fun n e => by omega
  have none' : (1 ≤ x.op ∧ x.op ≤ 7) → x.kids = [] := fun h => List.eq_nil_of_length_eq_zero (hkids 0 (by rw [kidN, if_pos h]; rfl))
  have fitAt : ∀ {m : Nat} {e : Ex}, Es[m]? = some e → e.fit w := fun h => hfit _ (List.mem_of_getElem? h)
  by_cases h1 : x.op = 1
  · rw [if_pos h1] at hf
    simp only [Bool.and_eq_true, decide_eq_true_eq] at hf
    exact ⟨_, .int h1, .int hx h1 (none' (by omega)), hf.1.1, hnum⟩
  rw [if_neg h1] at hf
  by_cases h2 : x.op = 2
  · rw [if_pos h2] at hf
    simp only [Bool.and_eq_true, decide_eq_true_eq] at hf
    exact ⟨_, .text h2, .text hx h2 (none' (by omega)), quotedB_size hf.1.1⟩
  rw [if_neg h2] at hf
  by_cases h3 : x.op = 3
  · exact ⟨_, .bool h3, .bool hx h3 (none' (by omega)), trivial⟩
  rw [if_neg h3] at hf
  by_cases h4 : x.op = 4
  · rw [if_pos h4] at hf
    simp only [Bool.and_eq_true, decide_eq_true_eq] at hf
    obtain ⟨s1, s2⟩ := setB_sizes hf.1.1
    exact ⟨_, .set h4, .set hx h4 (none' (by omega)) an nn cn, hS, by have := hS.len; omega, s2⟩
  rw [if_neg h4] at hf
  by_cases h5 : x.op = 5
  · rw [if_pos h5] at hf
    simp only [Bool.and_eq_true, decide_eq_true_eq] at hf
    exact ⟨_, .name h5, .name hx h5 (none' (by omega)), identB_size hf.1.1⟩
  rw [if_neg h5] at hf
  by_cases h6 : x.op = 6 ∨ x.op = 7
  · rw [if_pos h6] at hf
    cases hf
  by_cases h8 : 8 ≤ x.op ∧ x.op ≤ 10
  · have hl1 := hkids 1 (by rw [kidN, if_neg (by omega), if_pos h8]; rfl)
    match hkk : x.kids, hl1 with
    | [k], _ =>
      obtain ⟨m, e, rfl, hm, g1, g2⟩ := kids_at hl hE (hk k (by rw [hkk]; simp))
      exact ⟨_, .un h8 hkk g1, .un hx h8 hkk hm g2, h8, fitAt g1⟩
  by_cases h11 : 11 ≤ x.op ∧ x.op ≤ 26
  · have hl1 := hkids 2 (by rw [kidN, if_neg (by omega), if_neg h8, if_pos h11]; rfl)
    match hkk : x.kids, hl1 with
    | [k, l], _ =>
      obtain ⟨m, e, rfl, hm, g1, g2⟩ := kids_at hl hE (hk k (by rw [hkk]; simp))
      obtain ⟨n, f, rfl, hn, j1, j2⟩ := kids_at hl hE (hk l (by rw [hkk]; simp))
      exact ⟨_, .bin h11 hkk g1 j1, .bin hx h11 hkk ⟨hm, hn⟩ g2 j2, h11, fitAt g1, fitAt j1⟩
  by_cases h27 : x.op = 27
  · have hl1 := hkids 3 (by rw [kidN, if_neg (by omega), if_neg h8, if_neg h11, if_pos h27]; rfl)
    match hkk : x.kids, hl1 with
    | [k, l, o], _ =>
      obtain ⟨m, e, rfl, hm, g1, g2⟩ := kids_at hl hE (hk k (by rw [hkk]; simp))
      obtain ⟨n, f, rfl, hn, j1, j2⟩ := kids_at hl hE (hk l (by rw [hkk]; simp))
      obtain ⟨p, g, rfl, hp, q1, q2⟩ := kids_at hl hE (hk o (by rw [hkk]; simp))
      exact ⟨_, .ite h27 hkk g1 j1 q1, .ite hx h27 hkk ⟨hm, hn, hp⟩ g2 j2 q2, fitAt g1, fitAt j1, fitAt q1⟩
  · rw [kidN, if_neg (by omega), if_neg h8, if_neg h11, if_neg h27] at hkn
    omega

/-- trees in a row of the call's own -/
structure OwnT (w : World) (lo : Nat) (v : Value) (N : List Nd) (w0 : World) (Es : List Ex) : Prop where
  own : w.ownsRow lo 52 1 v Es.length (Es.map Ex.val)
  tree : ∀ j, (h : j < Es.length) → IsT N j Es[j]
  fit : ∀ e ∈ Es, e.fit w0

theorem OwnT.trs {w : World} {lo : Nat} {v : Value} {N : List Nd} {w0 : World} {Es : List Ex} (h : OwnT w lo v N w0 Es) (hs : Es.length ≤ 1048576) : ∃ a c, v = .slice a Es.length c ∧ Trs w a Es.length c Es := by
  obtain ⟨a, c, rfl, ha⟩ := owns_form2 h.own
  refine ⟨a, c, rfl, rfl, hs, fun j hj => ?_⟩
  obtain ⟨g, rfl, hg, hgc⟩ := ha (by omega)
  refine ⟨g, 0, rfl, (h.own.lt g rfl).2, ?_⟩
  have := hgc j Es[j].val (by simp [hj])
  simpa using this

theorem owns_blocks2 {w w' : World} {base : Nat} {e : TypeId} {size n : Nat} {v : Value} {xs : List Value} (h : w.ownsRow base e size v n xs) (hd : ∀ q, v.ownBlock = some q → w'.heap[q]? = w.heap[q]?) : w'.ownsRow base e size v n xs := by
  refine ⟨h.1, ?_⟩
  rcases h.2 with h2 | ⟨g, cap, cur, hv, h3, hg, h4⟩
  · exact .inl h2
  · exact .inr ⟨g, cap, cur, hv, h3, (hd g (by rw [hv]; rfl)).trans hg, h4⟩

theorem infoEx : (Tryz.prog.info? 52).map (fun i => (i.zero, i.size, i.bytes)) = some (some .nilIface, 1, 16) := by kernel_rfl

set_option maxHeartbeats 1600000 in
set_option maxRecDepth 100000 in
theorem treesOf_any (a : Option Addr) (n c : Nat) (N : List Nd) (w0 w : World) (h : Nds w0 a n c N) (hw : Below w0.heap.size w0 w) (hF : ∀ x ∈ N, fieldsB x = true) (hN : ∀ x ∈ N, x.num ≤ 9223372036854775807) (hK : ∀ (i : Nat) (x : Nd), N[i]? = some x → ∀ k ∈ x.kids, 0 ≤ k ∧ k < (i : Int)) :
    Calls Tryz.prog 32 #[.slice a n c] w fun r w' => (∃ v Es, r = .returned v ∧ Es.length = n ∧ OwnT w' w.heap.size v N w0 Es) ∧ Below w.heap.size w w' := by
  have hn := h.small
  have HL := hide h.len
  have HF := hide hF
  have HN := hide hN
  have HK := hide hK
  clear hF hN hK
  obtain ⟨ie, hie, ez0, ez1, ez2⟩ := info_parts infoEx
  go_enter Tryz.func32, Tryz.ntmps32
  go_wp2_with fail
  go_loopw [3, 8] (fun v i wr => ∃ (k : Nat) (Es : List Ex), k ≤ n ∧ i = .int .i64 k ∧ Hid (Es.length = k) ∧ OwnT wr w.heap.size v N w0 Es ∧ Below w.heap.size w wr) (fun _ i _ => n - (intOf i).toNat)
  case atStart => exact ⟨0, [], by omega, rfl, rfl, ⟨World.ownsRow_nil _ _ _ _, fun j hj => absurd hj (by simp), fun e he => (by cases he)⟩, Below.refl _ _⟩
  case round =>
    obtain ⟨k, Es, hk, rfl, HE, O1, B1⟩ := hrel
    by_cases hlt : k < n
    · have ilt : (k : Int) < (n : Int) := by omega
      have hkl : k < N.length := by rw [unhide HL]; exact hlt
      have W1 := hw.trans (B1.mono hw.size)
      obtain ⟨b, off, rfl, hbl, an, nn, cn, ak, nk, ck, d0, d1, d2, d3, d4, hS', hI0⟩ := h.cells k hkl
      have c0 := (W1.cell (p := ⟨b, off + k * 5, none⟩) hbl).trans d0
      have c1 := (W1.cell (p := ⟨b, off + k * 5 + 1, none⟩) hbl).trans d1
      have c2 := (W1.cell (p := ⟨b, off + k * 5 + 2, none⟩) hbl).trans d2
      have c3 := (W1.cell (p := ⟨b, off + k * 5 + 3, none⟩) hbl).trans d3
      have c4 := (W1.cell (p := ⟨b, off + k * 5 + 4, none⟩) hbl).trans d4
      have hI := hI0.below W1 (Nat.le_refl _)
      have hb : b < wr.heap.size := Nat.lt_of_lt_of_le hbl W1.size
      clear d0 d1 d2 d3 d4 hI0 W1
      have hx : N[k]? = some N[k] := List.getElem?_eq_getElem hkl
      obtain ⟨e, hm, ht, hfit⟩ := mkT_of (w := w0) hx (unhide HF _ (List.getElem_mem hkl)) (unhide HK k _ hx) (unhide HN _ (List.getElem_mem hkl)) (unhide HE) O1.tree O1.fit hS'
      have Hlt := hide hlt
      have hEl : Es.length ≤ 1048576 := by rw [unhide HE]; omega
      obtain ⟨av, cv, rfl, T1⟩ := O1.trs hEl
      have HT := hide (fun j (hj : j < (Es ++ [e]).length) => show IsT N j (Es ++ [e])[j] by
        by_cases hj2 : j < Es.length
        · rw [List.getElem_append_left hj2]; exact O1.tree j hj2
        · have : j = Es.length := by simp at hj; omega
          subst this
          simp only [List.getElem_concat_length]
          rw [unhide HE]; exact ht)
      have HX := hide (fun f (hf : f ∈ Es ++ [e]) => show f.fit w0 by
        rcases List.mem_append.1 hf with hf | hf
        · exact O1.fit f hf
        · simp at hf; subst hf; exact hfit)
      have Q1 := O1.own
      generalize N[k] = x at c0 c1 c2 c3 c4 hI hm
      have R1 := Row.new wr #[.int .i64 x.op, .int .i64 x.num, .string x.text, .slice an nn cn, .slice ak nk ck] 67
      have B2 := B1.alloc B1.size (.cells #[.int .i64 x.op, .int .i64 x.num, .string x.text, .slice an nn cn, .slice ak nk ck] 67)
      have C2 := (Below.refl wr.heap.size wr).alloc (Nat.le_refl _) (.cells #[.int .i64 x.op, .int .i64 x.num, .string x.text, .slice an nn cn, .slice ak nk ck] 67)
      have Q2 := Q1.alloc (.cells #[.int .i64 x.op, .int .i64 x.num, .string x.text, .slice an nn cn, .slice ak nk ck] 67)
      have HC := hide (treeOf_any hm (hI.below C2 (Nat.le_refl _)) (T1.below C2 (Nat.le_refl _)))
      obtain ⟨t, u, hv⟩ := e.form
      rw [hv] at HC
      have HV := hide hv
      have zb := B1.size
      have HE2 := HE
      clear hI hS' hm ht hfit T1 Q1 O1 hx hkl hlt hv hbl HE
      go_wp2_with fail
      have zw : (wr.alloc (.cells #[.int .i64 x.op, .int .i64 x.num, .string x.text, .slice an nn cn, .slice ak nk ck] 67)).heap.size = wr.heap.size + 1 := by simp
      refine (unhide HC).mono ?_
      rintro r w3 ⟨rfl, hb3⟩
      have Q3 : w3.ownsRow w.heap.size 52 1 (.slice av Es.length cv) Es.length (Es.map Ex.val) := owns_blocks2 Q2 (fun q hq => hb3.block q (Q2.lt q hq).2)
      have B3 := B2.trans (hb3.mono B2.size)
      have z3 := B3.size
      dsimp only
      go_wp2_with (at_builtin; refine wpList_append_own _ rfl _ _ 76 rfl w.heap.size 52 ie .nilIface 1 16 Tryz.underlying76 hie ez0 ez1 ez2 rfl (by decide) _ _ _ rfl (World.ownsRow.alloc Q3 _) ⟨w3.heap.size, 0, none⟩ 1 1 [.iface t u] rfl rfl ?d1 ?d2 ?d3 ?d4 ?d5 ?_)
      case d1 => exact one_cell _ _ _ _ (by simp)
      case d2 => intro u hu; simp at hu; subst hu; rfl
      case d3 => unfold maxLen; omega
      case d4 => omega
      case d5 => simp; omega
      intro v' w4 Q4 hgrow _
      have B4 := (B3.alloc B3.size (.cells #[.iface t u] 52)).grown hgrow (by simp; omega) (fun q hq => (Q3.lt q hq).1)
      clear hgrow
      go_wp2_with fail
      go_roundw
      case rel => exact ⟨k + 1, Es ++ [e], unhide Hlt, by go_num, hide (by simp [unhide HE2]), ⟨by rw [List.map_append, List.length_append]; simp only [List.map_cons, List.map_nil, unhide HV]; exact Q4, unhide HT, unhide HX⟩, B4⟩
      case measure => have := unhide Hlt; simp [intOf]; omega
    · have e : k = n := by omega
      subst e
      go_wp2_with fail
      go_ret
      exact ⟨⟨_, Es, rfl, unhide HE, O1⟩, B1⟩

end Go.Proofs.YtbdplgelkgngmaaGreatDoor
