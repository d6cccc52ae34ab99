/-
  EDB, EDC, ZG, ZH. Own work.
-/
import Derived.Test.YtddpcehgopeklaaGreatDoorMXAU
import Derived.Test.YtddpcehgopeklaaGreatDoorMXAY
import Derived.Test.YtddpcehgopeklaaGreatDoorMXAZ
import Derived.Test.YtddpcehgopeklaaGreatDoorMXAV
import Derived.Test.YtddpcehgopeklaaGreatDoorMXAT
namespace Go.Proofs.YtddpcehgopeklaaGreatDoor
open Go.RowKit
set_option linter.unusedVariables false

/-- the lets' declarations -/
def ltD : Nat → List ByteArray → List Int → List Dc
  | k, n :: ns, t :: ts => ⟨n, true, k, t⟩ :: ltD (k + 1) ns ts
  | _, _, _ => []

def dOf (ns : List ByteArray) (ts : List Int) : List Dc := attD ++ ltD 0 ns ts

/-- what the model says of a name -/
noncomputable def nmR (ns : List ByteArray) (ts : List Int) (s : ByteArray) : Rc :=
  if 0 ≤ findI s attN 0 then .ok (attrTy (findI s attN 0)) else if 0 ≤ findI s ns 0 then ofC 7 ts[(findI s ns 0).toNat]? else .error 7

theorem findI_lt (s : ByteArray) : ∀ (L : List ByteArray) (k : Int), 0 ≤ k → (findI s L k = -1 ∧ s ∉ L) ∨ (k ≤ findI s L k ∧ findI s L k < k + L.length)
  | [], k, h => .inl ⟨by simp [findI], by simp⟩
  | x :: r, k, h => by
    rw [findI]
    by_cases e : x = s
    · rw [if_pos e]; right; simp; omega
    · rw [if_neg e]
      rcases findI_lt s r (k + 1) (by omega) with ⟨h1, h2⟩ | ⟨h1, h2⟩
      · exact .inl ⟨h1, by simp [Ne.symm e, h2]⟩
      · right; simp at h2 ⊢; omega

theorem fnd_lt (s : ByteArray) : ∀ (ns : List ByteArray) (ts : List Int) (k : Nat), ns.length = ts.length → (findI s ns k = -1 ∧ fnd (ltD k ns ts) s = none) ∨ ∃ (j : Nat) (t : Int), findI s ns k = ((k + j : Nat) : Int) ∧ ts[j]? = some t ∧ fnd (ltD k ns ts) s = some ⟨s, true, ((k + j : Nat) : Int), t⟩
  | [], [], k, _ => .inl ⟨by simp [findI], rfl⟩
  | n :: ns, t :: ts, k, h => by
    rw [findI, ltD]
    by_cases e : n = s
    · rw [if_pos e]
      exact .inr ⟨0, t, rfl, rfl, by rw [fnd, List.find?_cons_of_pos (by simpa using e), e]; rfl⟩
    · rw [if_neg e]
      have e2 : fnd (⟨n, true, (k : Int), t⟩ :: ltD (k + 1) ns ts) s = fnd (ltD (k + 1) ns ts) s := by rw [fnd, List.find?_cons_of_neg (by simpa using e)]; rfl
      rw [e2]
      rcases fnd_lt s ns ts (k + 1) (by simpa using h) with ⟨h1, h2⟩ | ⟨j, t', h1, h2, h3⟩
      · exact .inl ⟨by have := h1; push_cast at this; exact this, h2⟩
      · refine .inr ⟨j + 1, t', ?_, by simpa using h2, ?_⟩
        · have := h1; push_cast at this ⊢; rw [this]; omega
        · rw [h3]
          congr 2
          omega
  | [], _ :: _, _, h => by cases h
  | _ :: _, [], _, h => by cases h

def atD : Nat → List ByteArray → List Dc
  | k, n :: ns => ⟨n, false, k, attrTy k⟩ :: atD (k + 1) ns
  | _, [] => []

theorem fnd_at (s : ByteArray) : ∀ (ns : List ByteArray) (k : Nat), (findI s ns k = -1 ∧ fnd (atD k ns) s = none) ∨ ∃ j : Nat, j < ns.length ∧ findI s ns k = ((k + j : Nat) : Int) ∧ fnd (atD k ns) s = some ⟨s, false, ((k + j : Nat) : Int), attrTy ((k + j : Nat) : Int)⟩
  | [], k => .inl ⟨by simp [findI], rfl⟩
  | n :: ns, k => by
    rw [findI, atD]
    by_cases e : n = s
    · rw [if_pos e]
      exact .inr ⟨0, by simp, rfl, by rw [fnd, List.find?_cons_of_pos (by simpa using e), e]; rfl⟩
    · rw [if_neg e]
      have e2 : fnd (⟨n, false, (k : Int), attrTy (k : Int)⟩ :: atD (k + 1) ns) s = fnd (atD (k + 1) ns) s := by rw [fnd, List.find?_cons_of_neg (by simpa using e)]; rfl
      rw [e2]
      rcases fnd_at s ns (k + 1) with ⟨h1, h2⟩ | ⟨j, hj, h1, h3⟩
      · exact .inl ⟨by have := h1; push_cast at this; exact this, h2⟩
      · have en : k + 1 + j = k + (j + 1) := by omega
        refine .inr ⟨j + 1, by simpa using hj, ?_, ?_⟩
        · have := h1; rw [en] at this; push_cast at this ⊢; exact this
        · rw [h3, en]

theorem attD_eq : attD = atD 0 attN := rfl

theorem fnd_att (s : ByteArray) : (findI s attN 0 = -1 ∧ fnd attD s = none) ∨ ∃ j : Nat, j < 6 ∧ findI s attN 0 = (j : Int) ∧ fnd attD s = some ⟨s, false, (j : Int), attrTy (j : Int)⟩ := by
  rw [attD_eq]
  rcases fnd_at s attN 0 with ⟨h1, h2⟩ | ⟨j, hj, h1, h2⟩
  · exact .inl ⟨h1, h2⟩
  · rw [Nat.zero_add] at h1 h2
    exact .inr ⟨j, hj, h1, h2⟩

theorem fnd_app (A B : List Dc) (s : ByteArray) : fnd (A ++ B) s = match fnd A s with | some d => some d | none => fnd B s := by
  unfold fnd
  rw [List.find?_append]
  cases List.find? _ A <;> rfl

def cR : Rs → Rc
  | .ok t => .ok t
  | .error f => .error f.1

theorem nmR_eq (ns : List ByteArray) (ts : List Int) (h : ns.length = ts.length) (i : Int) (s : ByteArray) : nmR ns ts s = cR (tyX (dOf ns ts) (.name i s)) := by
  rw [tyX, dOf, fnd_app, nmR]
  rcases fnd_att s with ⟨h1, h2⟩ | ⟨j, hj, h1, h2⟩
  · rw [h1, h2, if_neg (by decide)]
    rcases fnd_lt s ns ts 0 h with ⟨g1, g2⟩ | ⟨j, t, g1, g2, g3⟩
    · have g1' : findI s ns 0 = -1 := g1
      rw [g1', g2, if_neg (by decide)]
      rfl
    · have g1' : findI s ns 0 = (j : Int) := by have := g1; simpa using this
      rw [g1', g3, if_pos (by omega), Int.toNat_natCast, g2]
      rfl
  · rw [h1, h2, if_pos (by omega)]
    rfl

end Go.Proofs.YtddpcehgopeklaaGreatDoor

namespace Go.Proofs.YtddpcehgopeklaaGreatDoor
open Go.RowKit
set_option linter.unusedVariables false

/-- the lets of the model, as they lie -/
structure Ltm (w : World) (lb : Nat) (xa : Option Addr) (nn cc : Nat) (ns : List ByteArray) (la : Option Addr) (ln lc : Nat) (ts : List Int) : Prop where
  c0 : w.cell? ⟨lb, 0, none⟩ = some (.slice xa nn cc)
  c1 : w.cell? ⟨lb, 1, none⟩ = some (.slice la ln lc)
  lt : lb < w.heap.size
  nms : Nms w xa ns
  nl : ns.length = nn
  small : nn ≤ 1048576
  ints : Ints w la ln lc ts
  same : ns.length = ts.length

theorem Ltm.below {w w' : World} {lb : Nat} {xa : Option Addr} {nn cc : Nat} {ns : List ByteArray} {la : Option Addr} {ln lc : Nat} {ts : List Int} (h : Ltm w lb xa nn cc ns la ln lc ts) (hb : Below w.heap.size w w') : Ltm w' lb xa nn cc ns la ln lc ts :=
  ⟨(hb.cell (p := ⟨lb, 0, none⟩) h.lt).trans h.c0, (hb.cell (p := ⟨lb, 1, none⟩) h.lt).trans h.c1, Nat.lt_of_lt_of_le h.lt hb.size, h.nms.below hb (Nat.le_refl _), h.nl, h.small, h.ints.below hb (Nat.le_refl _), h.same⟩

set_option maxRecDepth 100000 in
set_option maxHeartbeats 1600000 in
theorem l3node_name (a : Option Addr) (n c : Nat) (N : List Nd) (lb : Nat) (w : World) (hN : Nds w a n c N) (i : Nat) (x : Nd) (hx : N[i]? = some x) (hop : x.op = 5) (xa : Option Addr) (nn cc : Nat) (ns : List ByteArray) (la : Option Addr) (ln lc : Nat) (ts : List Int) (hlt : Ltm w lb xa nn cc ns la ln lc ts) :
    Calls Tryz.prog 60 #[.slice a n c, .int .i64 i, .pointer (some ⟨lb, 0, none⟩)] w (NdC (nmR ns ts x.text) w) := by
  have hnN := hN.small
  have hlen := hN.len
  have hi : i < N.length := (List.getElem?_eq_some_iff.1 hx).1
  have hxe : N[i] = x := (List.getElem?_eq_some_iff.1 hx).2
  have iin : (i : Int) < (n : Int) := by omega
  obtain ⟨b, off, rfl, hbl, an, nn', cn, ak, nk, ck, c0, c1, c2, c3, c4, hNm, hKd⟩ := hN.cells i hi
  rw [hxe] at c0 c1 c2 hKd
  rw [hop] at c0
  clear hNm hKd
  clear hlen hx hxe hi hop hN
  have R0 := Row.new w #[.int .i64 5, .int .i64 x.num, .string x.text, .slice an nn' cn, .slice ak nk ck] 53
  have B0 := (Below.refl w.heap.size w).alloc (Nat.le_refl _) (.cells #[.int .i64 5, .int .i64 x.num, .string x.text, .slice an nn' cn, .slice ak nk ck] 53)
  have T0 := hlt.below B0
  have W0E : ∃ W0, W0 = w.alloc (.cells #[.int .i64 5, .int .i64 x.num, .string x.text, .slice an nn' cn, .slice ak nk ck] 53) := ⟨_, rfl⟩
  clear hlt
  generalize x.num = nu at *
  generalize x.text = tx at *
  go_enter Tryz.func60, Tryz.ntmps60
  go_wp2_with fail
  obtain ⟨W0, hW0⟩ := W0E
  rw [← hW0] at R0 B0 T0 ⊢
  clear hW0
  refine (l3attr_any tx _).mono ?_
  rintro r w1 ⟨rfl, hb1⟩
  have R1 := R0.after hb1 (Nat.le_refl _)
  have B1 := B0.trans (hb1.mono B0.size)
  have T1 := T0.below hb1
  clear R0 B0 T0 hb1
  dsimp only
  obtain ⟨q0, q1, q2, q3, q4⟩ := row5 R1
  by_cases h0 : 0 ≤ findI tx attN 0
  · have HX := hide (show nmR ns ts tx = .ok (attrTy (findI tx attN 0)) by rw [nmR, if_pos h0])
    generalize findI tx attN 0 = fa at h0 HX
    go_wp2_with fail
    refine (l3attrType_any fa _).mono ?_
    rintro r w2 ⟨rfl, rfl⟩
    dsimp only
    go_wp2_with fail
    exact bodyPost_ret (v := .tuple #[.int .i64 (attrTy fa), .int .i64 0]) (by simp [results, Tryz.results60, go_sem]) rfl ⟨⟨_, _, rfl, .inl ⟨rfl, unhide HX⟩⟩, B1⟩
  · have HX := hide (show nmR ns ts tx = if 0 ≤ findI tx ns 0 then ofC 7 ts[(findI tx ns 0).toNat]? else .error 7 by rw [nmR, if_neg h0])
    generalize findI tx attN 0 = fa at h0
    have HC := hide (find_any lb xa nn cc ns tx w1 T1.c0 T1.lt T1.nl T1.small T1.nms)
    go_wp2_with fail
    refine (unhide HC).mono ?_
    rintro r w2 ⟨rfl, hb2⟩
    have B2 := B1.trans (hb2.mono B1.size)
    have T2 := T1.below hb2
    clear HC B1 T1 R1 q0 q1 q2 q3 q4 hb2
    dsimp only
    have hft := findI_lt tx ns 0 (by omega)
    by_cases h1 : 0 ≤ findI tx ns 0
    · obtain ⟨fk, hfk⟩ : ∃ fk : Nat, findI tx ns 0 = fk := ⟨(findI tx ns 0).toNat, by omega⟩
      have hflt : fk < ts.length := by have := T2.same; omega
      have HY := hide (show nmR ns ts tx = .ok ts[fk] by rw [unhide HX, if_pos h1, hfk, Int.toNat_natCast, List.getElem?_eq_getElem hflt]; rfl)
      rw [hfk]
      clear HX hfk h1 hft
      obtain ⟨bt, ot, hla, hbt, ct⟩ := T2.ints.cells fk hflt
      have e1 := T2.c1
      rw [hla] at e1
      have il : (fk : Int) < (ln : Int) := by have := T2.ints.len; omega
      generalize ts[fk] = t at ct HY
      have f0 : ¬ ((fk : Int) < 0) := by omega
      clear hflt
      go_wp2_with fail
      exact bodyPost_ret (v := .tuple #[.int .i64 t, .int .i64 0]) (by simp [results, Tryz.results60, go_sem]) rfl ⟨⟨_, _, rfl, .inl ⟨rfl, unhide HY⟩⟩, B2⟩
    · have HY := hide (show nmR ns ts tx = .error 7 by rw [unhide HX, if_neg h1])
      generalize findI tx ns 0 = fk at h1
      clear HX hft
      go_wp2_with fail
      exact bodyPost_ret (v := .tuple #[.int .i64 0, .int .i64 7]) (by simp [results, Tryz.results60, go_sem]) rfl ⟨⟨_, _, rfl, .inr ⟨by decide, unhide HY⟩⟩, B2⟩

theorem tyNX_un {op : Int} (h : 8 ≤ op ∧ op ≤ 10) (D : List Dc) (i : Int) (k : Ex) : tyNX op [cR (tyX D k)] = cR (tyX D (.un i op k)) := by
  rw [tyX]
  cases tyX D k with
  | error f => rfl
  | ok a =>
    show ofC 9 (nz (typeL op [a])) = cR (ofO (9, i) (nz (tyOp op [a])))
    rw [typeL_un op a h]
    cases nz (tyOp op [a]) <;> rfl

theorem tyNX_bin {op : Int} (h : 11 ≤ op ∧ op ≤ 26) {D : List Dc} (hin : ∀ d ∈ D, 1 ≤ d.typ ∧ d.typ ≤ 4) (i : Int) (k l : Ex) : tyNX op [cR (tyX D k), cR (tyX D l)] = cR (tyX D (.bin i op k l)) := by
  rw [tyX]
  have ha := tyX_in hin k
  cases hk : tyX D k with
  | error f => rfl
  | ok a =>
    have := ha a hk
    cases tyX D l with
    | error f => rfl
    | ok b =>
      show ofC 9 (nz (typeL op [a, b])) = cR (ofO (9, i) (nz (tyOp op [a, b])))
      rw [typeL_bin op a b h (by omega)]
      cases nz (tyOp op [a, b]) <;> rfl

theorem tyNX_ite {D : List Dc} (hin : ∀ d ∈ D, 1 ≤ d.typ ∧ d.typ ≤ 4) (i : Int) (k l m : Ex) : tyNX 27 [cR (tyX D k), cR (tyX D l), cR (tyX D m)] = cR (tyX D (.ite i k l m)) := by
  rw [tyX]
  have hb := tyX_in hin l
  cases hk : tyX D k with
  | error f => rfl
  | ok a =>
    cases hl : tyX D l with
    | error f => rfl
    | ok b =>
      have := hb b hl
      cases tyX D m with
      | error f => rfl
      | ok d =>
        show ofC 9 (nz (typeL 27 [a, b, d])) = cR (ofO (9, i) (nz (tyOp 27 [a, b, d])))
        rw [typeL_ite a b d (by omega)]
        cases nz (tyOp 27 [a, b, d]) <;> rfl

/-- the type of any node of a written policy -/
theorem l3node_anyX (a : Option Addr) (n c : Nat) (N : List Nd) (hU : ∀ x ∈ N, fieldsB x = true) (lb : Nat) (xa : Option Addr) (nn cc : Nat) (ns : List ByteArray) (la : Option Addr) (ln lc : Nat) (ts : List Int) (hin : ∀ d ∈ dOf ns ts, 1 ≤ d.typ ∧ d.typ ≤ 4) {i : Nat} {e : Ex} (t : IsT N i e) :
    ∀ w, Nds w a n c N → Ltm w lb xa nn cc ns la ln lc ts →
    Calls Tryz.prog 60 #[.slice a n c, .int .i64 i, .pointer (some ⟨lb, 0, none⟩)] w (NdC (cR (tyX (dOf ns ts) e)) w) := by
  have U : ∀ {i : Nat} {x : Nd}, N[i]? = some x → (x.kids.length : Int) = kidN x.op ∧ x.op ≠ 6 ∧ x.op ≠ 7 := fun {i x} hx => by
    have h := hU _ (List.mem_of_getElem? hx)
    rw [fieldsB, Bool.and_eq_true, decide_eq_true_eq] at h
    refine ⟨h.1, fun e => ?_, fun e => ?_⟩
    · have := h.2; simp [e] at this
    · have := h.2; simp [e] at this
  have leaf : ∀ {i : Nat} {x : Nd}, N[i]? = some x → opOK x.op → x.kids = [] → ∀ w, Nds w a n c N → Calls Tryz.prog 60 #[.slice a n c, .int .i64 i, .pointer (some ⟨lb, 0, none⟩)] w (NdC (tyNX x.op []) w) := fun {i x} hx ho hk w h1 =>
    l3node_kidsX a n c N lb w h1 i x hx ho (rowL_len ho (U hx).1) [] (by rw [hk]; rfl) (fun j h => absurd h (by rw [hk]; simp))
  have step : ∀ {i : Nat} {x : Nd} {os : List Rc}, N[i]? = some x → opOK x.op → ∀ w, Nds w a n c N → Ltm w lb xa nn cc ns la ln lc ts → os.length = x.kids.length →
      (∀ (j : Nat) (y : Int) (o : Rc), x.kids[j]? = some y → os[j]? = some o → ∀ W, Nds W a n c N → Ltm W lb xa nn cc ns la ln lc ts → Calls Tryz.prog 60 #[.slice a n c, .int .i64 y, .pointer (some ⟨lb, 0, none⟩)] W (NdC o W)) →
      Calls Tryz.prog 60 #[.slice a n c, .int .i64 i, .pointer (some ⟨lb, 0, none⟩)] w (NdC (tyNX x.op os) w) := fun {i x os} hx ho w h1 h2 hl V =>
    l3node_kidsX a n c N lb w h1 i x hx ho (rowL_len ho (U hx).1) os hl (fun j h h' W hb => V j _ _ (List.getElem?_eq_getElem h) (List.getElem?_eq_getElem h') W (h1.below hb (Nat.le_refl _)) (h2.below hb))
  induction t with
  | int h ho hk => intro w h1 _; have := leaf h (by rw [ho]; unfold opOK; omega) hk w h1; rw [ho] at this; exact this
  | text h ho hk => intro w h1 _; have := leaf h (by rw [ho]; unfold opOK; omega) hk w h1; rw [ho] at this; exact this
  | bool h ho hk => intro w h1 _; have := leaf h (by rw [ho]; unfold opOK; omega) hk w h1; rw [ho] at this; exact this
  | set h ho hk _ _ _ => intro w h1 _; have := leaf h (by rw [ho]; unfold opOK; omega) hk w h1; rw [ho] at this; exact this
  | @name i x h ho hk =>
    intro w h1 h2
    rw [← nmR_eq ns ts h2.same]
    exact l3node_name a n c N lb w h1 _ _ h ho xa nn cc ns la ln lc ts h2
  | attr h ho hk => exact absurd ho (U h).2.1
  | lett h ho hk => exact absurd ho (U h).2.2
  | @un i k x e h ho hk hi t ih =>
    intro w h1 h2
    rw [← tyNX_un ho]
    refine step h (by unfold opOK; omega) w h1 h2 (by rw [hk]; rfl) (fun j y o hy hoj W => ?_)
    rw [hk] at hy
    match j with
    | 0 => cases hy; cases hoj; exact ih W
    | j + 1 => simp at hy
  | @bin i k l x e f h ho hk hi t u ih1 ih2 =>
    intro w h1 h2
    rw [← tyNX_bin ho hin]
    refine step h (by unfold opOK; omega) w h1 h2 (by rw [hk]; rfl) (fun j y o hy hoj W => ?_)
    rw [hk] at hy
    match j with
    | 0 => cases hy; cases hoj; exact ih1 W
    | 1 => cases hy; cases hoj; exact ih2 W
    | j + 2 => simp at hy
  | @ite i k l m x e f g h ho hk hi t u v ih1 ih2 ih3 =>
    intro w h1 h2
    rw [← tyNX_ite hin, ← ho]
    refine step h (by unfold opOK; omega) w h1 h2 (by rw [hk]; rfl) (fun j y o hy hoj W => ?_)
    rw [hk] at hy
    match j with
    | 0 => cases hy; cases hoj; exact ih1 W
    | 1 => cases hy; cases hoj; exact ih2 W
    | 2 => cases hy; cases hoj; exact ih3 W
    | j + 3 => simp at hy

end Go.Proofs.YtddpcehgopeklaaGreatDoor

namespace Go.Proofs.YtddpcehgopeklaaGreatDoor
open Go.RowKit
set_option linter.unusedVariables false

/-- what stands aside of a row that grows -/
theorem Ints.keep {w w' : World} {v v' : Value} {a : Option Addr} {n c : Nat} {L : List Int} (h : Ints w a n c L) (k : Keep w v w' v') (ha : ∀ x, a = some x → some x.block ≠ v.ownBlock) : Ints w' a n c L :=
  ⟨h.len, h.small, fun j hj => by
    obtain ⟨b, off, hb, hl, c0⟩ := h.cells j hj
    exact ⟨b, off, hb, Nat.lt_of_lt_of_le hl k.2.2, (World.cell?_of_block (w := w) (k.1 b hl (ha _ hb))).trans c0⟩⟩

end Go.Proofs.YtddpcehgopeklaaGreatDoor

namespace Go.Proofs.YtddpcehgopeklaaGreatDoor
open Go.RowKit
set_option linter.unusedVariables false

theorem own_apart {w : World} {B B' n n' size size' : Nat} {e e' : TypeId} {v v' : Value} {xs xs' : List Value} (h : w.ownsRow B e size v n xs) (h' : w.ownsRow B' e' size' v' n' xs') (hne : e ≠ e') : ∀ q, v.ownBlock = some q → v'.ownBlock ≠ some q := fun q hq => by
  rcases h.2 with ⟨hv, _⟩ | ⟨g, cap, cur, hv, _, hg, _⟩
  · rw [hv] at hq; cases hq
  · rw [hv] at hq
    obtain rfl : g = q := by simpa [Value.ownBlock] using hq
    exact own_ne_row ⟨hg⟩ h' hne

/-- the lets and the types found so far -/
structure Lm (B lb : Nat) (ns : List ByteArray) (ts tt : List Int) (nv lv tv : Value) (w : World) : Prop where
  row : Row w lb #[nv, lv] 76
  names : w.ownsRow B 9 1 nv ns.length (ns.map Value.string)
  lets : w.ownsRow B 3 1 lv ts.length (intsV ts)
  types : w.ownsRow B 3 1 tv tt.length (intsV tt)
  low : lb < B
  apart : ∀ q, lv.ownBlock = some q → tv.ownBlock ≠ some q

theorem Lm.below {B lb : Nat} {ns : List ByteArray} {ts tt : List Int} {nv lv tv : Value} {w w' : World} (h : Lm B lb ns ts tt nv lv tv w) (hb : Below w.heap.size w w') : Lm B lb ns ts tt nv lv tv w' :=
  ⟨h.row.after hb (Nat.le_refl _), ownsRow_below h.names hb (Nat.le_refl _), ownsRow_below h.lets hb (Nat.le_refl _), ownsRow_below h.types hb (Nat.le_refl _), h.low, h.apart⟩

theorem Lm.tree {B lb : Nat} {ns : List ByteArray} {ts tt ys : List Int} {nv lv tv tv' : Value} {w w' : World} (h : Lm B lb ns ts tt nv lv tv w) (O : w'.ownsRow B 3 1 tv' (tt ++ ys).length (intsV (tt ++ ys))) (K : Keep w tv w' tv') (hb : Below B w w') : Lm B lb ns ts (tt ++ ys) nv lv tv' w' := by
  refine ⟨h.row.below hb h.low, owns_blocks2 h.names (fun q hq => K.1 q (h.names.lt q hq).2 (fun e => own_apart h.names h.types (by decide) q hq e.symm)), owns_blocks2 h.lets (fun q hq => K.1 q (h.lets.lt q hq).2 (fun e => h.apart q hq e.symm)), O, h.low, fun q hq e => ?_⟩
  rcases K.2.1 q e with e2 | e2
  · exact h.apart q hq e2
  · have := (h.lets.lt q hq).2; omega

/-- a cell of another block is written -/
theorem Lm.set {B lb : Nat} {ns : List ByteArray} {ts tt : List Int} {nv lv tv : Value} {w : World} (h : Lm B lb ns ts tt nv lv tv w) (p : Addr) (u : Value) (h1 : p.block < B) (h2 : p.block ≠ lb) : Lm B lb ns ts tt nv lv tv (w.setCell p u) :=
  ⟨h.row.setFar (fun e => h2 e.symm) u, own_set3 h.names p u (fun q hq => by have := (h.names.lt q hq).1; omega), own_set3 h.lets p u (fun q hq => by have := (h.lets.lt q hq).1; omega), own_set3 h.types p u (fun q hq => by have := (h.types.lt q hq).1; omega), h.low, h.apart⟩

theorem Lm.pushN {B lb : Nat} {ns : List ByteArray} {ts tt : List Int} {nv lv tv : Value} {w w3 : World} {o : Obj} {nm : ByteArray} {g cap : Nat} (h : Lm B lb ns ts tt nv lv tv w) (hB : B ≤ w.heap.size)
    (O3 : w3.ownsRow B 9 1 (.slice (some ⟨g, 0, none⟩) (ns.length + 1) cap) (ns.length + 1) (ns.map Value.string ++ [.string nm])) (hgrow : (w.alloc o).grownBy w3 nv.ownBlock) (hat : nv.ownBlock = some g ∨ g = w.heap.size + 1) :
    Row w3 lb #[nv, lv] 76 ∧ Lm B lb (ns ++ [nm]) ts tt (.slice (some ⟨g, 0, none⟩) (ns.length + 1) cap) lv tv (w3.setCell ⟨lb, 0, none⟩ (.slice (some ⟨g, 0, none⟩) (ns.length + 1) cap)) ∧
    (∀ k, k < w.heap.size → k ≠ lb → some k ≠ nv.ownBlock → (w3.setCell ⟨lb, 0, none⟩ (.slice (some ⟨g, 0, none⟩) (ns.length + 1) cap)).heap[k]? = w.heap[k]?) ∧ w.heap.size ≤ w3.heap.size := by
  have n1 := own_ne_row h.row h.names (by decide)
  have n2 := own_ne_row h.row h.lets (by decide)
  have n3 := own_ne_row h.row h.types (by decide)
  have R3 := (h.row.alloc o).grown hgrow (fun e => n1 e.symm)
  have n4 := own_ne_row R3 O3 (by decide)
  have ng : g ≠ lb := fun e => n4 (by rw [e]; rfl)
  have za : (w.alloc o).heap.size = w.heap.size + 1 := by simp
  have kb : ∀ k, k < w.heap.size → k ≠ lb → some k ≠ nv.ownBlock → (w3.setCell ⟨lb, 0, none⟩ (.slice (some ⟨g, 0, none⟩) (ns.length + 1) cap)).heap[k]? = w.heap[k]? := fun k h1 h2 h3 =>
    (heap_setCell_other w3 ⟨lb, 0, none⟩ k _ h2).trans ((hgrow.block k (by rw [za]; omega) h3).trans (Below.heap_alloc w o k h1))
  have zz : w.heap.size ≤ w3.heap.size := by have := hgrow.size; omega
  refine ⟨R3, ⟨R3.set 0 (.slice (some ⟨g, 0, none⟩) (ns.length + 1) cap), ?_, owns_blocks2 h.lets (fun q hq => kb q (h.lets.lt q hq).2 (fun e => n2 (e ▸ hq)) (fun e => own_apart h.names h.lets (by decide) q e.symm hq)), owns_blocks2 h.types (fun q hq => kb q (h.types.lt q hq).2 (fun e => n3 (e ▸ hq)) (fun e => own_apart h.names h.types (by decide) q e.symm hq)), h.low, h.apart⟩, kb, zz⟩
  rw [List.map_append, List.length_append]
  refine own_set3 O3 ⟨lb, 0, none⟩ _ (fun q hq => ?_)
  have : g = q := by simpa [Value.ownBlock] using hq
  subst this
  exact ng

theorem Lm.pushL {B lb : Nat} {ns : List ByteArray} {ts tt : List Int} {nv lv tv : Value} {w w3 : World} {o : Obj} {t : Int} {g cap : Nat} (h : Lm B lb ns ts tt nv lv tv w) (hB : B ≤ w.heap.size)
    (O3 : w3.ownsRow B 3 1 (.slice (some ⟨g, 0, none⟩) (ts.length + 1) cap) (ts.length + 1) (intsV ts ++ [.int .i64 t])) (hgrow : (w.alloc o).grownBy w3 lv.ownBlock) (hat : lv.ownBlock = some g ∨ g = w.heap.size + 1) :
    Row w3 lb #[nv, lv] 76 ∧ Lm B lb ns (ts ++ [t]) tt nv (.slice (some ⟨g, 0, none⟩) (ts.length + 1) cap) tv (w3.setCell ⟨lb, 1, none⟩ (.slice (some ⟨g, 0, none⟩) (ts.length + 1) cap)) ∧
    (∀ k, k < w.heap.size → k ≠ lb → some k ≠ lv.ownBlock → (w3.setCell ⟨lb, 1, none⟩ (.slice (some ⟨g, 0, none⟩) (ts.length + 1) cap)).heap[k]? = w.heap[k]?) ∧ w.heap.size ≤ w3.heap.size := by
  have n1 := own_ne_row h.row h.names (by decide)
  have n2 := own_ne_row h.row h.lets (by decide)
  have n3 := own_ne_row h.row h.types (by decide)
  have R3 := (h.row.alloc o).grown hgrow (fun e => n2 e.symm)
  have n4 := own_ne_row R3 O3 (by decide)
  have ng : g ≠ lb := fun e => n4 (by rw [e]; rfl)
  have za : (w.alloc o).heap.size = w.heap.size + 1 := by simp
  have kb : ∀ k, k < w.heap.size → k ≠ lb → some k ≠ lv.ownBlock → (w3.setCell ⟨lb, 1, none⟩ (.slice (some ⟨g, 0, none⟩) (ts.length + 1) cap)).heap[k]? = w.heap[k]? := fun k h1 h2 h3 =>
    (heap_setCell_other w3 ⟨lb, 1, none⟩ k _ h2).trans ((hgrow.block k (by rw [za]; omega) h3).trans (Below.heap_alloc w o k h1))
  have zz : w.heap.size ≤ w3.heap.size := by have := hgrow.size; omega
  refine ⟨R3, ⟨R3.set 1 (.slice (some ⟨g, 0, none⟩) (ts.length + 1) cap), owns_blocks2 h.names (fun q hq => kb q (h.names.lt q hq).2 (fun e => n1 (e ▸ hq)) (fun e => own_apart h.names h.lets (by decide) q hq e.symm)), ?_, owns_blocks2 h.types (fun q hq => kb q (h.types.lt q hq).2 (fun e => n3 (e ▸ hq)) (fun e => h.apart q e.symm hq)), h.low, fun q hq e => ?_⟩, kb, zz⟩
  · rw [intsV, List.map_append, List.length_append]
    refine own_set3 O3 ⟨lb, 1, none⟩ _ (fun q hq => ?_)
    have : g = q := by simpa [Value.ownBlock] using hq
    subst this
    exact ng
  · have : g = q := by simpa [Value.ownBlock] using hq
    subst this
    rcases hat with hat | hat
    · exact h.apart g hat e
    · have := (h.types.lt g e).2; omega

/-- all that a round of the checker stands on -/
structure Ls (B rb lb fb sb : Nat) (ns : List ByteArray) (ts tt : List Int) (nv lv tv : Value) (S : Array Value) (fc fa : Int) (w0 w : World) : Prop where
  M : Lm B lb ns ts tt nv lv tv w
  F : Row w fb #[.int .i64 fc, .int .i64 fa] 33
  R : Row w rb #[.int .i64 0, .int .i64 0] 33
  S : Row w sb S 77
  low : Below rb w0 w
  ord : rb < lb ∧ lb < fb ∧ fb < B ∧ B ≤ sb

theorem Ls.below {B rb lb fb sb : Nat} {ns : List ByteArray} {ts tt : List Int} {nv lv tv : Value} {S : Array Value} {fc fa : Int} {w0 w w' : World} (h : Ls B rb lb fb sb ns ts tt nv lv tv S fc fa w0 w) (hb : Below w.heap.size w w') : Ls B rb lb fb sb ns ts tt nv lv tv S fc fa w0 w' :=
  ⟨h.M.below hb, h.F.after hb (Nat.le_refl _), h.R.after hb (Nat.le_refl _), h.S.after hb (Nat.le_refl _), h.low.trans (hb.mono (by have := h.R.lt; omega)), h.ord⟩

theorem Ls.tree {B rb lb fb sb : Nat} {ns : List ByteArray} {ts tt ys : List Int} {nv lv tv tv' : Value} {S : Array Value} {fc fa : Int} {w0 w w' : World} (h : Ls B rb lb fb sb ns ts tt nv lv tv S fc fa w0 w) (O : w'.ownsRow B 3 1 tv' (tt ++ ys).length (intsV (tt ++ ys))) (K : Keep w tv w' tv') (hb : Below B w w') : Ls B rb lb fb sb ns ts (tt ++ ys) nv lv tv' S fc fa w0 w' :=
  ⟨h.M.tree O K hb, h.F.below hb h.ord.2.2.1, h.R.below hb (by have := h.ord; omega), ⟨(K.1 sb h.S.lt (fun e => own_ne_row h.S h.M.types (by decide) e.symm)).trans h.S.out⟩, h.low.trans (hb.mono (by have := h.ord; omega)), h.ord⟩

/-- the fault is laid -/
theorem Ls.fault {B rb lb fb sb : Nat} {ns : List ByteArray} {ts tt : List Int} {nv lv tv : Value} {S : Array Value} {fc fa : Int} {w0 w : World} (h : Ls B rb lb fb sb ns ts tt nv lv tv S fc fa w0 w) (c a : Int) : Ls B rb lb fb sb ns ts tt nv lv tv S c a w0 ((w.setCell ⟨fb, 0, none⟩ (.int .i64 c)).setCell ⟨fb, 1, none⟩ (.int .i64 a)) := by
  have o := h.ord
  refine ⟨(h.M.set ⟨fb, 0, none⟩ _ o.2.2.1 (by show fb ≠ lb; omega)).set ⟨fb, 1, none⟩ _ o.2.2.1 (by show fb ≠ lb; omega), (h.F.set 0 _).set 1 _, (h.R.setFar (by show rb ≠ fb; omega) _).setFar (by show rb ≠ fb; omega) _, (h.S.setFar (by show sb ≠ fb; omega) _).setFar (by show sb ≠ fb; omega) _, ?_, o⟩
  exact (h.low.setCell (p := ⟨fb, 0, none⟩) (by show rb ≤ fb; omega) _).setCell (p := ⟨fb, 1, none⟩) (by show rb ≤ fb; omega) _

theorem Ls.of_kept {B rb lb fb sb : Nat} {ns ns' : List ByteArray} {ts tt ts' : List Int} {nv lv tv nv' lv' : Value} {S : Array Value} {fc fa : Int} {w0 w w' : World} {e : TypeId} {size n : Nat} {xv : Value} {xs : List Value} (h : Ls B rb lb fb sb ns ts tt nv lv tv S fc fa w0 w) (hx : w.ownsRow B e size xv n xs) (h1 : 33 ≠ e) (h2 : 77 ≠ e)
    (M : Lm B lb ns' ts' tt nv' lv' tv w') (hk : ∀ k, k < w.heap.size → k ≠ lb → some k ≠ xv.ownBlock → w'.heap[k]? = w.heap[k]?) (hb : Below rb w w') : Ls B rb lb fb sb ns' ts' tt nv' lv' tv S fc fa w0 w' := by
  have o := h.ord
  exact ⟨M, ⟨(hk fb h.F.lt (by omega) (fun q => own_ne_row h.F hx h1 q.symm)).trans h.F.out⟩, ⟨(hk rb h.R.lt (by omega) (fun q => own_ne_row h.R hx h1 q.symm)).trans h.R.out⟩, ⟨(hk sb h.S.lt (by omega) (fun q => own_ne_row h.S hx h2 q.symm)).trans h.S.out⟩, h.low.trans hb, o⟩

end Go.Proofs.YtddpcehgopeklaaGreatDoor
