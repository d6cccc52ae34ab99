/-
  ZD, ZE, EDA, ZF. Own work.
-/
import Derived.Test.YtddpcehgopeklaaGreatDoorMXAT
import Derived.Test.YtddpcehgopeklaaGreatDoorMXAI
import Derived.Test.YtddpcehgopeklaaGreatDoorMXAV
import Derived.Test.YtddpcehgopeklaaGreatDoorMXAH
import Derived.Test.YtddpcehgopeklaaGreatDoorMXAS
namespace Go.Proofs.YtddpcehgopeklaaGreatDoor
open Go.RowKit
set_option linter.unusedVariables false

open Classical in
/-- where a name stands first; -1: nowhere -/
noncomputable def findI (s : ByteArray) : List ByteArray → Int → Int
  | [], _ => -1
  | x :: r, k => if x = s then k else findI s r (k + 1)

theorem findI_pos (s : ByteArray) : ∀ (L : List ByteArray) (k : Int), 0 ≤ k → (0 ≤ findI s L k ↔ s ∈ L)
  | [], k, h => by simp [findI]
  | x :: r, k, h => by
    rw [findI]
    by_cases e : x = s
    · rw [if_pos e]; simp [e, h]
    · rw [if_neg e, findI_pos s r (k + 1) (by omega)]
      simp [Ne.symm e]

theorem findI_at {s : ByteArray} {L : List ByteArray} {k : Nat} (h : k < L.length) : findI s (L.drop k) k = if L[k] = s then (k : Int) else findI s (L.drop (k + 1)) ((k + 1 : Nat) : Int) := by
  rw [List.drop_eq_getElem_cons h, findI]
  rfl

theorem tl_eq (x s : ByteArray) : (x.toList == s.toList) = true ↔ x = s := by
  rw [beq_iff_eq]
  constructor
  · intro h
    rw [ByteArray.toList_eq, ByteArray.toList_eq] at h
    cases x; cases s
    simp only [ByteArray.mk.injEq]
    exact Array.toList_inj.1 h
  · rintro rfl; rfl

/-- names in memory -/
def Nms (w : World) (a : Option Addr) (L : List ByteArray) : Prop := ∀ j, (h : j < L.length) → ∃ b off, a = some ⟨b, off, none⟩ ∧ b < w.heap.size ∧ w.cell? ⟨b, off + j, none⟩ = some (.string L[j])

theorem Nms.below {w w' : World} {B : Nat} {a : Option Addr} {L : List ByteArray} (h : Nms w a L) (hb : Below B w w') (hB : w.heap.size ≤ B) : Nms w' a L := fun j hj => by
  obtain ⟨b, off, ha, hl, c0⟩ := h j hj
  exact ⟨b, off, ha, Nat.lt_of_lt_of_le hl hb.size, (hb.cell (p := ⟨b, off + j, none⟩) (by show b < B; omega)).trans c0⟩

theorem nms_new (w : World) (t : TypeId) (L : List ByteArray) : Nms (w.alloc (.cells (L.map Value.string).toArray t)) (some ⟨w.heap.size, 0, none⟩) L := fun j hj => by
  refine ⟨w.heap.size, 0, rfl, by simp, ?_⟩
  rw [Nat.zero_add, (Row.new w (L.map Value.string).toArray t).cell j]
  simp [hj]

set_option maxRecDepth 100000 in
set_option maxHeartbeats 1600000 in
theorem l3attr_any (s : ByteArray) (w : World) :
    Calls Tryz.prog 19 #[.string s] w fun r w' => r = .returned (.int .i64 (findI s attN 0)) ∧ Below w.heap.size w w' := by
  have B1 := (Below.refl w.heap.size w).alloc (Nat.le_refl _) (.cells (attN.map Value.string).toArray 9)
  have I1 := nms_new w 9 attN
  have HM := hide (show attN.length = 6 from rfl)
  have Hw := hide (show w.alloc (.cells (attN.map Value.string).toArray 9) = w.alloc (.cells #[.string ⟨#[99, 108, 105, 101, 110, 116]⟩, .string ⟨#[117, 115, 101, 114]⟩, .string ⟨#[108, 101, 118, 101, 108]⟩, .string ⟨#[110, 111, 119]⟩, .string ⟨#[97, 115, 107, 101, 100]⟩, .string ⟨#[97, 103, 114, 101, 101, 100]⟩] 9) from rfl)
  go_enter Tryz.func19, Tryz.ntmps19
  go_wp2_with fail
  rw [← unhide Hw]
  clear Hw
  generalize w.alloc (.cells (attN.map Value.string).toArray 9) = w1 at B1 I1 ⊢
  go_loopw [7] (fun i wr => ∃ k : Nat, k ≤ 6 ∧ i = .int .i64 k ∧ Below w.heap.size w wr ∧ Below w1.heap.size w1 wr ∧ Hid (findI s attN 0 = findI s ((attN : List ByteArray).drop k) k)) (fun i _ => 6 - (intOf i).toNat)
  case atStart => exact ⟨0, by omega, rfl, B1, Below.refl _ _, hide rfl⟩
  case round =>
    obtain ⟨k, hk, rfl, D0, D1, HF⟩ := hrel
    by_cases hlt : k < 6
    · have ilt : (k : Int) < (6 : Int) := by omega
      have h1 : k < (attN : List ByteArray).length := by rw [unhide HM]; exact hlt
      obtain ⟨b1, o1, hab, hb, c0⟩ := (I1.below D1 (Nat.le_refl _)) k h1
      obtain ⟨rfl, rfl⟩ : b1 = w.heap.size ∧ o1 = 0 := by simpa [eq_comm] using hab
      simp only [Nat.zero_add] at c0
      have HG := hide ((unhide HF).trans (findI_at h1))
      have Hlt := hide hlt
      generalize (attN : List ByteArray)[k] = u at c0 HG
      clear hlt h1 HF
      by_cases hu : u = s
      · have eu : (u.toList == s.toList) = true := (tl_eq u s).2 hu
        have HN := hide ((unhide HG).trans (if_pos hu))
        clear HG hu
        go_wp2_with fail
        go_ret
        exact ⟨by rw [unhide HN]; rfl, D0⟩
      · have eu : (u.toList == s.toList) = false := by rw [Bool.eq_false_iff]; exact fun h => hu ((tl_eq u s).1 h)
        have HN := hide ((unhide HG).trans (if_neg hu))
        clear HG hu
        go_wp2_with fail
        go_roundw
        case rel => exact ⟨k + 1, unhide Hlt, by go_num, D0, D1, HN⟩
        case measure => have := unhide Hlt; simp [intOf]; omega
    · have e : k = 6 := by omega
      subst e
      have HN := hide (show findI s attN 0 = -1 by rw [unhide HF, List.drop_of_length_le (by rw [unhide HM]; omega)]; rfl)
      go_wp2_with fail
      go_ret
      exact ⟨by rw [unhide HN]; rfl, D0⟩

set_option maxRecDepth 100000 in
set_option maxHeartbeats 1600000 in
theorem find_any (lb : Nat) (a : Option Addr) (n c : Nat) (L : List ByteArray) (s : ByteArray) (w : World) (h0 : w.cell? ⟨lb, 0, none⟩ = some (.slice a n c)) (hlb : lb < w.heap.size) (hL : L.length = n) (hn : n ≤ 1048576) (hN : Nms w a L) :
    Calls Tryz.prog 20 #[.pointer (some ⟨lb, 0, none⟩), .string s] w fun r w' => r = .returned (.int .i64 (findI s L 0)) ∧ Below w.heap.size w w' := by
  have HM := hide hL
  obtain ⟨w1, hw1⟩ : ∃ w1, w1 = w := ⟨_, rfl⟩
  have B1 : Below w.heap.size w w1 := by rw [hw1]; exact Below.refl _ _
  have I1 : Nms w1 a L := by rw [hw1]; exact hN
  have Hw := hide hw1
  clear hw1 hL hN
  go_enter Tryz.func20, Tryz.ntmps20
  go_wp2_with fail
  rw [← unhide Hw]
  clear Hw
  go_loopw [12] (fun i wr => ∃ k : Nat, k ≤ n ∧ i = .int .i64 k ∧ Below w.heap.size w wr ∧ Below w1.heap.size w1 wr ∧ Hid (findI s L 0 = findI s ((L : List ByteArray).drop k) k)) (fun i _ => n - (intOf i).toNat)
  case atStart => exact ⟨0, by omega, rfl, B1, Below.refl _ _, hide rfl⟩
  case round =>
    obtain ⟨k, hk, rfl, D0, D1, HF⟩ := hrel
    by_cases hlt : k < n
    · have ilt : (k : Int) < (n : Int) := by omega
      have h1 : k < (L : List ByteArray).length := by rw [unhide HM]; exact hlt
      obtain ⟨b1, o1, hab, hb, c0⟩ := (I1.below D1 (Nat.le_refl _)) k h1
      subst hab
      have HG := hide ((unhide HF).trans (findI_at h1))
      have Hlt := hide hlt
      generalize (L : List ByteArray)[k] = u at c0 HG
      clear hlt h1 HF
      by_cases hu : u = s
      · have eu : (u.toList == s.toList) = true := (tl_eq u s).2 hu
        have HN := hide ((unhide HG).trans (if_pos hu))
        clear HG hu
        go_wp2_with fail
        go_ret
        exact ⟨by rw [unhide HN]; rfl, D0⟩
      · have eu : (u.toList == s.toList) = false := by rw [Bool.eq_false_iff]; exact fun h => hu ((tl_eq u s).1 h)
        have HN := hide ((unhide HG).trans (if_neg hu))
        clear HG hu
        go_wp2_with fail
        go_roundw
        case rel => exact ⟨k + 1, unhide Hlt, by go_num, D0, D1, HN⟩
        case measure => have := unhide Hlt; simp [intOf]; omega
    · have e : k = n := by omega
      subst e
      have HN := hide (show findI s L 0 = -1 by rw [unhide HF, List.drop_of_length_le (by rw [unhide HM]; omega)]; rfl)
      go_wp2_with fail
      go_ret
      exact ⟨by rw [unhide HN]; rfl, D0⟩

end Go.Proofs.YtddpcehgopeklaaGreatDoor

namespace Go.Proofs.YtddpcehgopeklaaGreatDoor
open Go.RowKit
set_option linter.unusedVariables false

end Go.Proofs.YtddpcehgopeklaaGreatDoor

namespace Go.Proofs.YtddpcehgopeklaaGreatDoor
open Go.RowKit
set_option linter.unusedVariables false

/-- a type, or a fault's code -/
abbrev Rc := Except Int Int

/-- all of them, or the first code -/
def allR : List Rc → Except Int (List Int)
  | [] => .ok []
  | .error c :: _ => .error c
  | .ok t :: r => (allR r).map (t :: ·)

theorem allR_cons {t : Int} {r : List Rc} {K : List Int} (h : allR (.ok t :: r) = .ok K) : ∃ K', allR r = .ok K' ∧ K = t :: K' := by
  rw [allR] at h
  cases hr : allR r with
  | error c => rw [hr] at h; cases h
  | ok K' => rw [hr] at h; cases h; exact ⟨K', rfl, rfl⟩

theorem allR_len : ∀ {os : List Rc} {K : List Int}, allR os = .ok K → K.length = os.length
  | [], K, h => by cases h; rfl
  | .error c :: _, K, h => by cases h
  | .ok t :: r, K, h => by
    obtain ⟨K', h1, rfl⟩ := allR_cons h
    rw [List.length_cons, List.length_cons, allR_len h1]

theorem allR_snoc (o : Rc) : ∀ (os : List Rc) (K : List Int), allR os = .ok K → allR (os ++ [o]) = o.map (fun t => K ++ [t])
  | [], K, h => by cases h; cases o <;> rfl
  | .error c :: _, K, h => by cases h
  | .ok t :: r, K, h => by
    obtain ⟨K', h1, rfl⟩ := allR_cons h
    rw [List.cons_append, allR, allR_snoc o r K' h1]
    cases o <;> rfl

theorem allR_error : ∀ (os : List Rc) (k : Nat) {c : Int}, allR (os.take k) = .error c → allR os = .error c
  | [], k, c, h => by simpa using h
  | .error d :: _, 0, c, h => by cases h
  | .error d :: _, k + 1, c, h => by rw [List.take_succ_cons, allR] at h; rw [allR]; exact h
  | .ok t :: r, 0, c, h => by cases h
  | .ok t :: r, k + 1, c, h => by
    rw [List.take_succ_cons, allR] at h
    cases hr : allR (r.take k) with
    | ok K => rw [hr] at h; cases h
    | error d =>
      rw [hr] at h
      cases h
      rw [allR, allR_error r k hr]
      rfl

def NdC (o : Rc) (w : World) (r : Ending) (w' : World) : Prop := (∃ ty code, r = .returned (.tuple #[.int .i64 ty, .int .i64 code]) ∧ ((code = 0 ∧ o = .ok ty) ∨ (code ≠ 0 ∧ o = .error code))) ∧ Below w.heap.size w w'

def ofC (c : Int) : Option Int → Rc
  | some t => .ok t
  | none => .error c

def tyNX (op : Int) (os : List Rc) : Rc := match allR os with
  | .error c => .error c
  | .ok K => ofC 9 (nz (typeL op K))

set_option maxRecDepth 100000 in
set_option maxHeartbeats 3200000 in
theorem l3node_kidsX (a : Option Addr) (n c : Nat) (N : List Nd) (lb : Nat) (w : World) (hN : Nds w a n c N) (i : Nat) (x : Nd) (hx : N[i]? = some x) (hop : opOK x.op) (hl : (rowL x.op).1.length ≤ x.kids.length) (os : List Rc) (ho : os.length = x.kids.length)
    (V : ∀ j, (h : j < x.kids.length) → (h2 : j < os.length) → ∀ W, Below w.heap.size w W → Calls Tryz.prog 60 #[.slice a n c, .int .i64 x.kids[j], .pointer (some ⟨lb, 0, none⟩)] W (NdC os[j] W)) :
    Calls Tryz.prog 60 #[.slice a n c, .int .i64 i, .pointer (some ⟨lb, 0, none⟩)] w (NdC (tyNX x.op os) w) := by
  obtain ⟨ii, hii, ez0, ez1, ez2⟩ := info_parts infoI
  have hnN := hN.small
  have hlen := hN.len
  have hi : i < N.length := (List.getElem?_eq_some_iff.1 hx).1
  have hxe : N[i] = x := (List.getElem?_eq_some_iff.1 hx).2
  have iin : (i : Int) < (n : Int) := by omega
  obtain ⟨b, off, rfl, hbl, an, nn, cn, ak, nk, ck, c0, c1, c2, c3, c4, hNm, hKd⟩ := hN.cells i hi
  rw [hxe] at c0 c1 c2 hKd
  have HKL := hide hKd.len
  have hnk := hKd.small
  have HO := hide ho
  have HV := hide V
  have HL := hide hl
  have HT := hide (fun K h => (show tyNX x.op os = ofC 9 (nz (typeL x.op K)) by rw [tyNX, (show allR os = .ok K from h)]))
  have HTN := hide (show ∀ c, allR os = .error c → tyNX x.op os = .error c from fun c h => by rw [tyNX, h])
  have n5 : (x.op == 5) = false := beq_eq_false_iff_ne.2 (by unfold opOK at hop; omega)
  have n6 : (x.op == 6) = false := beq_eq_false_iff_ne.2 (by unfold opOK at hop; omega)
  have n7 : (x.op == 7) = false := beq_eq_false_iff_ne.2 (by unfold opOK at hop; omega)
  have HOP := hide hop
  clear hNm
  clear hlen hx hxe hi hl ho V hop
  have R0 := Row.new w #[.int .i64 x.op, .int .i64 x.num, .string x.text, .slice an nn cn, .slice ak nk ck] 53
  have B0 := (Below.refl w.heap.size w).alloc (Nat.le_refl _) (.cells #[.int .i64 x.op, .int .i64 x.num, .string x.text, .slice an nn cn, .slice ak nk ck] 53)
  have z0 : w.heap.size < (w.alloc (.cells #[.int .i64 x.op, .int .i64 x.num, .string x.text, .slice an nn cn, .slice ak nk ck] 53)).heap.size := by simp
  go_enter Tryz.func60, Tryz.ntmps60
  go_wp2_with fail
  generalize w.alloc (.cells #[.int .i64 x.op, .int .i64 x.num, .string x.text, .slice an nn cn, .slice ak nk ck] 53) = W1 at R0 B0 z0 ⊢
  go_loopw [11, 71] (fun v i wr => ∃ (j : Nat) (K : List Int), j ≤ nk ∧ i = .int .i64 j ∧ wr.ownsRow W1.heap.size 3 1 v K.length (intsV K) ∧ Hid (allR (os.take j) = .ok K) ∧ Below W1.heap.size W1 wr) (fun _ i _ => nk - (intOf i).toNat)
  case atStart => exact ⟨0, [], by omega, rfl, World.ownsRow_nil _ _ _ _, hide rfl, Below.refl _ _⟩
  case round =>
    obtain ⟨j, K, hj, rfl, Q1, HK, D1⟩ := hrel
    have E1 := B0.trans (D1.mono B0.size)
    have zd := D1.size
    have hKl : K.length ≤ nk := by have := allR_len (unhide HK); rw [List.length_take] at this; omega
    by_cases hjl : j < nk
    · have ijl : (j : Int) < (nk : Int) := by omega
      have hjk : j < x.kids.length := by rw [unhide HKL]; exact hjl
      have hjo : j < os.length := by rw [unhide HO]; exact hjk
      obtain ⟨bk, ok, rfl, hbk, ck0⟩ := (hKd.below E1 (Nat.le_refl _)).cells j hjk
      have HC := hide (unhide HV j hjk hjo _ E1)
      have HS := hide (show allR (os.take (j + 1)) = os[j].map (fun t => K ++ [t]) by rw [List.take_succ_eq_append_getElem hjo]; exact allR_snoc _ _ _ (unhide HK))
      have HZ := hide (show ∀ c, os[j] = .error c → tyNX x.op os = .error c from fun c e => unhide HTN c (allR_error os (j + 1) (by rw [unhide HS, e]; rfl)))
      have Hjl := hide hjl
      generalize x.kids[j] = y at ck0 HC
      generalize os[j] = oj at HC HS HZ
      obtain ⟨xv, cv, rfl, _⟩ := owns_form2 Q1
      clear hjk hjo hjl
      go_wp2_with fail
      refine (unhide HC).mono ?_
      rintro r w2 ⟨⟨ty, code, rfl, hr⟩, hb2⟩
      have D2 := D1.trans (hb2.mono zd)
      have Q2 := ownsRow_below Q1 hb2 (Nat.le_refl _)
      rcases hr with ⟨rfl, rfl⟩ | ⟨hc, rfl⟩
      · have HS2 := hide (show allR (os.take (j + 1)) = .ok (K ++ [ty]) from unhide HS)
        have zd2 := D2.size
        clear HS HZ HC
        dsimp only
        go_wp2_with (at_builtin; refine wpList_append_own _ rfl _ _ 29 rfl W1.heap.size 3 ii (.int .i64 0) 1 8 Tryz.underlying29 hii ez0 ez1 ez2 rfl (by decide) _ _ _ rfl (World.ownsRow.alloc Q2 _) ⟨w2.heap.size, 0, none⟩ 1 1 [.int .i64 ty] rfl rfl ?d1 ?d2 ?d3 ?d4 ?d5 ?_)
        case d1 => exact one_cell _ _ _ _ (by simp)
        case d2 => intro u hu; simp at hu; subst hu; rfl
        case d3 => unfold maxLen; omega
        case d4 => omega
        case d5 => simp; omega
        intro v' w3 Q3 hgrow _
        have D3 := (D2.alloc D2.size (.cells #[.int .i64 ty] 3)).grown hgrow (by simp; omega) (fun q hq => (Q2.lt q hq).1)
        clear hgrow
        go_wp2_with fail
        go_roundw
        case rel => exact ⟨j + 1, K ++ [ty], unhide Hjl, by go_num, owns_snoc Q3, HS2, D3⟩
        case measure => have := unhide Hjl; simp [intOf]; omega
      · have ec : (code != 0) = true := bne_iff_ne.2 hc
        have HX := hide (unhide HZ code rfl)
        have Hc := hide hc
        clear hc HS HZ HC
        dsimp only
        go_wp2_with fail
        exact bodyPost_ret (v := .tuple #[.int .i64 0, .int .i64 code]) (by simp [results, Tryz.results60, go_sem]) rfl ⟨⟨_, _, rfl, .inr ⟨unhide Hc, unhide HX⟩⟩, B0.trans (D2.mono B0.size)⟩
    · have e : j = nk := by omega
      subst e
      have HA := hide (show allR os = .ok K by rw [← unhide HK, List.take_of_length_le (by rw [unhide HO, unhide HKL]; exact Nat.le_refl _)])
      have HX := hide (unhide HT K (unhide HA))
      have hl2 := allR_len (unhide HA)
      have HLK := hide (show (rowL x.op).1.length ≤ K.length by have := unhide HL; have := unhide HO; omega)
      obtain ⟨xv, cv, rfl, _⟩ := owns_form2 Q1
      have J1 := ints_of_row Q1 (by omega)
      have R1 := R0.below D1 z0
      have q0 : wr.cell? ⟨w.heap.size, 0, none⟩ = some (.int .i64 x.op) := R1.cell 0
      clear hl2
      go_wp2_with fail
      refine (l3type_any x.op (unhide HOP) _ _ _ K _ J1 (unhide HLK)).mono ?_
      rintro r w4 ⟨rfl, hb4⟩
      have D4 := D1.trans (hb4.mono zd)
      dsimp only
      by_cases ht : typeL x.op K = 0
      · have et : (typeL x.op K == 0) = true := beq_iff_eq.2 ht
        have HY := hide (show tyNX x.op os = .error 9 by rw [unhide HX, nz, if_pos ht]; rfl)
        clear ht HX
        generalize typeL x.op K = tt at et
        go_wp2_with fail
        exact bodyPost_ret (v := .tuple #[.int .i64 0, .int .i64 9]) (by simp [results, Tryz.results60, go_sem]) rfl ⟨⟨_, _, rfl, .inr ⟨by decide, unhide HY⟩⟩, B0.trans (D4.mono B0.size)⟩
      · have et : (typeL x.op K == 0) = false := beq_eq_false_iff_ne.2 ht
        have HY := hide (show tyNX x.op os = .ok (typeL x.op K) by rw [unhide HX, nz, if_neg ht]; rfl)
        clear ht HX
        generalize typeL x.op K = tt at et HY
        go_wp2_with fail
        exact bodyPost_ret (v := .tuple #[.int .i64 tt, .int .i64 0]) (by simp [results, Tryz.results60, go_sem]) rfl ⟨⟨_, _, rfl, .inl ⟨rfl, unhide HY⟩⟩, B0.trans (D4.mono B0.size)⟩

end Go.Proofs.YtddpcehgopeklaaGreatDoor

namespace Go.Proofs.YtddpcehgopeklaaGreatDoor
open Go.RowKit
set_option linter.unusedVariables false

theorem rowL_len {x : Nd} (h : opOK x.op) (hk : (x.kids.length : Int) = kidN x.op) : (rowL x.op).1.length ≤ x.kids.length := by
  unfold opOK at h
  generalize x.op = op at *
  generalize x.kids.length = m at *
  by_cases h1 : 1 ≤ op ∧ op ≤ 7
  · have : op = 1 ∨ op = 2 ∨ op = 3 ∨ op = 4 := by omega
    rcases this with rfl | rfl | rfl | rfl <;> simp [rowL]
  by_cases h2 : 8 ≤ op ∧ op ≤ 10
  · rw [kidN, if_neg h1, if_pos h2] at hk
    have : op = 8 ∨ op = 9 ∨ op = 10 := by omega
    rcases this with rfl | rfl | rfl <;> simp [rowL] <;> omega
  by_cases h3 : 11 ≤ op ∧ op ≤ 26
  · rw [kidN, if_neg h1, if_neg h2, if_pos h3] at hk
    have : op = 11 ∨ op = 12 ∨ op = 13 ∨ op = 14 ∨ op = 15 ∨ op = 16 ∨ op = 17 ∨ op = 18 ∨ op = 19 ∨ op = 20 ∨ op = 21 ∨ op = 22 ∨ op = 23 ∨ op = 24 ∨ op = 25 ∨ op = 26 := by omega
    rcases this with rfl | rfl | rfl | rfl | rfl | rfl | rfl | rfl | rfl | rfl | rfl | rfl | rfl | rfl | rfl | rfl <;> simp [rowL] <;> omega
  · have h4 : op = 27 := by omega
    rw [kidN, if_neg h1, if_neg h2, if_neg h3, if_pos h4] at hk
    subst h4
    simp [rowL]
    omega

end Go.Proofs.YtddpcehgopeklaaGreatDoor
