/-
  JO, JU, JV. Own work.
-/
import Derived.Test.YtddpcehgopeklaaGreatDoorMXAO
import Derived.Test.YtddpcehgopeklaaGreatDoorMXAE
namespace Go.Proofs.YtddpcehgopeklaaGreatDoor
open Go.RowKit
set_option linter.unusedVariables false

def sigs : List (Int × Int × Int × Int) := [(8, 2, 0, 2), (9, 1, 0, 1), (10, 4, 0, 2), (11, 2, 2, 2), (12, 2, 2, 2), (13, 2, 2, 2), (14, 2, 2, 2), (15, 2, 2, 2), (16, 4, 4, 4), (17, 4, 4, 4), (18, 4, 4, 4), (21, 2, 2, 1), (22, 2, 2, 1), (23, 3, 4, 1), (24, 4, 4, 1), (25, 1, 1, 1), (26, 1, 1, 1)]

def sigB (op l r : Int) (s : Int × Int × Int × Int) : Bool := s.1 == op && (s.2.1 == l && s.2.2.1 == r)

def opT (op l r : Int) : Option Int := if op = 19 ∨ op = 20 then (if l = r then some 1 else none) else (sigs.find? (sigB op l r)).map fun s => s.2.2.2

/-- the cells of the table of signatures -/
def sigV : Array Value := #[.int .i64 8, .int .i64 2, .int .i64 0, .int .i64 2, .int .i64 9, .int .i64 1, .int .i64 0, .int .i64 1, .int .i64 10, .int .i64 4, .int .i64 0, .int .i64 2, .int .i64 11, .int .i64 2, .int .i64 2, .int .i64 2, .int .i64 12, .int .i64 2, .int .i64 2, .int .i64 2, .int .i64 13, .int .i64 2, .int .i64 2, .int .i64 2, .int .i64 14, .int .i64 2, .int .i64 2, .int .i64 2, .int .i64 15, .int .i64 2, .int .i64 2, .int .i64 2, .int .i64 16, .int .i64 4, .int .i64 4, .int .i64 4, .int .i64 17, .int .i64 4, .int .i64 4, .int .i64 4, .int .i64 18, .int .i64 4, .int .i64 4, .int .i64 4, .int .i64 21, .int .i64 2, .int .i64 2, .int .i64 1, .int .i64 22, .int .i64 2, .int .i64 2, .int .i64 1, .int .i64 23, .int .i64 3, .int .i64 4, .int .i64 1, .int .i64 24, .int .i64 4, .int .i64 4, .int .i64 1, .int .i64 25, .int .i64 1, .int .i64 1, .int .i64 1, .int .i64 26, .int .i64 1, .int .i64 1, .int .i64 1]

theorem sigV_row : ∀ k, k < 17 → sigV.extract (k * 4) (k * 4 + 4) = #[.int .i64 (sigs.getD k (0, 0, 0, 0)).1, .int .i64 (sigs.getD k (0, 0, 0, 0)).2.1, .int .i64 (sigs.getD k (0, 0, 0, 0)).2.2.1, .int .i64 (sigs.getD k (0, 0, 0, 0)).2.2.2]
  | 0, _ => rfl
  | 1, _ => rfl
  | 2, _ => rfl
  | 3, _ => rfl
  | 4, _ => rfl
  | 5, _ => rfl
  | 6, _ => rfl
  | 7, _ => rfl
  | 8, _ => rfl
  | 9, _ => rfl
  | 10, _ => rfl
  | 11, _ => rfl
  | 12, _ => rfl
  | 13, _ => rfl
  | 14, _ => rfl
  | 15, _ => rfl
  | 16, _ => rfl
  | n + 17, h => absurd h (by omega)

/-- the cells of the table of attributes -/
def attV : Array Value := #[.string ⟨#[99, 108, 105, 101, 110, 116]⟩, .int .i64 3, .string ⟨#[117, 115, 101, 114]⟩, .int .i64 3, .string ⟨#[108, 101, 118, 101, 108]⟩, .int .i64 2, .string ⟨#[110, 111, 119]⟩, .int .i64 2, .string ⟨#[97, 115, 107, 101, 100]⟩, .int .i64 4, .string ⟨#[97, 103, 114, 101, 101, 100]⟩, .int .i64 4]

/-- the package's variables that the verifier looks at -/
structure Vok (w : World) (aT : Addr) : Prop where
  s : 13 < w.heap.size
  sc : ∀ k, w.cell? ⟨13, k, none⟩ = sigV[k]?
  a : 1 < w.heap.size
  ac : ∀ k, w.cell? ⟨1, k, none⟩ = attV[k]?
  e : 11 < w.heap.size
  ec : w.cell? ⟨11, 0, none⟩ = some (.iface 224 (.pointer (some aT)))

theorem Vok.below {w w' : World} {aT : Addr} {B : Nat} (h : Vok w aT) (hb : Below B w w') (hB : w.heap.size ≤ B) : Vok w' aT :=
  ⟨Nat.lt_of_lt_of_le h.s hb.size, fun k => (hb.cell (p := ⟨13, k, none⟩) (Nat.lt_of_lt_of_le h.s hB)).trans (h.sc k), Nat.lt_of_lt_of_le h.a hb.size, fun k => (hb.cell (p := ⟨1, k, none⟩) (Nat.lt_of_lt_of_le h.a hB)).trans (h.ac k), Nat.lt_of_lt_of_le h.e hb.size, (hb.cell (p := ⟨11, 0, none⟩) (Nat.lt_of_lt_of_le h.e hB)).trans h.ec⟩

/-- no error, or the error -/
def errT (b : Bool) (aT : Addr) : Value := match b with | true => .nilIface | false => .iface 224 (.pointer (some aT))

/-- a type and no error, or an error -/
def OtAns (o : Option Int) (aT : Addr) (e : Ending) : Prop := e = .returned (.tuple #[.int .i64 (o.getD 0), errT o.isSome aT])

theorem find_at (p : Int × Int × Int × Int → Bool) : ∀ (l : List (Int × Int × Int × Int)) (k : Nat) (h : k < l.length), (∀ j, j < k → (hj : j < l.length) → p l[j] = false) → p l[k] = true → l.find? p = some l[k]
  | x :: l, 0, _, _, hp => by simp at hp; simp [List.find?, hp]
  | x :: l, k + 1, h, hn, hp => by
    have h0 := hn 0 (by omega) (by simp)
    simp at h0
    rw [List.find?_cons_of_neg (by simp [h0])]
    have := find_at p l k (by simpa using h) (fun j hj hj' => by have := hn (j + 1) (by omega) (by simpa using hj'); simpa using this) (by simpa using hp)
    simpa using this

theorem find_no (p : Int × Int × Int × Int → Bool) (l : List (Int × Int × Int × Int)) (h : ∀ j, (hj : j < l.length) → p l[j] = false) : l.find? p = none := by
  rw [List.find?_eq_none]
  intro x hx
  obtain ⟨j, hj, rfl⟩ := List.getElem_of_mem hx
  rw [h j hj]; decide

set_option maxRecDepth 100000 in
set_option maxHeartbeats 6400000 in
theorem operationType_any (op l r : Int) (aT : Addr) (w : World) (h : Vok w aT) :
    Calls Tryz.prog 121 #[.int .i64 op, .int .i64 l, .int .i64 r] w fun e w' => OtAns (opT op l r) aT e ∧ Below w.heap.size w w' := by
  have ec := h.ec
  have HC := hide h.sc
  have He := hide h.e
  by_cases h19 : op = 19 ∨ op = 20
  · by_cases hlr : l = r
    · have HX := hide (show opT op l r = some 1 by rw [opT, if_pos h19, if_pos hlr])
      have elr : (l != r) = false := by simp [hlr]
      have el2 : (l == r) = true := beq_iff_eq.2 hlr
      clear h
      rcases h19 with rfl | rfl
      all_goals
        subst hlr
        go_enter Tryz.func121, Tryz.ntmps121
        go_wp2_with fail
        exact bodyPost_ret (v := .tuple #[.int .i64 1, .nilIface]) (by simp [results, Tryz.results121, go_sem]) rfl ⟨by rw [unhide HX]; rfl, Below.refl _ _⟩
    · have HX := hide (show opT op l r = none by rw [opT, if_pos h19, if_neg hlr])
      have elr : (l != r) = true := bne_iff_ne.2 hlr
      have el2 : (l == r) = false := beq_eq_false_iff_ne.2 hlr
      clear h hlr
      rcases h19 with rfl | rfl
      all_goals
        go_enter Tryz.func121, Tryz.ntmps121
        go_wp2_with fail
        go_region
        all_goals
          go_wp2_with fail
          exact bodyPost_ret (v := .tuple #[.int .i64 0, .iface 224 (.pointer (some aT))]) (by simp [results, Tryz.results121, go_sem]) rfl ⟨by rw [unhide HX]; rfl, (Below.refl _ _).drew⟩
  · have i19 : (op == 19) = false := beq_eq_false_iff_ne.2 (fun e => h19 (.inl e))
    have i20 : (op == 20) = false := beq_eq_false_iff_ne.2 (fun e => h19 (.inr e))
    have HX := hide (show opT op l r = (sigs.find? (sigB op l r)).map (fun s => s.2.2.2) by rw [opT, if_neg h19])
    clear h h19
    go_enter Tryz.func121, Tryz.ntmps121
    go_wp2_with (refine wpList_load_cells rfl 223 _ rfl 13 rfl sigV _ (unhide HC) Tryz.underlying223 rfl (by kernel_rfl) ?_)
    clear HC
    have hlen : sigs.length = 17 := rfl
    go_loopw [21] (fun i wr => ∃ k : Nat, k ≤ 17 ∧ i = .int .i64 k ∧ Below w.heap.size w wr ∧ ∀ j, j < k → (hj : j < sigs.length) → sigB op l r sigs[j] = false) (fun i _ => 17 - (intOf i).toNat)
    case atStart => exact ⟨0, by omega, rfl, Below.refl _ _, fun j h => absurd h (by omega)⟩
    case round =>
      obtain ⟨k, hk, rfl, B1, hn⟩ := hrel
      have Hn := hide hn
      clear hn
      have ec1 := (B1.cell (p := ⟨11, 0, none⟩) (unhide He)).trans ec
      by_cases hlt : k < 17
      · have ilt : (k : Int) < 17 := by omega
        have hkl : k < sigs.length := by omega
        have HR := hide (sigV_row k hlt)
        have Hlt := hide hlt
        have hg : sigs.getD k (0, 0, 0, 0) = sigs[k] := by rw [List.getD, List.getElem?_eq_getElem hkl]; rfl
        rw [hg] at HR
        have HE := hide (show sigB op l r sigs[k] = false → ∀ j, j < k + 1 → (hj : j < sigs.length) → sigB op l r sigs[j] = false from fun e j hj hj' => by
          by_cases ej : j = k
          · subst ej; exact e
          · exact unhide Hn j (by omega) hj')
        have HB := hide (show sigB op l r sigs[k] = true → opT op l r = some sigs[k].2.2.2 from fun e => by rw [unhide HX, find_at _ _ k hkl (unhide Hn) e]; rfl)
        clear hlt hg Hn
        generalize sigs[k] = s at HR HE HB
        obtain ⟨s0, s1, s2, s3⟩ := s
        simp only at HR HB
        have B2 := B1.alloc B1.size (.cells #[.int .i64 s0, .int .i64 s1, .int .i64 s2, .int .i64 s3] 222)
        have e0 : sigB op l r (s0, s1, s2, s3) = (s0 == op && (s1 == l && s2 == r)) := rfl
        by_cases h0 : s0 = op
        · by_cases h1 : s1 = l
          · by_cases h2 : s2 = r
            · subst h0 h1 h2
              have HF := hide (unhide HB (by rw [e0]; simp))
              clear HB HE e0
              go_wp2_with (refine wpList_index_agg rfl 223 _ _ rfl sigV rfl k rfl 17 222 Tryz.underlying223 (unhide Hlt) _ Tryz.underlying222 rfl 4 (by kernel_rfl) _ (unhide HR) ?_)
              exact bodyPost_ret (v := .tuple #[.int .i64 s3, .nilIface]) (by simp [results, Tryz.results121, go_sem]) rfl ⟨by rw [unhide HF]; rfl, B2⟩
            · have q0 : (s0 == op) = true := beq_iff_eq.2 h0
              have q1 : (s1 == l) = true := beq_iff_eq.2 h1
              have q2 : (s2 == r) = false := beq_eq_false_iff_ne.2 h2
              have HF := hide (unhide HE (by rw [e0, q2]; simp))
              clear HB HE e0 h0 h1 h2
              go_wp2_with (refine wpList_index_agg rfl 223 _ _ rfl sigV rfl k rfl 17 222 Tryz.underlying223 (unhide Hlt) _ Tryz.underlying222 rfl 4 (by kernel_rfl) _ (unhide HR) ?_)
              go_roundw
              case rel => exact ⟨k + 1, unhide Hlt, by go_num, B2, unhide HF⟩
              case measure => have := unhide Hlt; simp [intOf]; omega
          · have q0 : (s0 == op) = true := beq_iff_eq.2 h0
            have q1 : (s1 == l) = false := beq_eq_false_iff_ne.2 h1
            have HF := hide (unhide HE (by rw [e0, q1]; simp))
            clear HB HE e0 h0 h1
            go_wp2_with (refine wpList_index_agg rfl 223 _ _ rfl sigV rfl k rfl 17 222 Tryz.underlying223 (unhide Hlt) _ Tryz.underlying222 rfl 4 (by kernel_rfl) _ (unhide HR) ?_)
            go_roundw
            case rel => exact ⟨k + 1, unhide Hlt, by go_num, B2, unhide HF⟩
            case measure => have := unhide Hlt; simp [intOf]; omega
        · have q0 : (s0 == op) = false := beq_eq_false_iff_ne.2 h0
          have HF := hide (unhide HE (by rw [e0, q0]; simp))
          clear HB HE e0 h0
          go_wp2_with (refine wpList_index_agg rfl 223 _ _ rfl sigV rfl k rfl 17 222 Tryz.underlying223 (unhide Hlt) _ Tryz.underlying222 rfl 4 (by kernel_rfl) _ (unhide HR) ?_)
          go_roundw
          case rel => exact ⟨k + 1, unhide Hlt, by go_num, B2, unhide HF⟩
          case measure => have := unhide Hlt; simp [intOf]; omega
      · have e : k = 17 := by omega
        subst e
        have HF := hide (show opT op l r = none by rw [unhide HX, find_no _ _ (fun j hj => unhide Hn j (by omega) hj)]; rfl)
        clear Hn
        go_wp2_with fail
        go_region
        all_goals
          go_wp2_with fail
          exact bodyPost_ret (v := .tuple #[.int .i64 0, .iface 224 (.pointer (some aT))]) (by simp [results, Tryz.results121, go_sem]) rfl ⟨by rw [unhide HF]; rfl, B1.drew⟩

theorem opT_un {op : Int} (h : 8 ≤ op ∧ op ≤ 10) (a : Int) (ha : 1 ≤ a ∧ a ≤ 4) : opT op a 0 = nz (tyOp op [a]) := by
  have h1 : op = 8 ∨ op = 9 ∨ op = 10 := by omega
  have h2 : a = 1 ∨ a = 2 ∨ a = 3 ∨ a = 4 := by omega
  rcases h1 with rfl | rfl | rfl <;> rcases h2 with rfl | rfl | rfl | rfl <;> decide

theorem opT_bin {op : Int} (h : 11 ≤ op ∧ op ≤ 26) (a b : Int) (ha : 1 ≤ a ∧ a ≤ 4) (hb : 1 ≤ b ∧ b ≤ 4) : opT op a b = nz (tyOp op [a, b]) := by
  have h1 : op = 11 ∨ op = 12 ∨ op = 13 ∨ op = 14 ∨ op = 15 ∨ op = 16 ∨ op = 17 ∨ op = 18 ∨ op = 19 ∨ op = 20 ∨ op = 21 ∨ op = 22 ∨ op = 23 ∨ op = 24 ∨ op = 25 ∨ op = 26 := by omega
  have h2 : a = 1 ∨ a = 2 ∨ a = 3 ∨ a = 4 := by omega
  have h3 : b = 1 ∨ b = 2 ∨ b = 3 ∨ b = 4 := by omega
  rcases h1 with rfl | rfl | rfl | rfl | rfl | rfl | rfl | rfl | rfl | rfl | rfl | rfl | rfl | rfl | rfl | rfl <;> rcases h2 with rfl | rfl | rfl | rfl <;> rcases h3 with rfl | rfl | rfl | rfl <;> decide

set_option maxRecDepth 100000 in
theorem choiceType_any (a b c : Int) (aT : Addr) (w : World) (h : Vok w aT) (ha : 1 ≤ b ∧ b ≤ 4) :
    Calls Tryz.prog 122 #[.int .i64 a, .int .i64 b, .int .i64 c] w fun e w' => OtAns (nz (tyOp 27 [a, b, c])) aT e ∧ Below w.heap.size w w' := by
  have ec := h.ec
  have HX := hide (show nz (tyOp 27 [a, b, c]) = if a = 1 ∧ b = c then some b else none by
    rw [tyOp, nz]
    by_cases h1 : a = 1 ∧ b = c
    · rw [if_pos h1, if_neg (by omega), if_pos h1]
    · rw [if_neg h1, if_pos rfl, if_neg h1])
  clear h
  by_cases h1 : a = 1
  · have e1 : (a != 1) = false := by simp [h1]
    by_cases h2 : b = c
    · have e2 : (b != c) = false := by simp [h2]
      have HY := hide ((unhide HX).trans (if_pos ⟨h1, h2⟩))
      clear h1 h2 HX
      go_enter Tryz.func122, Tryz.ntmps122
      go_wp2_with fail
      exact bodyPost_ret (v := .tuple #[.int .i64 b, .nilIface]) (by simp [results, Tryz.results122, go_sem]) rfl ⟨by rw [unhide HY]; rfl, Below.refl _ _⟩
    · have e2 : (b != c) = true := bne_iff_ne.2 h2
      have HY := hide ((unhide HX).trans (if_neg (fun k => h2 k.2)))
      clear h1 h2 HX
      go_enter Tryz.func122, Tryz.ntmps122
      go_wp2_with fail
      go_region
      all_goals
        go_wp2_with fail
        exact bodyPost_ret (v := .tuple #[.int .i64 0, .iface 224 (.pointer (some aT))]) (by simp [results, Tryz.results122, go_sem]) rfl ⟨by rw [unhide HY]; rfl, (Below.refl _ _).drew⟩
  · have e1 : (a != 1) = true := bne_iff_ne.2 h1
    have HY := hide ((unhide HX).trans (if_neg (fun k => h1 k.1)))
    clear h1 HX
    go_enter Tryz.func122, Tryz.ntmps122
    go_wp2_with fail
    go_region
    all_goals
      go_wp2_with fail
      exact bodyPost_ret (v := .tuple #[.int .i64 0, .iface 224 (.pointer (some aT))]) (by simp [results, Tryz.results122, go_sem]) rfl ⟨by rw [unhide HY]; rfl, (Below.refl _ _).drew⟩

end Go.Proofs.YtddpcehgopeklaaGreatDoor

namespace Go.Proofs.YtddpcehgopeklaaGreatDoor
open Go.RowKit
set_option linter.unusedVariables false

theorem kids_int (i n : Int) : ∀ w, (method 357 198 (.agg #[.int .i64 i, .int .i64 n]) "loop.example/s01308/impl.kids").run Tryz.prog w = .ok (143, .int .i64 i) w := fun _ => by kernel_rfl
theorem place_int (i n : Int) : ∀ w, (method 357 198 (.agg #[.int .i64 i, .int .i64 n]) "loop.example/s01308/impl.place").run Tryz.prog w = .ok (144, .int .i64 i) w := fun _ => by kernel_rfl
theorem kids_text (i : Int) (s : ByteArray) : ∀ w, (method 357 200 (.agg #[.int .i64 i, .string s]) "loop.example/s01308/impl.kids").run Tryz.prog w = .ok (143, .int .i64 i) w := fun _ => by kernel_rfl
theorem place_text (i : Int) (s : ByteArray) : ∀ w, (method 357 200 (.agg #[.int .i64 i, .string s]) "loop.example/s01308/impl.place").run Tryz.prog w = .ok (144, .int .i64 i) w := fun _ => by kernel_rfl
theorem kids_bool (i : Int) (b : Bool) : ∀ w, (method 357 202 (.agg #[.int .i64 i, .bool b]) "loop.example/s01308/impl.kids").run Tryz.prog w = .ok (143, .int .i64 i) w := fun _ => by kernel_rfl
theorem place_bool (i : Int) (b : Bool) : ∀ w, (method 357 202 (.agg #[.int .i64 i, .bool b]) "loop.example/s01308/impl.place").run Tryz.prog w = .ok (144, .int .i64 i) w := fun _ => by kernel_rfl
theorem kids_set (i : Int) (a : Option Addr) (n c : Nat) : ∀ w, (method 357 204 (.agg #[.int .i64 i, .slice a n c]) "loop.example/s01308/impl.kids").run Tryz.prog w = .ok (143, .int .i64 i) w := fun _ => by kernel_rfl
theorem place_set (i : Int) (a : Option Addr) (n c : Nat) : ∀ w, (method 357 204 (.agg #[.int .i64 i, .slice a n c]) "loop.example/s01308/impl.place").run Tryz.prog w = .ok (144, .int .i64 i) w := fun _ => by kernel_rfl
theorem kids_name (i : Int) (s : ByteArray) : ∀ w, (method 357 127 (.agg #[.int .i64 i, .string s]) "loop.example/s01308/impl.kids").run Tryz.prog w = .ok (143, .int .i64 i) w := fun _ => by kernel_rfl
theorem place_name (i : Int) (s : ByteArray) : ∀ w, (method 357 127 (.agg #[.int .i64 i, .string s]) "loop.example/s01308/impl.place").run Tryz.prog w = .ok (144, .int .i64 i) w := fun _ => by kernel_rfl
theorem kids_attr (i n : Int) : ∀ w, (method 357 131 (.agg #[.int .i64 i, .int .i64 n]) "loop.example/s01308/impl.kids").run Tryz.prog w = .ok (143, .int .i64 i) w := fun _ => by kernel_rfl
theorem place_attr (i n : Int) : ∀ w, (method 357 131 (.agg #[.int .i64 i, .int .i64 n]) "loop.example/s01308/impl.place").run Tryz.prog w = .ok (144, .int .i64 i) w := fun _ => by kernel_rfl
theorem kids_lett (i n : Int) : ∀ w, (method 357 130 (.agg #[.int .i64 i, .int .i64 n]) "loop.example/s01308/impl.kids").run Tryz.prog w = .ok (143, .int .i64 i) w := fun _ => by kernel_rfl
theorem place_lett (i n : Int) : ∀ w, (method 357 130 (.agg #[.int .i64 i, .int .i64 n]) "loop.example/s01308/impl.place").run Tryz.prog w = .ok (144, .int .i64 i) w := fun _ => by kernel_rfl
theorem kids_un (i op : Int) (t : TypeId) (u : Value) : ∀ w, (method 357 168 (.agg #[.int .i64 i, .int .i64 op, .iface t u]) "loop.example/s01308/impl.kids").run Tryz.prog w = .ok (148, .agg #[.int .i64 i, .int .i64 op, .iface t u]) w := fun _ => by kernel_rfl
theorem place_un (i op : Int) (t : TypeId) (u : Value) : ∀ w, (method 357 168 (.agg #[.int .i64 i, .int .i64 op, .iface t u]) "loop.example/s01308/impl.place").run Tryz.prog w = .ok (149, .agg #[.int .i64 i, .int .i64 op, .iface t u]) w := fun _ => by kernel_rfl
theorem kids_bin (i op : Int) (t : TypeId) (u : Value) (t' : TypeId) (u' : Value) : ∀ w, (method 357 170 (.agg #[.int .i64 i, .int .i64 op, .iface t u, .iface t' u']) "loop.example/s01308/impl.kids").run Tryz.prog w = .ok (150, .agg #[.int .i64 i, .int .i64 op, .iface t u, .iface t' u']) w := fun _ => by kernel_rfl
theorem place_bin (i op : Int) (t : TypeId) (u : Value) (t' : TypeId) (u' : Value) : ∀ w, (method 357 170 (.agg #[.int .i64 i, .int .i64 op, .iface t u, .iface t' u']) "loop.example/s01308/impl.place").run Tryz.prog w = .ok (151, .agg #[.int .i64 i, .int .i64 op, .iface t u, .iface t' u']) w := fun _ => by kernel_rfl
theorem kids_ite (i : Int) (t : TypeId) (u : Value) (t' : TypeId) (u' : Value) (t2 : TypeId) (u2 : Value) : ∀ w, (method 357 172 (.agg #[.int .i64 i, .iface t u, .iface t' u', .iface t2 u2]) "loop.example/s01308/impl.kids").run Tryz.prog w = .ok (152, .agg #[.int .i64 i, .iface t u, .iface t' u', .iface t2 u2]) w := fun _ => by kernel_rfl
theorem place_ite (i : Int) (t : TypeId) (u : Value) (t' : TypeId) (u' : Value) (t2 : TypeId) (u2 : Value) : ∀ w, (method 357 172 (.agg #[.int .i64 i, .iface t u, .iface t' u', .iface t2 u2]) "loop.example/s01308/impl.place").run Tryz.prog w = .ok (153, .agg #[.int .i64 i, .iface t u, .iface t' u', .iface t2 u2]) w := fun _ => by kernel_rfl

set_option maxRecDepth 100000 in
theorem kids_leaf (i : Int) (w : World) : Calls Tryz.prog 143 #[.int .i64 i] w fun r w' => r = .returned (.slice none 0 0) ∧ w' = w := by
  go_enter Tryz.func143, Tryz.ntmps143
  go_wp2
  go_ret
  exact ⟨rfl, rfl⟩

set_option maxRecDepth 100000 in
theorem place_leaf (i : Int) (w : World) : Calls Tryz.prog 144 #[.int .i64 i] w fun r w' => r = .returned (.int .i64 i) ∧ w' = w := by
  go_enter Tryz.func144, Tryz.ntmps144
  go_wp2
  go_ret
  exact ⟨rfl, rfl⟩

/-- a new slice of trees -/
def NewT (w : World) (vs : List Value) (n : Nat) (r : Ending) (w' : World) : Prop := ∃ g, r = .returned (.slice (some ⟨g, 0, none⟩) n n) ∧ w.heap.size ≤ g ∧ Row w' g vs.toArray 88 ∧ Below w.heap.size w w'

set_option maxRecDepth 100000 in
theorem kids_of_un (i op : Int) (t : TypeId) (u : Value) (w : World) : Calls Tryz.prog 148 #[.agg #[.int .i64 i, .int .i64 op, .iface t u]] w (NewT w [.iface t u] 1) := by
  have B0 := (Below.refl w.heap.size w).alloc (Nat.le_refl _) (.cells #[.int .i64 i, .int .i64 op, .iface t u] 168)
  have R1 := Row.new (w.alloc (.cells #[.int .i64 i, .int .i64 op, .iface t u] 168)) #[.iface t u] 88
  simp only [World.size_alloc] at R1
  go_enter Tryz.func148, Tryz.ntmps148
  go_wp2
  go_ret
  exact ⟨w.heap.size + 1, rfl, Nat.le_succ _, R1, B0.alloc B0.size _⟩

set_option maxRecDepth 100000 in
theorem place_of_un (i op : Int) (t : TypeId) (u : Value) (w : World) : Calls Tryz.prog 149 #[.agg #[.int .i64 i, .int .i64 op, .iface t u]] w fun r w' => r = .returned (.int .i64 i) ∧ Below w.heap.size w w' := by
  have B0 := (Below.refl w.heap.size w).alloc (Nat.le_refl _) (.cells #[.int .i64 i, .int .i64 op, .iface t u] 168)
  go_enter Tryz.func149, Tryz.ntmps149
  go_wp2
  go_ret
  exact ⟨rfl, B0⟩

set_option maxRecDepth 100000 in
theorem kids_of_bin (i op : Int) (t : TypeId) (u : Value) (t' : TypeId) (u' : Value) (w : World) : Calls Tryz.prog 150 #[.agg #[.int .i64 i, .int .i64 op, .iface t u, .iface t' u']] w (NewT w [.iface t u, .iface t' u'] 2) := by
  have B0 := (Below.refl w.heap.size w).alloc (Nat.le_refl _) (.cells #[.int .i64 i, .int .i64 op, .iface t u, .iface t' u'] 170)
  have R1 := Row.new (w.alloc (.cells #[.int .i64 i, .int .i64 op, .iface t u, .iface t' u'] 170)) #[.iface t u, .iface t' u'] 88
  simp only [World.size_alloc] at R1
  go_enter Tryz.func150, Tryz.ntmps150
  go_wp2
  go_ret
  exact ⟨w.heap.size + 1, rfl, Nat.le_succ _, R1, B0.alloc B0.size _⟩

set_option maxRecDepth 100000 in
theorem place_of_bin (i op : Int) (t : TypeId) (u : Value) (t' : TypeId) (u' : Value) (w : World) : Calls Tryz.prog 151 #[.agg #[.int .i64 i, .int .i64 op, .iface t u, .iface t' u']] w fun r w' => r = .returned (.int .i64 i) ∧ Below w.heap.size w w' := by
  have B0 := (Below.refl w.heap.size w).alloc (Nat.le_refl _) (.cells #[.int .i64 i, .int .i64 op, .iface t u, .iface t' u'] 170)
  go_enter Tryz.func151, Tryz.ntmps151
  go_wp2
  go_ret
  exact ⟨rfl, B0⟩

set_option maxRecDepth 100000 in
theorem kids_of_ite (i : Int) (t : TypeId) (u : Value) (t' : TypeId) (u' : Value) (t2 : TypeId) (u2 : Value) (w : World) : Calls Tryz.prog 152 #[.agg #[.int .i64 i, .iface t u, .iface t' u', .iface t2 u2]] w (NewT w [.iface t u, .iface t' u', .iface t2 u2] 3) := by
  have B0 := (Below.refl w.heap.size w).alloc (Nat.le_refl _) (.cells #[.int .i64 i, .iface t u, .iface t' u', .iface t2 u2] 172)
  have R1 := Row.new (w.alloc (.cells #[.int .i64 i, .iface t u, .iface t' u', .iface t2 u2] 172)) #[.iface t u, .iface t' u', .iface t2 u2] 88
  simp only [World.size_alloc] at R1
  go_enter Tryz.func152, Tryz.ntmps152
  go_wp2
  go_ret
  exact ⟨w.heap.size + 1, rfl, Nat.le_succ _, R1, B0.alloc B0.size _⟩

set_option maxRecDepth 100000 in
theorem place_of_ite (i : Int) (t : TypeId) (u : Value) (t' : TypeId) (u' : Value) (t2 : TypeId) (u2 : Value) (w : World) : Calls Tryz.prog 153 #[.agg #[.int .i64 i, .iface t u, .iface t' u', .iface t2 u2]] w fun r w' => r = .returned (.int .i64 i) ∧ Below w.heap.size w w' := by
  have B0 := (Below.refl w.heap.size w).alloc (Nat.le_refl _) (.cells #[.int .i64 i, .iface t u, .iface t' u', .iface t2 u2] 172)
  go_enter Tryz.func153, Tryz.ntmps153
  go_wp2
  go_ret
  exact ⟨rfl, B0⟩

end Go.Proofs.YtddpcehgopeklaaGreatDoor

namespace Go.Proofs.YtddpcehgopeklaaGreatDoor
open Go.RowKit
set_option linter.unusedVariables false

/-- a type and no error, or an error -/
def TaAns (o : Option Int) (r : Ending) : Prop := (∃ t, o = some t ∧ r = .returned (.tuple #[.int .i64 t, .nilIface])) ∨ (o = none ∧ ∃ z t u, r = .returned (.tuple #[.int .i64 z, .iface t u]))

/-- the sentinels that the checker gives -/
structure Eok (w : World) (aN aA : Addr) : Prop where
  n : 9 < w.heap.size
  nc : w.cell? ⟨9, 0, none⟩ = some (.iface 224 (.pointer (some aN)))
  a : 10 < w.heap.size
  ac : w.cell? ⟨10, 0, none⟩ = some (.iface 224 (.pointer (some aA)))

theorem Eok.below {w w' : World} {aN aA : Addr} {B : Nat} (h : Eok w aN aA) (hb : Below B w w') (hB : w.heap.size ≤ B) : Eok w' aN aA :=
  ⟨Nat.lt_of_lt_of_le h.n hb.size, (hb.cell (p := ⟨9, 0, none⟩) (Nat.lt_of_lt_of_le h.n hB)).trans h.nc, Nat.lt_of_lt_of_le h.a hb.size, (hb.cell (p := ⟨10, 0, none⟩) (Nat.lt_of_lt_of_le h.a hB)).trans h.ac⟩

set_option maxHeartbeats 1600000 in
set_option maxRecDepth 100000 in
theorem above_int (cb : Nat) (i n : Int) (ka : Option Addr) (kn kc : Nat) (ks : List Int) (aT aN aA : Addr) (w : World) (hV : Vok w aT) (hE : Eok w aN aA) (hK : Ints w ka kn kc ks) :
    Calls Tryz.prog 113 #[.pointer (some ⟨cb, 0, none⟩), .iface 198 (.agg #[.int .i64 i, .int .i64 n]), .slice ka kn kc] w fun r w' => TaAns (some 2) r ∧ Below w.heap.size w w' := by
  have a0 := ta_hit (T := 198) Tryz.underlying198 88
  have B0 := (Below.refl w.heap.size w).alloc (Nat.le_refl _) (.cells #[.int .i64 i, .int .i64 n] 198)
  clear hV hE hK
  go_enter Tryz.func113, Tryz.ntmps113
  go_wp2_with fail
  exact bodyPost_ret (v := .tuple #[.int .i64 2, .nilIface]) (by simp [results, Tryz.results113, go_sem]) rfl ⟨.inl ⟨_, rfl, rfl⟩, B0⟩

set_option maxHeartbeats 1600000 in
set_option maxRecDepth 100000 in
theorem above_text (cb : Nat) (i : Int) (s : ByteArray) (ka : Option Addr) (kn kc : Nat) (ks : List Int) (aT aN aA : Addr) (w : World) (hV : Vok w aT) (hE : Eok w aN aA) (hK : Ints w ka kn kc ks) :
    Calls Tryz.prog 113 #[.pointer (some ⟨cb, 0, none⟩), .iface 200 (.agg #[.int .i64 i, .string s]), .slice ka kn kc] w fun r w' => TaAns (some 3) r ∧ Below w.heap.size w w' := by
  have a0 := ta_miss (S := 200) (T := 198) Tryz.underlying198 Tryz.zeroValue198 (by decide) 88
  have a1 := ta_hit (T := 200) Tryz.underlying200 88
  have B0 := (Below.refl w.heap.size w).alloc (Nat.le_refl _) (.cells #[.int .i64 i, .string s] 200)
  clear hV hE hK
  go_enter Tryz.func113, Tryz.ntmps113
  go_wp2_with fail
  exact bodyPost_ret (v := .tuple #[.int .i64 3, .nilIface]) (by simp [results, Tryz.results113, go_sem]) rfl ⟨.inl ⟨_, rfl, rfl⟩, B0⟩

set_option maxHeartbeats 1600000 in
set_option maxRecDepth 100000 in
theorem above_bool (cb : Nat) (i : Int) (b : Bool) (ka : Option Addr) (kn kc : Nat) (ks : List Int) (aT aN aA : Addr) (w : World) (hV : Vok w aT) (hE : Eok w aN aA) (hK : Ints w ka kn kc ks) :
    Calls Tryz.prog 113 #[.pointer (some ⟨cb, 0, none⟩), .iface 202 (.agg #[.int .i64 i, .bool b]), .slice ka kn kc] w fun r w' => TaAns (some 1) r ∧ Below w.heap.size w w' := by
  have a0 := ta_miss (S := 202) (T := 198) Tryz.underlying198 Tryz.zeroValue198 (by decide) 88
  have a1 := ta_miss (S := 202) (T := 200) Tryz.underlying200 Tryz.zeroValue200 (by decide) 88
  have a2 := ta_hit (T := 202) Tryz.underlying202 88
  have B0 := (Below.refl w.heap.size w).alloc (Nat.le_refl _) (.cells #[.int .i64 i, .bool b] 202)
  clear hV hE hK
  go_enter Tryz.func113, Tryz.ntmps113
  go_wp2_with fail
  exact bodyPost_ret (v := .tuple #[.int .i64 1, .nilIface]) (by simp [results, Tryz.results113, go_sem]) rfl ⟨.inl ⟨_, rfl, rfl⟩, B0⟩

set_option maxHeartbeats 1600000 in
set_option maxRecDepth 100000 in
theorem above_set (cb : Nat) (i : Int) (a : Option Addr) (n c : Nat) (ka : Option Addr) (kn kc : Nat) (ks : List Int) (aT aN aA : Addr) (w : World) (hV : Vok w aT) (hE : Eok w aN aA) (hK : Ints w ka kn kc ks) :
    Calls Tryz.prog 113 #[.pointer (some ⟨cb, 0, none⟩), .iface 204 (.agg #[.int .i64 i, .slice a n c]), .slice ka kn kc] w fun r w' => TaAns (some 4) r ∧ Below w.heap.size w w' := by
  have a0 := ta_miss (S := 204) (T := 198) Tryz.underlying198 Tryz.zeroValue198 (by decide) 88
  have a1 := ta_miss (S := 204) (T := 200) Tryz.underlying200 Tryz.zeroValue200 (by decide) 88
  have a2 := ta_miss (S := 204) (T := 202) Tryz.underlying202 Tryz.zeroValue202 (by decide) 88
  have a3 := ta_hit (T := 204) Tryz.underlying204 88
  have B0 := (Below.refl w.heap.size w).alloc (Nat.le_refl _) (.cells #[.int .i64 i, .slice a n c] 204)
  clear hV hE hK
  go_enter Tryz.func113, Tryz.ntmps113
  go_wp2_with fail
  exact bodyPost_ret (v := .tuple #[.int .i64 4, .nilIface]) (by simp [results, Tryz.results113, go_sem]) rfl ⟨.inl ⟨_, rfl, rfl⟩, B0⟩

end Go.Proofs.YtddpcehgopeklaaGreatDoor
