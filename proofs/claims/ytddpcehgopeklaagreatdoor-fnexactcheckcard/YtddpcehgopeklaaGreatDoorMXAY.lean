/-
  ECG, JR, ECH0. Own work.
-/
import Derived.Test.YtddpcehgopeklaaGreatDoorMXAX
import Derived.Test.YtddpcehgopeklaaGreatDoorMXAT
namespace Go.Proofs.YtddpcehgopeklaaGreatDoor
open Go.RowKit
set_option linter.unusedVariables false

/-- the attributes -/
def attD : List Dc := [⟨⟨#[99, 108, 105, 101, 110, 116]⟩, false, 0, 3⟩, ⟨⟨#[117, 115, 101, 114]⟩, false, 1, 3⟩, ⟨⟨#[108, 101, 118, 101, 108]⟩, false, 2, 2⟩, ⟨⟨#[110, 111, 119]⟩, false, 3, 2⟩, ⟨⟨#[97, 115, 107, 101, 100]⟩, false, 4, 4⟩, ⟨⟨#[97, 103, 114, 101, 101, 100]⟩, false, 5, 4⟩]

theorem attD_new : ∀ k, k < 6 → fnd (attD.take k) (attN.getD k ⟨#[]⟩) = none
  | 0, _ => by simp [fnd]
  | 1, _ => by simp [fnd, attD, attN]
  | 2, _ => by simp [fnd, attD, attN]
  | 3, _ => by simp [fnd, attD, attN]
  | 4, _ => by simp [fnd, attD, attN]
  | 5, _ => by simp [fnd, attD, attN]
  | n + 6, h => absurd h (by omega)

theorem attD_take : ∀ k, k < 6 → attD.take (k + 1) = attD.take k ++ [⟨attN.getD k ⟨#[]⟩, false, k, attrTy k⟩]
  | 0, _ => rfl
  | 1, _ => rfl
  | 2, _ => rfl
  | 3, _ => rfl
  | 4, _ => rfl
  | 5, _ => rfl
  | n + 6, h => absurd h (by omega)

theorem upd_D2 (w : World) (mb : Nat) (K : List Dc) (s : ByteArray) (b : Bool) (n t : Int) (h : MapD w mb K) (hs : fnd K s = none) :
    ∃ w', (Instr.mapUpdate 94 (.map (some mb)) (.string s) (.agg #[.bool b, .int .i64 n, .int .i64 t])).run Tryz.prog w = .ok () w' ∧ MapD w' mb (K ++ [⟨s, b, n, t⟩]) ∧ (∀ k, k ≠ mb → w'.heap[k]? = w.heap[k]?) ∧ w'.heap.size = w.heap.size ∧ ∀ B, B ≤ mb → Below B w w' :=
  upd_D w mb K ⟨s, b, n, t⟩ h hs

/-- the checker with its declarations -/
structure Cx (B cb mb : Nat) (D : List Dc) (ts tt : List Int) (lv tv : Value) (w : World) : Prop where
  C : Ck B cb ts tt (.map (some mb)) lv tv w
  M : MapD w mb D
  low : B ≤ mb

theorem Cx.ne {B cb mb : Nat} {D : List Dc} {ts tt : List Int} {lv tv : Value} {w : World} (h : Cx B cb mb D ts tt lv tv w) : mb ≠ cb ∧ lv.ownBlock ≠ some mb ∧ tv.ownBlock ≠ some mb :=
  ⟨h.M.row_ne h.C.row, h.M.own_ne h.C.lets, h.M.own_ne h.C.types⟩

theorem Cx.of_kt {B cb mb : Nat} {D : List Dc} {ts tt tt' : List Int} {lv tv tv' : Value} {w w' : World} (h : Cx B cb mb D ts tt lv tv w) (C' : Ck B cb ts tt' (.map (some mb)) lv tv' w') (K : Kt B cb tv w tv' w') : Cx B cb mb D ts tt' lv tv' w' :=
  ⟨C', h.M.kt h.C K, h.low⟩

theorem Cx.below {B cb mb : Nat} {D : List Dc} {ts tt : List Int} {lv tv : Value} {w w' : World} (h : Cx B cb mb D ts tt lv tv w) (hb : Below w.heap.size w w') : Cx B cb mb D ts tt lv tv w' :=
  ⟨h.C.below hb, h.M.keep (hb.block mb h.M.lt), h.low⟩

/-- what declare answers -/
def DxAns (B cb mb : Nat) (D : List Dc) (ts tt : List Int) (lv tv : Value) (nm : ByteArray) (ty : Int) (aA : Addr) (w : World) (r : Ending) (w' : World) : Prop :=
  (fnd D nm = none ∧ r = .returned .nilIface ∧ ∃ lv', Cx B cb mb (D ++ [⟨nm, true, ts.length, ty⟩]) (ts ++ [ty]) tt lv' tv w' ∧ Kd B cb mb lv tv w lv' tv w') ∨ ((fnd D nm).isSome ∧ r = .returned (.iface 224 (.pointer (some aA))) ∧ Below w.heap.size w w')

set_option maxHeartbeats 1600000 in
set_option maxRecDepth 100000 in
theorem newCheckerX (aT : Addr) (w : World) (hV : Vok w aT) :
    Calls Tryz.prog 42 #[] w fun r w' => ∃ cb mb, r = .returned (.pointer (some ⟨cb, 0, none⟩)) ∧ w.heap.size ≤ mb ∧ Ck w.heap.size cb [] [] (.map (some mb)) (.slice none 0 0) (.slice none 0 0) w' ∧ MapD w' mb attD ∧ Below w.heap.size w w' := by
  have hmm := @run_makeMap Tryz.prog
  have B0 := ((Below.refl w.heap.size w).alloc (Nat.le_refl _) (.map #[] 0)).alloc (by simp) (.cells #[.map (some w.heap.size), .slice none 0 0, .slice none 0 0] 96)
  have R0 := Row.new (w.alloc (.map #[] 0)) #[.map (some w.heap.size), .slice none 0 0, .slice none 0 0] 96
  simp only [World.size_alloc] at R0
  have M0 : MapD ((w.alloc (.map #[] 0)).alloc (.cells #[.map (some w.heap.size), .slice none 0 0, .slice none 0 0] 96)) w.heap.size [] := by
    refine ⟨by simp, #[], 0, ?_, rfl⟩
    rw [Below.heap_alloc _ _ _ (by simp)]
    exact alloc_at w _
  have HC := hide (fun j => (B0.cell (p := ⟨1, j, none⟩) hV.a).trans (hV.ac j))
  have Hz := hide (show w.heap.size + 2 = ((w.alloc (.map #[] 0)).alloc (.cells #[.map (some w.heap.size), .slice none 0 0, .slice none 0 0] 96)).heap.size by simp)
  clear hV
  go_enter Tryz.func42, Tryz.ntmps42
  go_wp2_with (refine wpList_load_cells rfl 120 _ rfl 1 rfl attV _ (unhide HC) Tryz.underlying120 rfl (by kernel_rfl) ?_)
  clear HC
  go_loopw [8] (fun i wr => ∃ k : Nat, k ≤ 6 ∧ i = .int .i64 k ∧ MapD wr w.heap.size (attD.take k) ∧ Row wr (w.heap.size + 1) #[.map (some w.heap.size), .slice none 0 0, .slice none 0 0] 96 ∧ Below w.heap.size w wr) (fun i _ => 6 - (intOf i).toNat)
  case atStart => exact ⟨0, by omega, rfl, M0, R0, B0⟩
  case round =>
    clear M0 R0 B0
    obtain ⟨k, hk, rfl, M1, R1, B1⟩ := hrel
    by_cases hlt : k < 6
    · have ilt : (k : Int) < 6 := by omega
      have HR := hide (attV_row k hlt)
      have Hnew := hide (attD_new k hlt)
      have Htk := hide (attD_take k hlt)
      have Hlt := hide hlt
      generalize attN.getD k ⟨#[]⟩ = nm at HR Hnew Htk
      generalize attrTy (k : Int) = ty at HR Htk
      have c0 : wr.cell? ⟨w.heap.size + 1, 0, none⟩ = some (.map (some w.heap.size)) := R1.cell 0
      have zl := R1.lt
      have ml := M1.lt
      have M2 : MapD (wr.alloc (.cells #[.string nm, .int .i64 ty] 119)).drew w.heap.size (attD.take k) := M1.keep (Below.heap_alloc _ _ _ ml)
      have R2 := R1.alloc (.cells #[.string nm, .int .i64 ty] 119)
      have B2 := B1.alloc B1.size (.cells #[.string nm, .int .i64 ty] 119)
      clear hlt
      go_wp2_with (refine wpList_index_agg rfl 120 _ _ rfl attV rfl k rfl 6 119 Tryz.underlying120 (unhide Hlt) _ Tryz.underlying119 rfl 2 (by kernel_rfl) _ (unhide HR) ?_)
      obtain ⟨w3, hup, M3, kp, hsz, bel⟩ := upd_D2 _ w.heap.size (attD.take k) nm false k ty M2 (unhide Hnew)
      have R3 : Row w3 (w.heap.size + 1) #[.map (some w.heap.size), .slice none 0 0, .slice none 0 0] 96 := ⟨(kp _ (by omega)).trans R2.out⟩
      have B3 := B2.drew.trans (bel _ (Nat.le_refl _))
      go_region
      all_goals
        go_wp2_with fail
        go_roundw
        case rel => exact ⟨k + 1, unhide Hlt, by go_num, by rw [unhide Htk]; exact M3, R3, B3⟩
        case measure => have := unhide Hlt; simp [intOf]; omega
    · have e : k = 6 := by omega
      subst e
      go_wp2_with fail
      go_ret
      exact ⟨_, _, rfl, Nat.le_refl _, ⟨R1, World.ownsRow_nil _ _ _ _, World.ownsRow_nil _ _ _ _, Nat.le_succ _, fun q hq => by cases hq⟩, M1, B1⟩

set_option maxHeartbeats 1600000 in
set_option maxRecDepth 100000 in
theorem declareX (B cb mb : Nat) (D : List Dc) (ts tt : List Int) (lv tv : Value) (nm : ByteArray) (ty : Int) (aN aA : Addr) (w : World) (hE : Eok w aN aA) (h : Cx B cb mb D ts tt lv tv w) (hl : ts.length ≤ 1000) :
    Calls Tryz.prog 94 #[.pointer (some ⟨cb, 0, none⟩), .string nm, .int .i64 ty] w (DxAns B cb mb D ts tt lv tv nm ty aA w) := by
  have c0 : w.cell? ⟨cb, 0, none⟩ = some (.map (some mb)) := h.C.row.cell 0
  have c1 : w.cell? ⟨cb, 1, none⟩ = some lv := h.C.row.cell 1
  have ac := hE.ac
  have ha := hE.a
  have hcb := h.C.row.lt
  have hBw : B ≤ w.heap.size := by have := h.C.low; omega
  obtain ⟨ii, hii, ez0, ez1, ez2⟩ := info_parts infoI
  have hl0 := look_D w mb D nm h.M
  cases hf : fnd D nm with
  | some d =>
    have hlk : (Instr.lookup 94 (.map (some mb)) (.string nm) true).run Tryz.prog w = .ok (.tuple #[.agg #[.bool d.isLet, .int .i64 d.num, .int .i64 d.typ], .bool true]) w := by rw [hf] at hl0; exact hl0
    clear hl0
    have HX := hide hf
    clear hf
    have B1 := (Below.refl w.heap.size w).alloc (Nat.le_refl _) (.cells #[.bool d.isLet, .int .i64 d.num, .int .i64 d.typ] 122)
    go_enter Tryz.func94, Tryz.ntmps94
    go_wp2_with fail
    go_ret
    exact .inr ⟨by rw [unhide HX]; rfl, rfl, B1⟩
  | none =>
    have hlk : (Instr.lookup 94 (.map (some mb)) (.string nm) true).run Tryz.prog w = .ok (.tuple #[.agg #[.bool false, .int .i64 0, .int .i64 0], .bool false]) w := by rw [hf] at hl0; exact hl0
    clear hl0
    have HX := hide hf
    clear hf
    obtain ⟨x, kx, rfl, _⟩ := owns_form2 h.C.lets
    have hml := h.M.lt
    go_enter Tryz.func94, Tryz.ntmps94
    go_wp2_with fail
    have W0E : ∃ W0, W0 = w.alloc (.cells #[.bool false, .int .i64 0, .int .i64 0] 122) := ⟨_, rfl⟩
    obtain ⟨W0, hW0⟩ := W0E
    have B0 : Below w.heap.size w W0 := by rw [hW0]; exact (Below.refl _ _).alloc (Nat.le_refl _) _
    rw [← hW0]
    clear hW0 c0 c1 hlk ac ha
    have H1 := (h.below B0).below (Below.drew (Below.refl _ _) : Below W0.heap.size W0 W0.drew)
    have D1 := B0.trans ((Below.drew (Below.refl _ _) : Below W0.heap.size W0 W0.drew).mono B0.size)
    have hne := H1.ne
    have d0 : W0.cell? ⟨cb, 0, none⟩ = some (.map (some mb)) := (h.below B0).C.row.cell 0
    have d1 : W0.cell? ⟨cb, 1, none⟩ = some (.slice x ts.length kx) := (h.below B0).C.row.cell 1
    obtain ⟨w3, hup, M3, kp, hsz, bel⟩ := upd_D2 W0.drew mb D nm true ts.length ty H1.M (unhide HX)
    have C3 : Ck B cb ts tt (.map (some mb)) (.slice x ts.length kx) tv w3 := ⟨⟨(kp cb hne.1.symm).trans H1.C.row.out⟩, owns_blocks2 H1.C.lets (fun q hq => kp q (fun e => hne.2.1 (e ▸ hq))), owns_blocks2 H1.C.types (fun q hq => kp q (fun e => hne.2.2 (e ▸ hq))), H1.C.low, H1.C.apart⟩
    have e1 : w3.cell? ⟨cb, 1, none⟩ = some (.slice x ts.length kx) := C3.row.cell 1
    have D3 := (D1.mono hBw).trans (bel B h.low)
    have z3 := D3.size
    have hcb3 := C3.row.lt
    clear hsz
    go_region
    all_goals
      go_wp2_with (at_builtin; refine wpList_append_lies _ rfl _ _ 29 rfl B 3 ii (.int .i64 0) 1 8 Tryz.underlying29 hii ez0 ez1 ez2 rfl (by decide) _ _ _ rfl (World.ownsRow.alloc C3.lets _) ⟨w3.heap.size, 0, none⟩ 1 1 [.int .i64 ty] rfl rfl ?c1 ?c2 (by decide) ?c3 ?c4 ?c5 (w3.heap.size + 1) (by simp) ?_)
      case c1 => exact one_cell _ _ _ _ (by simp)
      case c2 => intro u hu; simp at hu; subst hu; rfl
      case c3 => unfold maxLen; omega
      case c4 => omega
      case c5 => simp; omega
      intro g cap w4 O4 hgrow hat hgl
      obtain ⟨R4, C4, B4, kb4⟩ := C3.pushL (by omega) O4 hgrow hat
      have f1 : w4.cell? ⟨cb, 1, none⟩ = some (.slice x ts.length kx) := R4.cell 1
      have ff := R4.frozen 1
      have M4 := M3.keep (kb4 mb M3.lt hne.1 (fun e => hne.2.1 e.symm))
      go_wp2_with fail
      go_ret
      refine .inl ⟨unhide HX, rfl, _, ⟨C4, M4, h.low⟩, ⟨D3.trans B4, fun k h1 h2 h3 h4 h5 => ?_, fun q hq => ?_, fun q hq => .inl hq⟩⟩
      · exact (kb4 k (by omega) h2 h4).trans ((kp k h3).trans (D1.block k h1))
      · have : g = q := by simpa [Value.ownBlock] using hq
        subst this
        rcases hat with hat | hat
        · exact .inl hat
        · right; omega

end Go.Proofs.YtddpcehgopeklaaGreatDoor

namespace Go.Proofs.YtddpcehgopeklaaGreatDoor
open Go.RowKit
set_option linter.unusedVariables false

def formV (v : Value) : Prop := v = .nilIface ∨ ∃ t u, v = .iface t u

end Go.Proofs.YtddpcehgopeklaaGreatDoor

namespace Go.Proofs.YtddpcehgopeklaaGreatDoor
open Go.RowKit
set_option linter.unusedVariables false

/-- names, types of the lets and types of the nodes so far -/
abbrev Cs := List Dc × List Int × List Int

/-- the checker goes on, or there is an error -/
def GoX (aT aN aA : Addr) (B cb mb : Nat) (lv tv : Value) (o : Except (Int × Int) Cs) (w : World) (r : Ending) (w' : World) : Prop :=
  (∃ D ts tt lv' tv', o = .ok (D, ts, tt) ∧ r = .returned .nilIface ∧ Cx B cb mb D ts tt lv' tv' w' ∧ Kd B cb mb lv tv w lv' tv' w') ∨ (∃ f g, o = .error f ∧ r = .returned (.iface 97 (.pointer (some ⟨g, 0, none⟩))) ∧ ErO aT aN aA f g w' ∧ Below B w w')

/-- a let behind its tree -/
def letX (D : List Dc) (ts tt : List Int) (nm : ByteArray) (i : Int) (ot : Rs) (ys : List Int) : Except (Int × Int) Cs := match ot with
  | .ok t => if (fnd D nm).isSome then .error (8, i) else .ok (D ++ [⟨nm, true, ts.length, t⟩], ts ++ [t], tt ++ ys)
  | .error f => .error f

/-- a tree of a type that is asked for -/
def whenX (c : Int) (D : List Dc) (ts tt : List Int) (i : Int) (ot : Rs) (ys : List Int) : Except (Int × Int) Cs := match ot with
  | .ok t => if t = c then .ok (D, ts, tt ++ ys) else .error (9, i)
  | .error f => .error f

set_option maxRecDepth 100000 in
theorem conditionX_none (aT aN aA : Addr) (B cb mb : Nat) (D : List Dc) (ts tt : List Int) (lv tv : Value) (j : Int) (kd : Int) (nm : ByteArray) (gv : Value) (hg : formV gv) (w : World) (h : Cx B cb mb D ts tt lv tv w) :
    Calls Tryz.prog 66 #[.pointer (some ⟨cb, 0, none⟩), .agg #[.int .i64 j, .int .i64 kd, .string nm, .nilIface, gv]] w (GoX aT aN aA B cb mb lv tv (.ok (D, ts, tt)) w) := by
  have hBw : B ≤ w.heap.size := by have := h.C.low; have := h.C.row.lt; omega
  rcases hg with rfl | ⟨tg, ug, rfl⟩
  · have B0 := (Below.refl w.heap.size w).alloc (Nat.le_refl _) (.cells #[.int .i64 j, .int .i64 kd, .string nm, .nilIface, .nilIface] 90)
    go_enter Tryz.func66, Tryz.ntmps66
    go_wp2_with fail
    go_ret
    exact .inl ⟨_, _, _, _, _, rfl, rfl, h.below B0, Kd.of_all B0 hBw⟩
  · have B0 := (Below.refl w.heap.size w).alloc (Nat.le_refl _) (.cells #[.int .i64 j, .int .i64 kd, .string nm, .nilIface, .iface tg ug] 90)
    go_enter Tryz.func66, Tryz.ntmps66
    go_wp2_with fail
    go_ret
    exact .inl ⟨_, _, _, _, _, rfl, rfl, h.below B0, Kd.of_all B0 hBw⟩

set_option maxRecDepth 100000 in
theorem grantX_none (aT aN aA : Addr) (B cb mb : Nat) (D : List Dc) (ts tt : List Int) (lv tv : Value) (j : Int) (kd : Int) (nm : ByteArray) (gv : Value) (hg : formV gv) (w : World) (h : Cx B cb mb D ts tt lv tv w) :
    Calls Tryz.prog 67 #[.pointer (some ⟨cb, 0, none⟩), .agg #[.int .i64 j, .int .i64 kd, .string nm, gv, .nilIface]] w (GoX aT aN aA B cb mb lv tv (.ok (D, ts, tt)) w) := by
  have hBw : B ≤ w.heap.size := by have := h.C.low; have := h.C.row.lt; omega
  rcases hg with rfl | ⟨tg, ug, rfl⟩
  · have B0 := (Below.refl w.heap.size w).alloc (Nat.le_refl _) (.cells #[.int .i64 j, .int .i64 kd, .string nm, .nilIface, .nilIface] 90)
    go_enter Tryz.func67, Tryz.ntmps67
    go_wp2_with fail
    go_ret
    exact .inl ⟨_, _, _, _, _, rfl, rfl, h.below B0, Kd.of_all B0 hBw⟩
  · have B0 := (Below.refl w.heap.size w).alloc (Nat.le_refl _) (.cells #[.int .i64 j, .int .i64 kd, .string nm, .iface tg ug, .nilIface] 90)
    go_enter Tryz.func67, Tryz.ntmps67
    go_wp2_with fail
    go_ret
    exact .inl ⟨_, _, _, _, _, rfl, rfl, h.below B0, Kd.of_all B0 hBw⟩

end Go.Proofs.YtddpcehgopeklaaGreatDoor
