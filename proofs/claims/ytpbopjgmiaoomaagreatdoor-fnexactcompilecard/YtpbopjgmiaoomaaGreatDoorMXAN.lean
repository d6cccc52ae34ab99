/-
  JY, JZ, JP, JQ. Own work.
-/
import Derived.Test.YtpbopjgmiaoomaaGreatDoorJX
import Derived.MapKept
import Derived.Maps.Own
import Derived.Maps.OwnOps
import Derived.Deep.RegionLaw
namespace Go.Proofs.YtpbopjgmiaoomaaGreatDoor
open Go.RowKit
set_option linter.unusedVariables false

theorem tyOp1_in (op a : Int) : inTy (nz (tyOp op [a])) := fun t h => by
  obtain ⟨h1, h2⟩ := nz_some h
  rw [tyOp] at h1
  repeat' split at h1
  all_goals omega

theorem tyOp2_in (op a b : Int) : inTy (nz (tyOp op [a, b])) := fun t h => by
  obtain ⟨h1, h2⟩ := nz_some h
  rw [tyOp] at h1
  clear h
  repeat' split at h1
  all_goals
    subst h1
    first
      | decide
      | exact absurd rfl h2

theorem tyOp3_in (a b c : Int) (hb : 1 ≤ b ∧ b ≤ 4) : inTy (nz (tyOp 27 [a, b, c])) := fun t h => by
  obtain ⟨h1, h2⟩ := nz_some h
  rw [tyOp] at h1
  repeat' split at h1
  all_goals omega

theorem tyE_un (ts : List Int) (i op : Int) (k : Ex) : tyE ts (.un i op k) = (tyE ts k).bind fun a1 => nz (tyOp op [a1]) := by rw [tyE]; cases tyE ts k <;> rfl
theorem tyE_bin (ts : List Int) (i op : Int) (k l : Ex) : tyE ts (.bin i op k l) = (tyE ts k).bind fun a1 => (tyE ts l).bind fun a2 => nz (tyOp op [a1, a2]) := by rw [tyE]; cases tyE ts k <;> cases tyE ts l <;> rfl
theorem tyE_ite (ts : List Int) (i : Int) (k l m : Ex) : tyE ts (.ite i k l m) = (tyE ts k).bind fun a1 => (tyE ts l).bind fun a2 => (tyE ts m).bind fun a3 => nz (tyOp 27 [a1, a2, a3]) := by rw [tyE]; cases tyE ts k <;> cases tyE ts l <;> cases tyE ts m <;> rfl

theorem tyE_in {ts : List Int} (h : ∀ t ∈ ts, 1 ≤ t ∧ t ≤ 4) : ∀ (e : Ex), inTy (tyE ts e)
  | .int .., a, k => by cases k; omega
  | .text .., a, k => by cases k; omega
  | .bool .., a, k => by cases k; omega
  | .set .., a, k => by cases k; omega
  | .name .., a, k => by cases k
  | .attr _ n, a, k => by cases k; exact attrTy_pos n
  | .lett _ n, a, k => by
    rw [tyE] at k
    split at k
    · exact h a (List.mem_of_getElem? k)
    · cases k
  | .un i op e, a, k => by
    rw [tyE_un] at k
    cases he : tyE ts e with
    | none => rw [he] at k; cases k
    | some b => rw [he] at k; exact tyOp1_in op b a k
  | .bin i op e f, a, k => by
    rw [tyE_bin] at k
    cases he : tyE ts e with
    | none => rw [he] at k; cases k
    | some b =>
      rw [he] at k
      cases hf : tyE ts f with
      | none => rw [hf] at k; cases k
      | some c => rw [hf] at k; exact tyOp2_in op b c a k
  | .ite i e f g, a, k => by
    rw [tyE_ite] at k
    cases he : tyE ts e with
    | none => rw [he] at k; cases k
    | some b =>
      rw [he] at k
      cases hf : tyE ts f with
      | none => rw [hf] at k; cases k
      | some c =>
        rw [hf] at k
        cases hg : tyE ts g with
        | none => rw [hg] at k; cases k
        | some d => rw [hg] at k; exact tyOp3_in b c d (tyE_in h f c hf) a k

theorem ints_noneJ (w : World) : Ints w none 0 0 [] := ⟨rfl, by decide, fun j h => absurd h (by simp)⟩

theorem typeOf_any (B cb : Nat) (ts : List Int) (mv lv : Value) (w0 : World) (aT aN aA : Addr) (hV : Vok w0 aT) (hE : Eok w0 aN aA) (hB : w0.heap.size ≤ B) (hts : ∀ t ∈ ts, 1 ≤ t ∧ t ≤ 4) (hl : ts.length ≤ 1048576) : ∀ (e : Ex), e.typed → TyV B cb ts mv lv w0 e.val (tyE ts e) (tysE ts e)
  | .int i n, _ => typeOf_leaf B cb ts mv lv w0 _ _ i _ (kids_int i n) (place_int i n) (hide fun tt tv w hw hC => above_int cb i n none 0 0 [] aT aN aA w (hV.below hw hB) (hE.below hw hB) (ints_noneJ w))
  | .text i s, _ => typeOf_leaf B cb ts mv lv w0 _ _ i _ (kids_text i s) (place_text i s) (hide fun tt tv w hw hC => above_text cb i s none 0 0 [] aT aN aA w (hV.below hw hB) (hE.below hw hB) (ints_noneJ w))
  | .bool i b, _ => typeOf_leaf B cb ts mv lv w0 _ _ i _ (kids_bool i b) (place_bool i b) (hide fun tt tv w hw hC => above_bool cb i b none 0 0 [] aT aN aA w (hV.below hw hB) (hE.below hw hB) (ints_noneJ w))
  | .set i a n c ss, _ => typeOf_leaf B cb ts mv lv w0 _ _ i _ (kids_set i a n c) (place_set i a n c) (hide fun tt tv w hw hC => above_set cb i a n c none 0 0 [] aT aN aA w (hV.below hw hB) (hE.below hw hB) (ints_noneJ w))
  | .name .., h => absurd h id
  | .attr i n, h => typeOf_leaf B cb ts mv lv w0 _ _ i _ (kids_attr i n) (place_attr i n) (hide fun tt tv w hw hC => above_attr cb i n none 0 0 [] aT aN aA w (hV.below hw hB) (hE.below hw hB) (ints_noneJ w) h)
  | .lett i n, _ => typeOf_leaf B cb ts mv lv w0 _ _ i _ (kids_lett i n) (place_lett i n) (hide fun tt tv w hw hC => by
      obtain ⟨x, c, rfl, _⟩ := owns_form2 hC.lets
      exact above_lett cb i n x ts.length c ts none 0 0 [] aT aN aA w (hV.below hw hB) (hE.below hw hB) (ints_noneJ w) (hC.row.cell 1) hC.row.lt (ints_of_row hC.lets hl))
  | .un i op k, h => by
    have ih := typeOf_any B cb ts mv lv w0 aT aN aA hV hE hB hts hl k h.2
    obtain ⟨t, u, hv⟩ := k.form
    rw [hv] at ih
    rw [Ex.val, hv, tysE, tyE_un]
    exact typeOf_un B cb ts mv lv w0 i op (fun ks => nz (tyOp op ks)) t u _ _ (tyE_in hts k) (hide ih) (hide fun tt tv w ka kc a hw hC hI ha => above_un cb i op t u ka 1 kc a aT aN aA w (hV.below hw hB) (hE.below hw hB) hI h.1 ha)
  | .bin i op k l, h => by
    have ih1 := typeOf_any B cb ts mv lv w0 aT aN aA hV hE hB hts hl k h.2.1
    have ih2 := typeOf_any B cb ts mv lv w0 aT aN aA hV hE hB hts hl l h.2.2
    obtain ⟨t, u, hv⟩ := k.form
    obtain ⟨t', u', hv'⟩ := l.form
    rw [hv] at ih1
    rw [hv'] at ih2
    rw [Ex.val, hv, hv', tysE, tyE_bin]
    exact typeOf_bin B cb ts mv lv w0 i op (fun ks => nz (tyOp op ks)) t u _ _ (tyE_in hts k) (hide ih1) t' u' _ _ (tyE_in hts l) (hide ih2) (hide fun tt tv w ka kc a b hw hC hI ha hb => above_bin cb i op t u t' u' ka 2 kc a b aT aN aA w (hV.below hw hB) (hE.below hw hB) hI h.1 ha hb)
  | .ite i k l m, h => by
    have ih1 := typeOf_any B cb ts mv lv w0 aT aN aA hV hE hB hts hl k h.1
    have ih2 := typeOf_any B cb ts mv lv w0 aT aN aA hV hE hB hts hl l h.2.1
    have ih3 := typeOf_any B cb ts mv lv w0 aT aN aA hV hE hB hts hl m h.2.2
    obtain ⟨t, u, hv⟩ := k.form
    obtain ⟨t', u', hv'⟩ := l.form
    obtain ⟨t2, u2, hv2⟩ := m.form
    rw [hv] at ih1
    rw [hv'] at ih2
    rw [hv2] at ih3
    rw [Ex.val, hv, hv', hv2, tysE, tyE_ite]
    exact typeOf_ite B cb ts mv lv w0 i (fun ks => nz (tyOp 27 ks)) t u _ _ (tyE_in hts k) (hide ih1) t' u' _ _ (tyE_in hts l) (hide ih2) t2 u2 _ _ (tyE_in hts m) (hide ih3) (hide fun tt tv w ka kc a b d hw hC hI ha hb hd => above_ite cb i t u t' u' t2 u2 ka 3 kc a b d aT aN aA w (hV.below hw hB) (hE.below hw hB) hI hb)

end Go.Proofs.YtpbopjgmiaoomaaGreatDoor

namespace Go.Proofs.YtpbopjgmiaoomaaGreatDoor
open Go.RowKit
set_option linter.unusedVariables false

/-- a map whose keys are these names -/
def MapK (w : World) (mb : Nat) (ns : List ByteArray) : Prop := ∃ (es : Array MapEntry) (cl : Nat), w.heap[mb]? = some (.map es cl) ∧ es.toList.map (·.key) = ns.map Value.string ∧ ∀ m ∈ es.toList, ∃ b n t, m.val = .agg #[.bool b, .int .i64 n, .int .i64 t]

theorem MapK.keep {w w' : World} {mb : Nat} {ns : List ByteArray} (h : MapK w mb ns) (hb : w'.heap[mb]? = w.heap[mb]?) : MapK w' mb ns := by
  obtain ⟨es, cl, h1, h2, h3⟩ := h
  exact ⟨es, cl, hb.trans h1, h2, h3⟩

theorem MapK.lt {w : World} {mb : Nat} {ns : List ByteArray} (h : MapK w mb ns) : mb < w.heap.size := by
  obtain ⟨es, cl, h1, _⟩ := h
  exact (Array.getElem?_eq_some_iff.1 h1).1

theorem keys_of {es : Array MapEntry} {ns : List ByteArray} (h : es.toList.map (·.key) = ns.map Value.string) : ∀ x ∈ es.toList, ∃ s ∈ ns, x.key = .string s := fun x hx => by
  have : x.key ∈ es.toList.map (·.key) := List.mem_map.2 ⟨x, hx, rfl⟩
  rw [h] at this
  obtain ⟨s, hs, e⟩ := List.mem_map.1 this
  exact ⟨s, hs, e.symm⟩

theorem look_yes (w : World) (mb : Nat) (ns : List ByteArray) (s : ByteArray) (h : MapK w mb ns) (hs : s ∈ ns) :
    ∃ b n t, (Instr.lookup 116 (.map (some mb)) (.string s) true).run Tryz.prog w = .ok (.tuple #[.agg #[.bool b, .int .i64 n, .int .i64 t], .bool true]) w := by
  obtain ⟨es, cl, h1, h2, h3⟩ := h
  have hk : ∀ x ∈ es.toList, MapKept.IsKey .string x.key := fun x hx => by
    obtain ⟨s, _, e⟩ := keys_of h2 x hx
    rw [e]; trivial
  rcases MapKept.findNow_spec (d := .string) (k := .string s) trivial es.toList 0 hk with ⟨f1, f2⟩ | ⟨j, e, f1, f2, f3⟩
  · exfalso
    have : Value.string s ∈ es.toList.map (·.key) := by rw [h2]; exact List.mem_map.2 ⟨s, hs, rfl⟩
    obtain ⟨x, hx, ex⟩ := List.mem_map.1 this
    exact f2 x hx ex
  · have hm : e ∈ es.toList := List.mem_of_getElem? f2
    obtain ⟨b, n, t, ev⟩ := h3 e hm
    refine ⟨b, n, t, ?_⟩
    rw [ev] at f1
    simp [Instr.lookup, run_underlying Tryz.underlying116, MapKept.run_getObj_map h1, MapKept.run_checkKey Tryz.underlying9 (k := .string s) trivial, MapKept.run_findKey Tryz.underlying9 f1]

theorem look_no (w : World) (mb : Nat) (ns : List ByteArray) (s : ByteArray) (h : MapK w mb ns) (hs : s ∉ ns) :
    ∃ b n t, (Instr.lookup 116 (.map (some mb)) (.string s) true).run Tryz.prog w = .ok (.tuple #[.agg #[.bool b, .int .i64 n, .int .i64 t], .bool false]) w := by
  obtain ⟨es, cl, h1, h2, h3⟩ := h
  have hk : ∀ x ∈ es.toList, MapKept.IsKey .string x.key := fun x hx => by
    obtain ⟨s, _, e⟩ := keys_of h2 x hx
    rw [e]; trivial
  rcases MapKept.findNow_spec (d := .string) (k := .string s) trivial es.toList 0 hk with ⟨f1, f2⟩ | ⟨j, e, f1, f2, f3⟩
  · refine ⟨false, 0, 0, ?_⟩
    simp [Instr.lookup, run_underlying Tryz.underlying116, MapKept.run_getObj_map h1, MapKept.run_checkKey Tryz.underlying9 (k := .string s) trivial, MapKept.run_findKey Tryz.underlying9 f1, Tryz.zeroValue148]
  · exfalso
    have hm : e ∈ es.toList := List.mem_of_getElem? f2
    obtain ⟨s', hs', e'⟩ := keys_of h2 e hm
    rw [f3] at e'
    cases e'
    exact hs hs'

theorem upd_run (w : World) (mb : Nat) (ns : List ByteArray) (s : ByteArray) (b : Bool) (n t : Int) (h : MapK w mb ns) (hs : s ∉ ns) :
    ∃ w', (Instr.mapUpdate 116 (.map (some mb)) (.string s) (.agg #[.bool b, .int .i64 n, .int .i64 t])).run Tryz.prog w = .ok () w' ∧ MapK w' mb (ns ++ [s]) ∧ (∀ k, k ≠ mb → w'.heap[k]? = w.heap[k]?) ∧ w'.heap.size = w.heap.size ∧ ∀ B, B ≤ mb → Below B w w' := by
  obtain ⟨es, cl, h1, h2, h3⟩ := h
  have hk : ∀ x ∈ es.toList, MapKept.IsKey .string x.key := fun x hx => by
    obtain ⟨s, _, e⟩ := keys_of h2 x hx
    rw [e]; trivial
  rcases MapKept.findNow_spec (d := .string) (k := .string s) trivial es.toList 0 hk with ⟨f1, f2⟩ | ⟨j, e, f1, f2, f3⟩
  · obtain ⟨g1, g2⟩ := MapKept.heap_set (o' := .map (es.push ⟨.string s, .agg #[.bool b, .int .i64 n, .int .i64 t], cl⟩) (cl + 1)) h1
    refine ⟨{ w with heap := w.heap.setIfInBounds mb (.map (es.push ⟨.string s, .agg #[.bool b, .int .i64 n, .int .i64 t], cl⟩) (cl + 1)) }, ?_, ⟨_, _, g1, ?_, ?_⟩, g2, by simp, fun B hB => ⟨rfl, rfl, rfl, by simp, fun k hk => g2 k (by omega)⟩⟩
    · simp [Instr.mapUpdate, run_underlying Tryz.underlying116, MapKept.run_getObj_map h1, MapKept.run_checkKey Tryz.underlying9 (k := .string s) trivial, MapKept.run_findKey Tryz.underlying9 f1, MapKept.run_setObj_map _ h1]
    · simp [h2]
    · intro m hm
      simp at hm
      rcases hm with hm | rfl
      · exact h3 m (by simpa using hm)
      · exact ⟨_, _, _, rfl⟩
  · exfalso
    have hm : e ∈ es.toList := List.mem_of_getElem? f2
    obtain ⟨s', hs', e'⟩ := keys_of h2 e hm
    rw [f3] at e'
    cases e'
    exact hs hs'

end Go.Proofs.YtpbopjgmiaoomaaGreatDoor

namespace Go.Proofs.YtpbopjgmiaoomaaGreatDoor
open Go.RowKit
set_option linter.unusedVariables false

def attN : List ByteArray := [⟨#[99, 108, 105, 101, 110, 116]⟩, ⟨#[117, 115, 101, 114]⟩, ⟨#[108, 101, 118, 101, 108]⟩, ⟨#[110, 111, 119]⟩, ⟨#[97, 115, 107, 101, 100]⟩, ⟨#[97, 103, 114, 101, 101, 100]⟩]

theorem alloc_at (w : World) (o : Obj) : (w.alloc o).heap[w.heap.size]? = some o := by
  show (w.heap.push o)[w.heap.size]? = some o
  exact Array.getElem?_push_size

theorem attV_row : ∀ k, k < 6 → attV.extract (k * 2) (k * 2 + 2) = #[.string (attN.getD k ⟨#[]⟩), .int .i64 (attrTy k)]
  | 0, _ => rfl
  | 1, _ => rfl
  | 2, _ => rfl
  | 3, _ => rfl
  | 4, _ => rfl
  | 5, _ => rfl
  | n + 6, h => absurd h (by omega)

theorem attN_new : ∀ k, k < 6 → attN.getD k ⟨#[]⟩ ∉ attN.take k
  | 0, _ => by simp
  | 1, _ => by simp [attN]
  | 2, _ => by simp [attN]
  | 3, _ => by simp [attN]
  | 4, _ => by simp [attN]
  | 5, _ => by simp [attN]
  | n + 6, h => absurd h (by omega)

theorem attN_take : ∀ k, k < 6 → attN.take (k + 1) = attN.take k ++ [attN.getD k ⟨#[]⟩]
  | 0, _ => rfl
  | 1, _ => rfl
  | 2, _ => rfl
  | 3, _ => rfl
  | 4, _ => rfl
  | 5, _ => rfl
  | n + 6, h => absurd h (by omega)

set_option maxHeartbeats 1600000 in
set_option maxRecDepth 100000 in
theorem newChecker_any (aT : Addr) (w : World) (hV : Vok w aT) :
    Calls Tryz.prog 53 #[] w fun r w' => ∃ cb mb, r = .returned (.pointer (some ⟨cb, 0, none⟩)) ∧ w.heap.size ≤ mb ∧ Ck w.heap.size cb [] [] (.map (some mb)) (.slice none 0 0) (.slice none 0 0) w' ∧ MapK w' mb attN ∧ Below w.heap.size w w' := by
  have hmm := @run_makeMap Tryz.prog
  have B0 := ((Below.refl w.heap.size w).alloc (Nat.le_refl _) (.map #[] 0)).alloc (by simp) (.cells #[.map (some w.heap.size), .slice none 0 0, .slice none 0 0] 118)
  have R0 := Row.new (w.alloc (.map #[] 0)) #[.map (some w.heap.size), .slice none 0 0, .slice none 0 0] 118
  simp only [World.size_alloc] at R0
  have M0 : MapK ((w.alloc (.map #[] 0)).alloc (.cells #[.map (some w.heap.size), .slice none 0 0, .slice none 0 0] 118)) w.heap.size [] := by
    refine ⟨#[], 0, ?_, rfl, fun m hm => by simp at hm⟩
    rw [Below.heap_alloc _ _ _ (by simp)]
    exact alloc_at w _
  have HC := hide (fun j => (B0.cell (p := ⟨0, j, none⟩) hV.a).trans (hV.ac j))
  have Hz := hide (show w.heap.size + 2 = ((w.alloc (.map #[] 0)).alloc (.cells #[.map (some w.heap.size), .slice none 0 0, .slice none 0 0] 118)).heap.size by simp)
  clear hV
  go_enter Tryz.func53, Tryz.ntmps53
  go_wp2_with (refine wpList_load_cells rfl 146 _ rfl 0 rfl attV _ (unhide HC) Tryz.underlying146 rfl (by kernel_rfl) ?_)
  clear HC
  go_loopw [8] (fun i wr => ∃ k : Nat, k ≤ 6 ∧ i = .int .i64 k ∧ MapK wr w.heap.size (attN.take k) ∧ Row wr (w.heap.size + 1) #[.map (some w.heap.size), .slice none 0 0, .slice none 0 0] 118 ∧ Below w.heap.size w wr) (fun i _ => 6 - (intOf i).toNat)
  case atStart => exact ⟨0, by omega, rfl, M0, R0, B0⟩
  case round =>
    clear M0 R0 B0
    obtain ⟨k, hk, rfl, M1, R1, B1⟩ := hrel
    by_cases hlt : k < 6
    · have ilt : (k : Int) < 6 := by omega
      have HR := hide (attV_row k hlt)
      have Hnew := hide (attN_new k hlt)
      have Htk := hide (attN_take k hlt)
      have Hlt := hide hlt
      generalize attN.getD k ⟨#[]⟩ = nm at HR Hnew Htk
      generalize attrTy (k : Int) = ty at HR
      have c0 : wr.cell? ⟨w.heap.size + 1, 0, none⟩ = some (.map (some w.heap.size)) := R1.cell 0
      have zl := R1.lt
      have ml := M1.lt
      have M2 : MapK (wr.alloc (.cells #[.string nm, .int .i64 ty] 145)).drew w.heap.size (attN.take k) := M1.keep (Below.heap_alloc _ _ _ ml)
      have R2 := R1.alloc (.cells #[.string nm, .int .i64 ty] 145)
      have B2 := B1.alloc B1.size (.cells #[.string nm, .int .i64 ty] 145)
      clear hlt
      go_wp2_with (refine wpList_index_agg rfl 146 _ _ rfl attV rfl k rfl 6 145 Tryz.underlying146 (unhide Hlt) _ Tryz.underlying145 rfl 2 (by kernel_rfl) _ (unhide HR) ?_)
      obtain ⟨w3, hup, M3, kp, hsz, bel⟩ := upd_run _ w.heap.size (attN.take k) nm false k ty M2 (unhide Hnew)
      have R3 : Row w3 (w.heap.size + 1) #[.map (some w.heap.size), .slice none 0 0, .slice none 0 0] 118 := ⟨(kp _ (by omega)).trans R2.out⟩
      have B3 := B2.drew.trans (bel _ (Nat.le_refl _))
      go_region
      all_goals
        go_wp2_with fail
        go_roundw
        case rel => exact ⟨k + 1, unhide Hlt, by go_num, by rw [unhide Htk]; exact M3, R3, B3⟩
        case measure => have := unhide Hlt; simp [intOf]; omega
    · have e : k = 6 := by omega
      subst e
      go_wp2_with fail
      go_ret
      exact ⟨_, _, rfl, Nat.le_refl _, ⟨R1, World.ownsRow_nil _ _ _ _, World.ownsRow_nil _ _ _ _, Nat.le_succ _, fun q hq => by cases hq⟩, M1, B1⟩

end Go.Proofs.YtpbopjgmiaoomaaGreatDoor

namespace Go.Proofs.YtpbopjgmiaoomaaGreatDoor
open Go.RowKit
set_option linter.unusedVariables false

/-- the checker with its names -/
structure Cm (B cb mb : Nat) (ns : List ByteArray) (ts tt : List Int) (lv tv : Value) (w : World) : Prop where
  C : Ck B cb ts tt (.map (some mb)) lv tv w
  M : MapK w mb ns
  low : B ≤ mb

theorem Cm.ne {B cb mb : Nat} {ns : List ByteArray} {ts tt : List Int} {lv tv : Value} {w : World} (h : Cm B cb mb ns ts tt lv tv w) : mb ≠ cb ∧ lv.ownBlock ≠ some mb ∧ tv.ownBlock ≠ some mb := by
  obtain ⟨es, cl, h1, _⟩ := h.M
  refine ⟨fun e => ?_, fun e => ?_, fun e => ?_⟩
  · subst e; have := h.C.row.out.symm.trans h1; simp at this
  · rcases h.C.lets.2 with ⟨hv, _⟩ | ⟨g, cap, cur, hv, _, hg, _⟩
    · rw [hv] at e; cases e
    · rw [hv] at e
      obtain rfl : g = mb := by simpa [Value.ownBlock] using e
      have := hg.symm.trans h1; simp at this
  · rcases h.C.types.2 with ⟨hv, _⟩ | ⟨g, cap, cur, hv, _, hg, _⟩
    · rw [hv] at e; cases e
    · rw [hv] at e
      obtain rfl : g = mb := by simpa [Value.ownBlock] using e
      have := hg.symm.trans h1; simp at this

/-- what stands while a statement is looked at -/
structure Kd (B cb mb : Nat) (lv tv : Value) (w : World) (lv' tv' : Value) (w' : World) : Prop where
  low : Below B w w'
  keep : ∀ k, k < w.heap.size → k ≠ cb → k ≠ mb → some k ≠ lv.ownBlock → some k ≠ tv.ownBlock → w'.heap[k]? = w.heap[k]?
  newl : ∀ q, lv'.ownBlock = some q → lv.ownBlock = some q ∨ w.heap.size ≤ q
  newt : ∀ q, tv'.ownBlock = some q → tv.ownBlock = some q ∨ w.heap.size ≤ q

theorem Kd.refl (B cb mb : Nat) (lv tv : Value) (w : World) : Kd B cb mb lv tv w lv tv w := ⟨Below.refl _ _, fun _ _ _ _ _ _ => rfl, fun q h => .inl h, fun q h => .inl h⟩

theorem Kd.trans {B cb mb : Nat} {lv tv lv1 tv1 lv2 tv2 : Value} {w w1 w2 : World} (h : Kd B cb mb lv tv w lv1 tv1 w1) (k : Kd B cb mb lv1 tv1 w1 lv2 tv2 w2) : Kd B cb mb lv tv w lv2 tv2 w2 := by
  refine ⟨h.low.trans k.low, fun q h1 h2 h3 h4 h5 => ?_, fun q hq => ?_, fun q hq => ?_⟩
  · refine (k.keep q (Nat.lt_of_lt_of_le h1 h.low.size) h2 h3 (fun e => ?_) (fun e => ?_)).trans (h.keep q h1 h2 h3 h4 h5)
    · rcases h.newl q e.symm with e2 | e2
      · exact h4 e2.symm
      · omega
    · rcases h.newt q e.symm with e2 | e2
      · exact h5 e2.symm
      · omega
  · rcases k.newl q hq with e | e
    · exact h.newl q e
    · exact .inr (Nat.le_trans h.low.size e)
  · rcases k.newt q hq with e | e
    · exact h.newt q e
    · exact .inr (Nat.le_trans h.low.size e)

theorem Kd.of_kt {B cb mb : Nat} {lv tv tv' : Value} {w w' : World} (h : Kt B cb tv w tv' w') : Kd B cb mb lv tv w lv tv' w' :=
  ⟨h.low, fun k h1 h2 _ _ h5 => h.keep k h1 h2 h5, fun q hq => .inl hq, h.new⟩

theorem Kd.of_all {B cb mb : Nat} {lv tv : Value} {w w' : World} (h : Below w.heap.size w w') (hB : B ≤ w.heap.size) : Kd B cb mb lv tv w lv tv w' := .of_kt (Kt.of_all h hB)

theorem Cm.of_kt {B cb mb : Nat} {ns : List ByteArray} {ts tt tt' : List Int} {lv tv tv' : Value} {w w' : World} (h : Cm B cb mb ns ts tt lv tv w) (C' : Ck B cb ts tt' (.map (some mb)) lv tv' w') (K : Kt B cb tv w tv' w') : Cm B cb mb ns ts tt' lv tv' w' :=
  ⟨C', h.M.keep (K.keep mb h.M.lt h.ne.1 (fun e => h.ne.2.2 e.symm)), h.low⟩

theorem Cm.below {B cb mb : Nat} {ns : List ByteArray} {ts tt : List Int} {lv tv : Value} {w w' : World} (h : Cm B cb mb ns ts tt lv tv w) (hb : Below w.heap.size w w') : Cm B cb mb ns ts tt lv tv w' :=
  ⟨h.C.below hb, h.M.keep (hb.block mb h.M.lt), h.low⟩

theorem Ck.pushL {B cb : Nat} {ts tt : List Int} {mv lv tv : Value} {w w3 : World} {o : Obj} {t : Int} {g cap : Nat} (h : Ck B cb ts tt mv lv tv w) (hB : B ≤ w.heap.size)
    (O3 : w3.ownsRow B 3 1 (.slice (some ⟨g, 0, none⟩) (ts.length + 1) cap) (ts.length + 1) (intsV ts ++ [.int .i64 t])) (hgrow : (w.alloc o).grownBy w3 lv.ownBlock) (hat : lv.ownBlock = some g ∨ g = w.heap.size + 1) :
    Row w3 cb #[mv, lv, tv] 118 ∧ Ck B cb (ts ++ [t]) tt mv (.slice (some ⟨g, 0, none⟩) (ts.length + 1) cap) tv (w3.setCell ⟨cb, 1, none⟩ (.slice (some ⟨g, 0, none⟩) (ts.length + 1) cap)) ∧ Below B w (w3.setCell ⟨cb, 1, none⟩ (.slice (some ⟨g, 0, none⟩) (ts.length + 1) cap)) ∧
    (∀ k, k < w.heap.size → k ≠ cb → some k ≠ lv.ownBlock → (w3.setCell ⟨cb, 1, none⟩ (.slice (some ⟨g, 0, none⟩) (ts.length + 1) cap)).heap[k]? = w.heap[k]?) := by
  have n1 := own_ne_row h.row h.lets (by decide)
  have n2 := own_ne_row h.row h.types (by decide)
  have R3 := (h.row.alloc o).grown hgrow (fun e => n1 e.symm)
  have n3 := own_ne_row R3 O3 (by decide)
  have ng : g ≠ cb := fun e => n3 (by rw [e]; rfl)
  have za : (w.alloc o).heap.size = w.heap.size + 1 := by simp
  have kb : ∀ k, k < w.heap.size → k ≠ cb → some k ≠ lv.ownBlock → (w3.setCell ⟨cb, 1, none⟩ (.slice (some ⟨g, 0, none⟩) (ts.length + 1) cap)).heap[k]? = w.heap[k]? := fun k h1 h2 h3 =>
    (heap_setCell_other w3 ⟨cb, 1, none⟩ k _ h2).trans ((hgrow.block k (by rw [za]; omega) h3).trans (Below.heap_alloc w o k h1))
  refine ⟨R3, ⟨R3.set 1 (.slice (some ⟨g, 0, none⟩) (ts.length + 1) cap), ?_, owns_blocks2 h.types (fun q hq => kb q (h.types.lt q hq).2 (fun e => n2 (e ▸ hq)) (fun e => h.apart q e.symm hq)), h.low, fun q hq e => ?_⟩, ?_, kb⟩
  · rw [intsV, List.map_append, List.length_append]
    refine own_set3 O3 ⟨cb, 1, none⟩ _ (fun q hq => ?_)
    have : g = q := by simpa [Value.ownBlock] using hq
    subst this
    exact ng
  · have : g = q := by simpa [Value.ownBlock] using hq
    subst this
    rcases hat with hat | hat
    · exact h.apart g hat e
    · have := (h.types.lt g e).2; omega
  · exact (((Below.refl B w).alloc hB o).grown hgrow (by rw [za]; omega) (fun q hq => (h.lets.lt q hq).1)).setCell (p := ⟨cb, 1, none⟩) h.low _

/-- what declare answers -/
def DeAns (B cb mb : Nat) (ns : List ByteArray) (ts tt : List Int) (lv tv : Value) (nm : ByteArray) (ty : Int) (w : World) (r : Ending) (w' : World) : Prop :=
  (nm ∉ ns ∧ r = .returned .nilIface ∧ ∃ lv', Cm B cb mb (ns ++ [nm]) (ts ++ [ty]) tt lv' tv w' ∧ Kd B cb mb lv tv w lv' tv w') ∨ (nm ∈ ns ∧ (∃ t u, r = .returned (.iface t u)) ∧ Below w.heap.size w w')

set_option maxHeartbeats 1600000 in
set_option maxRecDepth 100000 in
theorem declare_any (B cb mb : Nat) (ns : List ByteArray) (ts tt : List Int) (lv tv : Value) (nm : ByteArray) (ty : Int) (aN aA : Addr) (w : World) (hE : Eok w aN aA) (h : Cm B cb mb ns ts tt lv tv w) (hl : ts.length ≤ 1000) :
    Calls Tryz.prog 103 #[.pointer (some ⟨cb, 0, none⟩), .string nm, .int .i64 ty] w (DeAns B cb mb ns ts tt lv tv nm ty w) := by
  have c0 : w.cell? ⟨cb, 0, none⟩ = some (.map (some mb)) := h.C.row.cell 0
  have c1 : w.cell? ⟨cb, 1, none⟩ = some lv := h.C.row.cell 1
  have ac := hE.ac
  have ha := hE.a
  have hcb := h.C.row.lt
  have hBw : B ≤ w.heap.size := by have := h.C.low; omega
  obtain ⟨ii, hii, ez0, ez1, ez2⟩ := info_parts infoI
  by_cases hs : nm ∈ ns
  · obtain ⟨b, n, t, hlk⟩ := look_yes w mb ns nm h.M hs
    have HX := hide hs
    clear hs
    have B1 := (Below.refl w.heap.size w).alloc (Nat.le_refl _) (.cells #[.bool b, .int .i64 n, .int .i64 t] 148)
    go_enter Tryz.func103, Tryz.ntmps103
    go_wp2_with fail
    go_ret
    exact .inr ⟨unhide HX, ⟨_, _, rfl⟩, B1⟩
  · obtain ⟨b, n, t, hlk⟩ := look_no w mb ns nm h.M hs
    have HX := hide hs
    clear hs
    obtain ⟨x, kx, rfl, _⟩ := owns_form2 h.C.lets
    have hml := h.M.lt
    go_enter Tryz.func103, Tryz.ntmps103
    go_wp2_with fail
    have W0E : ∃ W0, W0 = w.alloc (.cells #[.bool b, .int .i64 n, .int .i64 t] 148) := ⟨_, rfl⟩
    obtain ⟨W0, hW0⟩ := W0E
    have B0 : Below w.heap.size w W0 := by rw [hW0]; exact (Below.refl _ _).alloc (Nat.le_refl _) _
    rw [← hW0]
    clear hW0 c0 c1 hlk ac ha
    have H1 := (h.below B0).below (Below.drew (Below.refl _ _) : Below W0.heap.size W0 W0.drew)
    have D1 := B0.trans ((Below.drew (Below.refl _ _) : Below W0.heap.size W0 W0.drew).mono B0.size)
    have hne := H1.ne
    have d0 : W0.cell? ⟨cb, 0, none⟩ = some (.map (some mb)) := (h.below B0).C.row.cell 0
    have d1 : W0.cell? ⟨cb, 1, none⟩ = some (.slice x ts.length kx) := (h.below B0).C.row.cell 1
    obtain ⟨w3, hup, M3, kp, hsz, bel⟩ := upd_run W0.drew mb ns nm true ts.length ty H1.M (unhide HX)
    have C3 : Ck B cb ts tt (.map (some mb)) (.slice x ts.length kx) tv w3 := ⟨⟨(kp cb hne.1.symm).trans H1.C.row.out⟩, owns_blocks2 H1.C.lets (fun q hq => kp q (fun e => hne.2.1 (e ▸ hq))), owns_blocks2 H1.C.types (fun q hq => kp q (fun e => hne.2.2 (e ▸ hq))), H1.C.low, H1.C.apart⟩
    have e1 : w3.cell? ⟨cb, 1, none⟩ = some (.slice x ts.length kx) := C3.row.cell 1
    have D3 := (D1.mono hBw).trans (bel B h.low)
    have z3 := D3.size
    have hcb3 := C3.row.lt
    clear hsz
    go_region
    all_goals
      go_wp2_with (at_builtin; refine wpList_append_lies _ rfl _ _ 24 rfl B 3 ii (.int .i64 0) 1 8 Tryz.underlying24 hii ez0 ez1 ez2 rfl (by decide) _ _ _ rfl (World.ownsRow.alloc C3.lets _) ⟨w3.heap.size, 0, none⟩ 1 1 [.int .i64 ty] rfl rfl ?c1 ?c2 (by decide) ?c3 ?c4 ?c5 (w3.heap.size + 1) (by simp) ?_)
      case c1 => exact one_cell _ _ _ _ (by simp)
      case c2 => intro u hu; simp at hu; subst hu; rfl
      case c3 => unfold maxLen; omega
      case c4 => omega
      case c5 => simp; omega
      intro g cap w4 O4 hgrow hat hgl
      obtain ⟨R4, C4, B4, kb4⟩ := C3.pushL (by omega) O4 hgrow hat
      have f1 : w4.cell? ⟨cb, 1, none⟩ = some (.slice x ts.length kx) := R4.cell 1
      have ff := R4.frozen 1
      have M4 := M3.keep (kb4 mb M3.lt hne.1 (fun e => hne.2.1 e.symm))
      go_wp2_with fail
      go_ret
      refine .inl ⟨unhide HX, rfl, _, ⟨C4, M4, h.low⟩, ⟨D3.trans B4, fun k h1 h2 h3 h4 h5 => ?_, fun q hq => ?_, fun q hq => .inl hq⟩⟩
      · exact (kb4 k (by omega) h2 h4).trans ((kp k h3).trans (D1.block k h1))
      · have : g = q := by simpa [Value.ownBlock] using hq
        subst this
        rcases hat with hat | hat
        · exact .inl hat
        · right; omega

end Go.Proofs.YtpbopjgmiaoomaaGreatDoor
