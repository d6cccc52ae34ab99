/-
  JY, JZ, JP, ZD. Own work.
-/
import Derived.Test.YtjapdeehnfoonaaGreatDoorJX
import Derived.MapKept
import Derived.Maps.Own
import Derived.Maps.OwnOps
import Derived.Deep.RegionLaw
namespace Go.Proofs.YtjapdeehnfoonaaGreatDoor
open Go.RowKit
set_option linter.unusedVariables false

theorem tyOp1_in (op a : Int) : inTy (nz (tyOp op [a])) := fun t h => by
  obtain ⟨h1, h2⟩ := nz_some h
  rw [tyOp] at h1
  repeat' split at h1
  all_goals omega

theorem tyOp2_in (op a b : Int) : inTy (nz (tyOp op [a, b])) := fun t h => by
  obtain ⟨h1, h2⟩ := nz_some h
  rw [tyOp] at h1
  clear h
  repeat' split at h1
  all_goals
    subst h1
    first
      | decide
      | exact absurd rfl h2

theorem tyOp3_in (a b c : Int) (hb : 1 ≤ b ∧ b ≤ 4) : inTy (nz (tyOp 27 [a, b, c])) := fun t h => by
  obtain ⟨h1, h2⟩ := nz_some h
  rw [tyOp] at h1
  repeat' split at h1
  all_goals omega

theorem tyE_un (ts : List Int) (i op : Int) (k : Ex) : tyE ts (.un i op k) = (tyE ts k).bind fun a1 => nz (tyOp op [a1]) := by rw [tyE]; cases tyE ts k <;> rfl
theorem tyE_bin (ts : List Int) (i op : Int) (k l : Ex) : tyE ts (.bin i op k l) = (tyE ts k).bind fun a1 => (tyE ts l).bind fun a2 => nz (tyOp op [a1, a2]) := by rw [tyE]; cases tyE ts k <;> cases tyE ts l <;> rfl
theorem tyE_ite (ts : List Int) (i : Int) (k l m : Ex) : tyE ts (.ite i k l m) = (tyE ts k).bind fun a1 => (tyE ts l).bind fun a2 => (tyE ts m).bind fun a3 => nz (tyOp 27 [a1, a2, a3]) := by rw [tyE]; cases tyE ts k <;> cases tyE ts l <;> cases tyE ts m <;> rfl

theorem tyE_in {ts : List Int} (h : ∀ t ∈ ts, 1 ≤ t ∧ t ≤ 4) : ∀ (e : Ex), inTy (tyE ts e)
  | .int .., a, k => by cases k; omega
  | .text .., a, k => by cases k; omega
  | .bool .., a, k => by cases k; omega
  | .set .., a, k => by cases k; omega
  | .name .., a, k => by cases k
  | .attr _ n, a, k => by cases k; exact attrTy_pos n
  | .lett _ n, a, k => by
    rw [tyE] at k
    split at k
    · exact h a (List.mem_of_getElem? k)
    · cases k
  | .un i op e, a, k => by
    rw [tyE_un] at k
    cases he : tyE ts e with
    | none => rw [he] at k; cases k
    | some b => rw [he] at k; exact tyOp1_in op b a k
  | .bin i op e f, a, k => by
    rw [tyE_bin] at k
    cases he : tyE ts e with
    | none => rw [he] at k; cases k
    | some b =>
      rw [he] at k
      cases hf : tyE ts f with
      | none => rw [hf] at k; cases k
      | some c => rw [hf] at k; exact tyOp2_in op b c a k
  | .ite i e f g, a, k => by
    rw [tyE_ite] at k
    cases he : tyE ts e with
    | none => rw [he] at k; cases k
    | some b =>
      rw [he] at k
      cases hf : tyE ts f with
      | none => rw [hf] at k; cases k
      | some c =>
        rw [hf] at k
        cases hg : tyE ts g with
        | none => rw [hg] at k; cases k
        | some d => rw [hg] at k; exact tyOp3_in b c d (tyE_in h f c hf) a k

theorem ints_none (w : World) : Ints w none 0 0 [] := ⟨rfl, by decide, fun j h => absurd h (by simp)⟩

theorem typeOf_any (B cb : Nat) (ts : List Int) (mv lv : Value) (w0 : World) (aT aN aA : Addr) (hV : Vok w0 aT) (hE : Eok w0 aN aA) (hB : w0.heap.size ≤ B) (hts : ∀ t ∈ ts, 1 ≤ t ∧ t ≤ 4) (hl : ts.length ≤ 1048576) : ∀ (e : Ex), e.typed → TyV B cb ts mv lv w0 e.val (tyE ts e) (tysE ts e)
  | .int i n, _ => typeOf_leaf B cb ts mv lv w0 _ _ i _ (kids_int i n) (place_int i n) (hide fun tt tv w hw hC => above_int cb i n none 0 0 [] aT aN aA w (hV.below hw hB) (hE.below hw hB) (ints_none w))
  | .text i s, _ => typeOf_leaf B cb ts mv lv w0 _ _ i _ (kids_text i s) (place_text i s) (hide fun tt tv w hw hC => above_text cb i s none 0 0 [] aT aN aA w (hV.below hw hB) (hE.below hw hB) (ints_none w))
  | .bool i b, _ => typeOf_leaf B cb ts mv lv w0 _ _ i _ (kids_bool i b) (place_bool i b) (hide fun tt tv w hw hC => above_bool cb i b none 0 0 [] aT aN aA w (hV.below hw hB) (hE.below hw hB) (ints_none w))
  | .set i a n c ss, _ => typeOf_leaf B cb ts mv lv w0 _ _ i _ (kids_set i a n c) (place_set i a n c) (hide fun tt tv w hw hC => above_set cb i a n c none 0 0 [] aT aN aA w (hV.below hw hB) (hE.below hw hB) (ints_none w))
  | .name .., h => absurd h id
  | .attr i n, h => typeOf_leaf B cb ts mv lv w0 _ _ i _ (kids_attr i n) (place_attr i n) (hide fun tt tv w hw hC => above_attr cb i n none 0 0 [] aT aN aA w (hV.below hw hB) (hE.below hw hB) (ints_none w) h)
  | .lett i n, _ => typeOf_leaf B cb ts mv lv w0 _ _ i _ (kids_lett i n) (place_lett i n) (hide fun tt tv w hw hC => by
      obtain ⟨x, c, rfl, _⟩ := owns_form2 hC.lets
      exact above_lett cb i n x ts.length c ts none 0 0 [] aT aN aA w (hV.below hw hB) (hE.below hw hB) (ints_none w) (hC.row.cell 1) hC.row.lt (ints_of_row hC.lets hl))
  | .un i op k, h => by
    have ih := typeOf_any B cb ts mv lv w0 aT aN aA hV hE hB hts hl k h.2
    obtain ⟨t, u, hv⟩ := k.form
    rw [hv] at ih
    rw [Ex.val, hv, tysE, tyE_un]
    exact typeOf_un B cb ts mv lv w0 i op (fun ks => nz (tyOp op ks)) t u _ _ (tyE_in hts k) (hide ih) (hide fun tt tv w ka kc a hw hC hI ha => above_un cb i op t u ka 1 kc a aT aN aA w (hV.below hw hB) (hE.below hw hB) hI h.1 ha)
  | .bin i op k l, h => by
    have ih1 := typeOf_any B cb ts mv lv w0 aT aN aA hV hE hB hts hl k h.2.1
    have ih2 := typeOf_any B cb ts mv lv w0 aT aN aA hV hE hB hts hl l h.2.2
    obtain ⟨t, u, hv⟩ := k.form
    obtain ⟨t', u', hv'⟩ := l.form
    rw [hv] at ih1
    rw [hv'] at ih2
    rw [Ex.val, hv, hv', tysE, tyE_bin]
    exact typeOf_bin B cb ts mv lv w0 i op (fun ks => nz (tyOp op ks)) t u _ _ (tyE_in hts k) (hide ih1) t' u' _ _ (tyE_in hts l) (hide ih2) (hide fun tt tv w ka kc a b hw hC hI ha hb => above_bin cb i op t u t' u' ka 2 kc a b aT aN aA w (hV.below hw hB) (hE.below hw hB) hI h.1 ha hb)
  | .ite i k l m, h => by
    have ih1 := typeOf_any B cb ts mv lv w0 aT aN aA hV hE hB hts hl k h.1
    have ih2 := typeOf_any B cb ts mv lv w0 aT aN aA hV hE hB hts hl l h.2.1
    have ih3 := typeOf_any B cb ts mv lv w0 aT aN aA hV hE hB hts hl m h.2.2
    obtain ⟨t, u, hv⟩ := k.form
    obtain ⟨t', u', hv'⟩ := l.form
    obtain ⟨t2, u2, hv2⟩ := m.form
    rw [hv] at ih1
    rw [hv'] at ih2
    rw [hv2] at ih3
    rw [Ex.val, hv, hv', hv2, tysE, tyE_ite]
    exact typeOf_ite B cb ts mv lv w0 i (fun ks => nz (tyOp 27 ks)) t u _ _ (tyE_in hts k) (hide ih1) t' u' _ _ (tyE_in hts l) (hide ih2) t2 u2 _ _ (tyE_in hts m) (hide ih3) (hide fun tt tv w ka kc a b d hw hC hI ha hb hd => above_ite cb i t u t' u' t2 u2 ka 3 kc a b d aT aN aA w (hV.below hw hB) (hE.below hw hB) hI hb)

end Go.Proofs.YtjapdeehnfoonaaGreatDoor

namespace Go.Proofs.YtjapdeehnfoonaaGreatDoor
open Go.RowKit
set_option linter.unusedVariables false

/-- a map whose keys are these names -/
def MapK (w : World) (mb : Nat) (ns : List ByteArray) : Prop := ∃ (es : Array MapEntry) (cl : Nat), w.heap[mb]? = some (.map es cl) ∧ es.toList.map (·.key) = ns.map Value.string ∧ ∀ m ∈ es.toList, ∃ b n t, m.val = .agg #[.bool b, .int .i64 n, .int .i64 t]

theorem MapK.keep {w w' : World} {mb : Nat} {ns : List ByteArray} (h : MapK w mb ns) (hb : w'.heap[mb]? = w.heap[mb]?) : MapK w' mb ns := by
  obtain ⟨es, cl, h1, h2, h3⟩ := h
  exact ⟨es, cl, hb.trans h1, h2, h3⟩

theorem MapK.lt {w : World} {mb : Nat} {ns : List ByteArray} (h : MapK w mb ns) : mb < w.heap.size := by
  obtain ⟨es, cl, h1, _⟩ := h
  exact (Array.getElem?_eq_some_iff.1 h1).1

theorem keys_of {es : Array MapEntry} {ns : List ByteArray} (h : es.toList.map (·.key) = ns.map Value.string) : ∀ x ∈ es.toList, ∃ s ∈ ns, x.key = .string s := fun x hx => by
  have : x.key ∈ es.toList.map (·.key) := List.mem_map.2 ⟨x, hx, rfl⟩
  rw [h] at this
  obtain ⟨s, hs, e⟩ := List.mem_map.1 this
  exact ⟨s, hs, e.symm⟩

theorem look_yes (w : World) (mb : Nat) (ns : List ByteArray) (s : ByteArray) (h : MapK w mb ns) (hs : s ∈ ns) :
    ∃ b n t, (Instr.lookup 85 (.map (some mb)) (.string s) true).run Tryz.prog w = .ok (.tuple #[.agg #[.bool b, .int .i64 n, .int .i64 t], .bool true]) w := by
  obtain ⟨es, cl, h1, h2, h3⟩ := h
  have hk : ∀ x ∈ es.toList, MapKept.IsKey .string x.key := fun x hx => by
    obtain ⟨s, _, e⟩ := keys_of h2 x hx
    rw [e]; trivial
  rcases MapKept.findNow_spec (d := .string) (k := .string s) trivial es.toList 0 hk with ⟨f1, f2⟩ | ⟨j, e, f1, f2, f3⟩
  · exfalso
    have : Value.string s ∈ es.toList.map (·.key) := by rw [h2]; exact List.mem_map.2 ⟨s, hs, rfl⟩
    obtain ⟨x, hx, ex⟩ := List.mem_map.1 this
    exact f2 x hx ex
  · have hm : e ∈ es.toList := List.mem_of_getElem? f2
    obtain ⟨b, n, t, ev⟩ := h3 e hm
    refine ⟨b, n, t, ?_⟩
    rw [ev] at f1
    simp [Instr.lookup, run_underlying Tryz.underlying85, MapKept.run_getObj_map h1, MapKept.run_checkKey Tryz.underlying9 (k := .string s) trivial, MapKept.run_findKey Tryz.underlying9 f1]

theorem look_no (w : World) (mb : Nat) (ns : List ByteArray) (s : ByteArray) (h : MapK w mb ns) (hs : s ∉ ns) :
    ∃ b n t, (Instr.lookup 85 (.map (some mb)) (.string s) true).run Tryz.prog w = .ok (.tuple #[.agg #[.bool b, .int .i64 n, .int .i64 t], .bool false]) w := by
  obtain ⟨es, cl, h1, h2, h3⟩ := h
  have hk : ∀ x ∈ es.toList, MapKept.IsKey .string x.key := fun x hx => by
    obtain ⟨s, _, e⟩ := keys_of h2 x hx
    rw [e]; trivial
  rcases MapKept.findNow_spec (d := .string) (k := .string s) trivial es.toList 0 hk with ⟨f1, f2⟩ | ⟨j, e, f1, f2, f3⟩
  · refine ⟨false, 0, 0, ?_⟩
    simp [Instr.lookup, run_underlying Tryz.underlying85, MapKept.run_getObj_map h1, MapKept.run_checkKey Tryz.underlying9 (k := .string s) trivial, MapKept.run_findKey Tryz.underlying9 f1, Tryz.zeroValue117]
  · exfalso
    have hm : e ∈ es.toList := List.mem_of_getElem? f2
    obtain ⟨s', hs', e'⟩ := keys_of h2 e hm
    rw [f3] at e'
    cases e'
    exact hs hs'

theorem upd_run (w : World) (mb : Nat) (ns : List ByteArray) (s : ByteArray) (b : Bool) (n t : Int) (h : MapK w mb ns) (hs : s ∉ ns) :
    ∃ w', (Instr.mapUpdate 85 (.map (some mb)) (.string s) (.agg #[.bool b, .int .i64 n, .int .i64 t])).run Tryz.prog w = .ok () w' ∧ MapK w' mb (ns ++ [s]) ∧ (∀ k, k ≠ mb → w'.heap[k]? = w.heap[k]?) ∧ w'.heap.size = w.heap.size ∧ ∀ B, B ≤ mb → Below B w w' := by
  obtain ⟨es, cl, h1, h2, h3⟩ := h
  have hk : ∀ x ∈ es.toList, MapKept.IsKey .string x.key := fun x hx => by
    obtain ⟨s, _, e⟩ := keys_of h2 x hx
    rw [e]; trivial
  rcases MapKept.findNow_spec (d := .string) (k := .string s) trivial es.toList 0 hk with ⟨f1, f2⟩ | ⟨j, e, f1, f2, f3⟩
  · obtain ⟨g1, g2⟩ := MapKept.heap_set (o' := .map (es.push ⟨.string s, .agg #[.bool b, .int .i64 n, .int .i64 t], cl⟩) (cl + 1)) h1
    refine ⟨{ w with heap := w.heap.setIfInBounds mb (.map (es.push ⟨.string s, .agg #[.bool b, .int .i64 n, .int .i64 t], cl⟩) (cl + 1)) }, ?_, ⟨_, _, g1, ?_, ?_⟩, g2, by simp, fun B hB => ⟨rfl, rfl, rfl, by simp, fun k hk => g2 k (by omega)⟩⟩
    · simp [Instr.mapUpdate, run_underlying Tryz.underlying85, MapKept.run_getObj_map h1, MapKept.run_checkKey Tryz.underlying9 (k := .string s) trivial, MapKept.run_findKey Tryz.underlying9 f1, MapKept.run_setObj_map _ h1]
    · simp [h2]
    · intro m hm
      simp at hm
      rcases hm with hm | rfl
      · exact h3 m (by simpa using hm)
      · exact ⟨_, _, _, rfl⟩
  · exfalso
    have hm : e ∈ es.toList := List.mem_of_getElem? f2
    obtain ⟨s', hs', e'⟩ := keys_of h2 e hm
    rw [f3] at e'
    cases e'
    exact hs hs'

theorem wpList_upd {ops : Array Oper} {rest : List Oper} {o : Oper} {a : Act} {Q : Exit → Act → World → Prop} {w : World} (hg : o.guard = none) (m x v : Operand) (hop : o.op = Op.mapUpdate 85 m x v) (mb : Nat) (ns : List ByteArray) (s : ByteArray) (b : Bool) (n t : Int)
    (hm : a.eval m = .map (some mb)) (hx : a.eval x = .string s) (hv : a.eval v = .agg #[.bool b, .int .i64 n, .int .i64 t]) (h : MapK w mb ns) (hs : s ∉ ns)
    (hK : ∀ w', MapK w' mb (ns ++ [s]) → (∀ k, k ≠ mb → w'.heap[k]? = w.heap[k]?) → w'.heap.size = w.heap.size → (∀ B, B ≤ mb → Below B w w') → wpList Tryz.prog ops Q rest (a.put o.dst undef) w') : wpList Tryz.prog ops Q (o :: rest) a w := by
  refine wpList_plain hg fun K' hK' => ?_
  obtain ⟨w', hrun, r1, r2, r3, r4⟩ := upd_run w mb ns s b n t h hs
  unfold Oper.wp
  simp [execOp, hop, hm, hx, hv, hrun, Result.andThen]
  exact hK' _ _ (hK w' r1 r2 r3 r4)

theorem wp_upd {o : Oper} {a : Act} {K : Act → World → Prop} {Q : Exit → Act → World → Prop} {w : World} (m x v : Operand) (hop : o.op = Op.mapUpdate 85 m x v) (mb : Nat) (ns : List ByteArray) (s : ByteArray) (b : Bool) (n t : Int)
    (hm : a.eval m = .map (some mb)) (hx : a.eval x = .string s) (hv : a.eval v = .agg #[.bool b, .int .i64 n, .int .i64 t]) (h : MapK w mb ns) (hs : s ∉ ns)
    (hK : ∀ w', MapK w' mb (ns ++ [s]) → (∀ k, k ≠ mb → w'.heap[k]? = w.heap[k]?) → w'.heap.size = w.heap.size → (∀ B, B ≤ mb → Below B w w') → K (a.put o.dst undef) w') : o.wp Tryz.prog a w K Q := by
  obtain ⟨w', hrun, r1, r2, r3, r4⟩ := upd_run w mb ns s b n t h hs
  unfold Oper.wp
  simp [execOp, hop, hm, hx, hv, hrun, Result.andThen]
  exact hK w' r1 r2 r3 r4

theorem step_upd {ops : Array Oper} {o : Oper} {a : Act} {K : Act → World → Prop} {Q : Exit → Act → World → Prop} {E : Prop} {w : World} (hgd : o.guard = none) (m x v : Operand) (hop : o.op = Op.mapUpdate 85 m x v) (mb : Nat) (ns : List ByteArray) (s : ByteArray) (b : Bool) (n t : Int)
    (hm : a.eval m = .map (some mb)) (hx : a.eval x = .string s) (hv : a.eval v = .agg #[.bool b, .int .i64 n, .int .i64 t]) (h : MapK w mb ns) (hs : s ∉ ns)
    (hK : ∀ w', MapK w' mb (ns ++ [s]) → (∀ k, k ≠ mb → w'.heap[k]? = w.heap[k]?) → w'.heap.size = w.heap.size → (∀ B, B ≤ mb → Below B w w') → K (a.put o.dst undef) w') :
    if Region.wanted o (yielded ops a.tmps) = true then Oper.wp Tryz.prog o a w K Q else E := by
  have hw : Region.wanted o (yielded ops a.tmps) = true := by simp [Region.wanted, hgd]
  rw [if_pos hw]
  exact wp_upd m x v hop mb ns s b n t hm hx hv h hs hK

theorem wpList_look {ops : Array Oper} {rest : List Oper} {o : Oper} {a : Act} {Q : Exit → Act → World → Prop} {w : World} (hg : o.guard = none) (m x : Operand) (hop : o.op = Op.lookup 85 m x true) (mb : Nat) (ns : List ByteArray) (s : ByteArray) (f : Bool)
    (hm : a.eval m = .map (some mb)) (hx : a.eval x = .string s) (h : MapK w mb ns) (hf : f = true ↔ s ∈ ns)
    (hK : ∀ b n t, wpList Tryz.prog ops Q rest (a.put o.dst (.tuple #[.agg #[.bool b, .int .i64 n, .int .i64 t], .bool f])) w) : wpList Tryz.prog ops Q (o :: rest) a w := by
  refine wpList_plain hg fun K' hK' => ?_
  obtain ⟨b, n, t, hrun⟩ : ∃ b n t, (Instr.lookup 85 (.map (some mb)) (.string s) true).run Tryz.prog w = .ok (.tuple #[.agg #[.bool b, .int .i64 n, .int .i64 t], .bool f]) w := by
    cases f with
    | true => exact look_yes w mb ns s h (hf.1 rfl)
    | false => exact look_no w mb ns s h (fun hs => by have := hf.2 hs; cases this)
  unfold Oper.wp
  simp [execOp, hop, hm, hx, hrun, Result.andThen]
  exact hK' _ _ (hK b n t)

end Go.Proofs.YtjapdeehnfoonaaGreatDoor

namespace Go.Proofs.YtjapdeehnfoonaaGreatDoor
open Go.RowKit
set_option linter.unusedVariables false

def attN : List ByteArray := [⟨#[99, 108, 105, 101, 110, 116]⟩, ⟨#[117, 115, 101, 114]⟩, ⟨#[108, 101, 118, 101, 108]⟩, ⟨#[110, 111, 119]⟩, ⟨#[97, 115, 107, 101, 100]⟩, ⟨#[97, 103, 114, 101, 101, 100]⟩]

theorem alloc_at (w : World) (o : Obj) : (w.alloc o).heap[w.heap.size]? = some o := by
  show (w.heap.push o)[w.heap.size]? = some o
  exact Array.getElem?_push_size

theorem attV_row : ∀ k, k < 6 → attV.extract (k * 2) (k * 2 + 2) = #[.string (attN.getD k ⟨#[]⟩), .int .i64 (attrTy k)]
  | 0, _ => rfl
  | 1, _ => rfl
  | 2, _ => rfl
  | 3, _ => rfl
  | 4, _ => rfl
  | 5, _ => rfl
  | n + 6, h => absurd h (by omega)

theorem attN_new : ∀ k, k < 6 → attN.getD k ⟨#[]⟩ ∉ attN.take k
  | 0, _ => by simp
  | 1, _ => by simp [attN]
  | 2, _ => by simp [attN]
  | 3, _ => by simp [attN]
  | 4, _ => by simp [attN]
  | 5, _ => by simp [attN]
  | n + 6, h => absurd h (by omega)

theorem attN_take : ∀ k, k < 6 → attN.take (k + 1) = attN.take k ++ [attN.getD k ⟨#[]⟩]
  | 0, _ => rfl
  | 1, _ => rfl
  | 2, _ => rfl
  | 3, _ => rfl
  | 4, _ => rfl
  | 5, _ => rfl
  | n + 6, h => absurd h (by omega)

set_option maxHeartbeats 1600000 in
set_option maxRecDepth 100000 in
theorem newChecker_any (aT : Addr) (w : World) (hV : Vok w aT) :
    Calls Tryz.prog 33 #[] w fun r w' => ∃ cb mb, r = .returned (.pointer (some ⟨cb, 0, none⟩)) ∧ w.heap.size ≤ mb ∧ Ck w.heap.size cb [] [] (.map (some mb)) (.slice none 0 0) (.slice none 0 0) w' ∧ MapK w' mb attN ∧ Below w.heap.size w w' := by
  have hmm := @run_makeMap Tryz.prog
  have B0 := ((Below.refl w.heap.size w).alloc (Nat.le_refl _) (.map #[] 0)).alloc (by simp) (.cells #[.map (some w.heap.size), .slice none 0 0, .slice none 0 0] 87)
  have R0 := Row.new (w.alloc (.map #[] 0)) #[.map (some w.heap.size), .slice none 0 0, .slice none 0 0] 87
  simp only [World.size_alloc] at R0
  have M0 : MapK ((w.alloc (.map #[] 0)).alloc (.cells #[.map (some w.heap.size), .slice none 0 0, .slice none 0 0] 87)) w.heap.size [] := by
    refine ⟨#[], 0, ?_, rfl, fun m hm => by simp at hm⟩
    rw [Below.heap_alloc _ _ _ (by simp)]
    exact alloc_at w _
  have HC := hide (fun j => (B0.cell (p := ⟨0, j, none⟩) hV.a).trans (hV.ac j))
  have Hz := hide (show w.heap.size + 2 = ((w.alloc (.map #[] 0)).alloc (.cells #[.map (some w.heap.size), .slice none 0 0, .slice none 0 0] 87)).heap.size by simp)
  clear hV
  go_enter Tryz.func33, Tryz.ntmps33
  go_wp2_with (refine wpList_load_cells rfl 115 _ rfl 0 rfl attV _ (unhide HC) Tryz.underlying115 rfl (by kernel_rfl) ?_)
  clear HC
  go_loopw [8] (fun i wr => ∃ k : Nat, k ≤ 6 ∧ i = .int .i64 k ∧ MapK wr w.heap.size (attN.take k) ∧ Row wr (w.heap.size + 1) #[.map (some w.heap.size), .slice none 0 0, .slice none 0 0] 87 ∧ Below w.heap.size w wr) (fun i _ => 6 - (intOf i).toNat)
  case atStart => exact ⟨0, by omega, rfl, M0, R0, B0⟩
  case round =>
    clear M0 R0 B0
    obtain ⟨k, hk, rfl, M1, R1, B1⟩ := hrel
    by_cases hlt : k < 6
    · have ilt : (k : Int) < 6 := by omega
      have HR := hide (attV_row k hlt)
      have Hnew := hide (attN_new k hlt)
      have Htk := hide (attN_take k hlt)
      have Hlt := hide hlt
      generalize attN.getD k ⟨#[]⟩ = nm at HR Hnew Htk
      generalize attrTy (k : Int) = ty at HR
      have c0 : wr.cell? ⟨w.heap.size + 1, 0, none⟩ = some (.map (some w.heap.size)) := R1.cell 0
      have zl := R1.lt
      have ml := M1.lt
      have M2 : MapK (wr.alloc (.cells #[.string nm, .int .i64 ty] 114)).drew w.heap.size (attN.take k) := M1.keep (Below.heap_alloc _ _ _ ml)
      have R2 := R1.alloc (.cells #[.string nm, .int .i64 ty] 114)
      have B2 := B1.alloc B1.size (.cells #[.string nm, .int .i64 ty] 114)
      clear hlt
      go_wp2_with (refine wpList_index_agg rfl 115 _ _ rfl attV rfl k rfl 6 114 Tryz.underlying115 (unhide Hlt) _ Tryz.underlying114 rfl 2 (by kernel_rfl) _ (unhide HR) ?_)
      obtain ⟨w3, hup, M3, kp, hsz, bel⟩ := upd_run _ w.heap.size (attN.take k) nm false k ty M2 (unhide Hnew)
      have R3 : Row w3 (w.heap.size + 1) #[.map (some w.heap.size), .slice none 0 0, .slice none 0 0] 87 := ⟨(kp _ (by omega)).trans R2.out⟩
      have B3 := B2.drew.trans (bel _ (Nat.le_refl _))
      go_region
      all_goals
        go_wp2_with fail
        go_roundw
        case rel => exact ⟨k + 1, unhide Hlt, by go_num, by rw [unhide Htk]; exact M3, R3, B3⟩
        case measure => have := unhide Hlt; simp [intOf]; omega
    · have e : k = 6 := by omega
      subst e
      go_wp2_with fail
      go_ret
      exact ⟨_, _, rfl, Nat.le_refl _, ⟨R1, World.ownsRow_nil _ _ _ _, World.ownsRow_nil _ _ _ _, Nat.le_succ _, fun q hq => by cases hq⟩, M1, B1⟩

end Go.Proofs.YtjapdeehnfoonaaGreatDoor

namespace Go.Proofs.YtjapdeehnfoonaaGreatDoor
open Go.RowKit
set_option linter.unusedVariables false

open Classical in
/-- where a name stands first; -1: nowhere -/
noncomputable def findI (s : ByteArray) : List ByteArray → Int → Int
  | [], _ => -1
  | x :: r, k => if x = s then k else findI s r (k + 1)

theorem findI_pos (s : ByteArray) : ∀ (L : List ByteArray) (k : Int), 0 ≤ k → (0 ≤ findI s L k ↔ s ∈ L)
  | [], k, h => by simp [findI]
  | x :: r, k, h => by
    rw [findI]
    by_cases e : x = s
    · rw [if_pos e]; simp [e, h]
    · rw [if_neg e, findI_pos s r (k + 1) (by omega)]
      simp [Ne.symm e]

theorem findI_at {s : ByteArray} {L : List ByteArray} {k : Nat} (h : k < L.length) : findI s (L.drop k) k = if L[k] = s then (k : Int) else findI s (L.drop (k + 1)) ((k + 1 : Nat) : Int) := by
  rw [List.drop_eq_getElem_cons h, findI]
  rfl

theorem tl_eq (x s : ByteArray) : (x.toList == s.toList) = true ↔ x = s := by
  rw [beq_iff_eq]
  constructor
  · intro h
    rw [ByteArray.toList_eq, ByteArray.toList_eq] at h
    cases x; cases s
    simp only [ByteArray.mk.injEq]
    exact Array.toList_inj.1 h
  · rintro rfl; rfl

/-- names in memory -/
def Nms (w : World) (a : Option Addr) (L : List ByteArray) : Prop := ∀ j, (h : j < L.length) → ∃ b off, a = some ⟨b, off, none⟩ ∧ b < w.heap.size ∧ w.cell? ⟨b, off + j, none⟩ = some (.string L[j])

theorem Nms.below {w w' : World} {B : Nat} {a : Option Addr} {L : List ByteArray} (h : Nms w a L) (hb : Below B w w') (hB : w.heap.size ≤ B) : Nms w' a L := fun j hj => by
  obtain ⟨b, off, ha, hl, c0⟩ := h j hj
  exact ⟨b, off, ha, Nat.lt_of_lt_of_le hl hb.size, (hb.cell (p := ⟨b, off + j, none⟩) (by show b < B; omega)).trans c0⟩

theorem nms_new (w : World) (t : TypeId) (L : List ByteArray) : Nms (w.alloc (.cells (L.map Value.string).toArray t)) (some ⟨w.heap.size, 0, none⟩) L := fun j hj => by
  refine ⟨w.heap.size, 0, rfl, by simp, ?_⟩
  rw [Nat.zero_add, (Row.new w (L.map Value.string).toArray t).cell j]
  simp [hj]

set_option maxRecDepth 100000 in
set_option maxHeartbeats 1600000 in
theorem l3attr_any (s : ByteArray) (w : World) :
    Calls Tryz.prog 47 #[.string s] w fun r w' => r = .returned (.int .i64 (findI s attN 0)) ∧ Below w.heap.size w w' := by
  have B1 := (Below.refl w.heap.size w).alloc (Nat.le_refl _) (.cells (attN.map Value.string).toArray 9)
  have I1 := nms_new w 9 attN
  have HM := hide (show attN.length = 6 from rfl)
  have Hw := hide (show w.alloc (.cells (attN.map Value.string).toArray 9) = w.alloc (.cells #[.string ⟨#[99, 108, 105, 101, 110, 116]⟩, .string ⟨#[117, 115, 101, 114]⟩, .string ⟨#[108, 101, 118, 101, 108]⟩, .string ⟨#[110, 111, 119]⟩, .string ⟨#[97, 115, 107, 101, 100]⟩, .string ⟨#[97, 103, 114, 101, 101, 100]⟩] 9) from rfl)
  go_enter Tryz.func47, Tryz.ntmps47
  go_wp2_with fail
  rw [← unhide Hw]
  clear Hw
  generalize w.alloc (.cells (attN.map Value.string).toArray 9) = w1 at B1 I1 ⊢
  go_loopw [7] (fun i wr => ∃ k : Nat, k ≤ 6 ∧ i = .int .i64 k ∧ Below w.heap.size w wr ∧ Below w1.heap.size w1 wr ∧ Hid (findI s attN 0 = findI s ((attN : List ByteArray).drop k) k)) (fun i _ => 6 - (intOf i).toNat)
  case atStart => exact ⟨0, by omega, rfl, B1, Below.refl _ _, hide rfl⟩
  case round =>
    obtain ⟨k, hk, rfl, D0, D1, HF⟩ := hrel
    by_cases hlt : k < 6
    · have ilt : (k : Int) < (6 : Int) := by omega
      have h1 : k < (attN : List ByteArray).length := by rw [unhide HM]; exact hlt
      obtain ⟨b1, o1, hab, hb, c0⟩ := (I1.below D1 (Nat.le_refl _)) k h1
      obtain ⟨rfl, rfl⟩ : b1 = w.heap.size ∧ o1 = 0 := by simpa [eq_comm] using hab
      simp only [Nat.zero_add] at c0
      have HG := hide ((unhide HF).trans (findI_at h1))
      have Hlt := hide hlt
      generalize (attN : List ByteArray)[k] = u at c0 HG
      clear hlt h1 HF
      by_cases hu : u = s
      · have eu : (u.toList == s.toList) = true := (tl_eq u s).2 hu
        have HN := hide ((unhide HG).trans (if_pos hu))
        clear HG hu
        go_wp2_with fail
        go_ret
        exact ⟨by rw [unhide HN]; rfl, D0⟩
      · have eu : (u.toList == s.toList) = false := by rw [Bool.eq_false_iff]; exact fun h => hu ((tl_eq u s).1 h)
        have HN := hide ((unhide HG).trans (if_neg hu))
        clear HG hu
        go_wp2_with fail
        go_roundw
        case rel => exact ⟨k + 1, unhide Hlt, by go_num, D0, D1, HN⟩
        case measure => have := unhide Hlt; simp [intOf]; omega
    · have e : k = 6 := by omega
      subst e
      have HN := hide (show findI s attN 0 = -1 by rw [unhide HF, List.drop_of_length_le (by rw [unhide HM]; omega)]; rfl)
      go_wp2_with fail
      go_ret
      exact ⟨by rw [unhide HN]; rfl, D0⟩

set_option maxRecDepth 100000 in
set_option maxHeartbeats 1600000 in
theorem find_any (lb : Nat) (a : Option Addr) (n c : Nat) (L : List ByteArray) (s : ByteArray) (w : World) (h0 : w.cell? ⟨lb, 0, none⟩ = some (.slice a n c)) (hlb : lb < w.heap.size) (hL : L.length = n) (hn : n ≤ 1048576) (hN : Nms w a L) :
    Calls Tryz.prog 48 #[.pointer (some ⟨lb, 0, none⟩), .string s] w fun r w' => r = .returned (.int .i64 (findI s L 0)) ∧ Below w.heap.size w w' := by
  have HM := hide hL
  obtain ⟨w1, hw1⟩ : ∃ w1, w1 = w := ⟨_, rfl⟩
  have B1 : Below w.heap.size w w1 := by rw [hw1]; exact Below.refl _ _
  have I1 : Nms w1 a L := by rw [hw1]; exact hN
  have Hw := hide hw1
  clear hw1 hL hN
  go_enter Tryz.func48, Tryz.ntmps48
  go_wp2_with fail
  rw [← unhide Hw]
  clear Hw
  go_loopw [12] (fun i wr => ∃ k : Nat, k ≤ n ∧ i = .int .i64 k ∧ Below w.heap.size w wr ∧ Below w1.heap.size w1 wr ∧ Hid (findI s L 0 = findI s ((L : List ByteArray).drop k) k)) (fun i _ => n - (intOf i).toNat)
  case atStart => exact ⟨0, by omega, rfl, B1, Below.refl _ _, hide rfl⟩
  case round =>
    obtain ⟨k, hk, rfl, D0, D1, HF⟩ := hrel
    by_cases hlt : k < n
    · have ilt : (k : Int) < (n : Int) := by omega
      have h1 : k < (L : List ByteArray).length := by rw [unhide HM]; exact hlt
      obtain ⟨b1, o1, hab, hb, c0⟩ := (I1.below D1 (Nat.le_refl _)) k h1
      subst hab
      have HG := hide ((unhide HF).trans (findI_at h1))
      have Hlt := hide hlt
      generalize (L : List ByteArray)[k] = u at c0 HG
      clear hlt h1 HF
      by_cases hu : u = s
      · have eu : (u.toList == s.toList) = true := (tl_eq u s).2 hu
        have HN := hide ((unhide HG).trans (if_pos hu))
        clear HG hu
        go_wp2_with fail
        go_ret
        exact ⟨by rw [unhide HN]; rfl, D0⟩
      · have eu : (u.toList == s.toList) = false := by rw [Bool.eq_false_iff]; exact fun h => hu ((tl_eq u s).1 h)
        have HN := hide ((unhide HG).trans (if_neg hu))
        clear HG hu
        go_wp2_with fail
        go_roundw
        case rel => exact ⟨k + 1, unhide Hlt, by go_num, D0, D1, HN⟩
        case measure => have := unhide Hlt; simp [intOf]; omega
    · have e : k = n := by omega
      subst e
      have HN := hide (show findI s L 0 = -1 by rw [unhide HF, List.drop_of_length_le (by rw [unhide HM]; omega)]; rfl)
      go_wp2_with fail
      go_ret
      exact ⟨by rw [unhide HN]; rfl, D0⟩

end Go.Proofs.YtjapdeehnfoonaaGreatDoor
