/-
  HK, HL, HM. Own work.
-/
import Derived.Test.YtcehablmloleaaaGreatDoorHJ
import Derived.Deep.AppendLies
import Derived.Test.YtcehablmloleaaaGreatDoorNUC
namespace Go.Proofs.YtcehablmloleaaaGreatDoor
open Go.RowKit
set_option linter.unusedVariables false

/-- how far the names are -/
def ScI (T : List Tok) (lo : Nat) (R : List ByteArray) (w : World) (vo vi : Value) (wr : World) : Prop :=
  ∃ (k : Nat) (acc : List ByteArray) (x : Option Addr) (cx : Nat), lo < k ∧ k ≤ T.length ∧ vo = .slice x acc.length cx ∧ vi = .int .i64 (k : Int) ∧ acc.length ≤ k ∧ wr.ownsRow w.heap.size 9 1 (.slice x acc.length cx) acc.length (acc.map Value.string) ∧ acc ++ nmU (T.drop k) = R ∧ Below w.heap.size w wr

set_option maxRecDepth 100000 in
set_option maxHeartbeats 6400000 in
theorem sScopes_any {w : World} {nb ga c : Nat} {T : List Tok} (h : TkM w nb ga c T) (hl : T.length ≤ 4000) (lo : Nat) (hlo : lo < T.length) :
    Calls Tryz.prog 17 #[.pointer (some ⟨nb, 0, none⟩), .int .i64 (lo : Int)] w fun r w' => (∃ x cx, r = .returned (.slice x (nmU (T.drop (lo + 1))).length cx) ∧ w'.ownsRow w.heap.size 9 1 (.slice x (nmU (T.drop (lo + 1))).length cx) (nmU (T.drop (lo + 1))).length ((nmU (T.drop (lo + 1))).map Value.string)) ∧ Below w.heap.size w w' := by
  obtain ⟨i, hi, hz0, hz1, hz2⟩ := info_parts infoS
  have HI := hide (fun (w' : World) (hb : Below w.heap.size w w') (i : Nat) (hi : i < T.length) (s : List UInt8) => is_any (h.below hb) i hi s (ofL s) rfl)
  have HA := hide (fun (w' : World) (hb : Below w.heap.size w w') => h.below hb)
  have HS := hide (show ScI T lo (nmU (T.drop (lo + 1))) w (.slice none 0 0) (.int .i64 ((lo : Int) + 1)) w from ⟨lo + 1, [], none, 0, by omega, by omega, rfl, by rw [Int.natCast_add]; rfl, by simp, World.ownsRow_nil _ _ _ _, rfl, Below.refl _ _⟩)
  generalize nmU (T.drop (lo + 1)) = R at HS ⊢
  clear h
  go_enter Tryz.func17, Tryz.ntmps17
  go_wp2_with fail
  go_loopw [5, 6] (fun vo vi wr => ScI T lo R w vo vi wr) (fun _ vi _ => T.length - (intOf vi).toNat)
  case atStart => exact unhide HS
  case round =>
    clear HS
    obtain ⟨k, acc, x, cx, h1, h2, rfl, rfl, h3, hso, hR, B1⟩ := hrel
    have a0 := (unhide HA wr B1).at0
    by_cases hk : k < T.length
    · have ik : (k : Int) < (T.length : Int) := by omega
      obtain ⟨q0, q1, q2, q3⟩ := (unhide HA wr B1).at4 k hk
      have HQ := hide (fun (w' : World) (hb : Below w.heap.size w w') => (unhide HA w' hb).at4 k hk)
      have hdr := List.drop_eq_getElem_cons hk
      have HIk := hide (fun (w' : World) (hb : Below w.heap.size w w') (s : List UInt8) => unhide HI w' hb k hk s)
      generalize T[k] = t at hdr HIk HQ q0 q1 q2 q3
      have HD := hide hdr
      have HR := hide hR
      have HM := hide (lt_step T.length k hk)
      have HF := hide (fun (acc' : List ByteArray) (x' : Option Addr) (cx' : Nat) (w' : World) (hb : Below w.heap.size w w') (e : acc' ++ nmU (T.drop (k + 1)) = R) (hn : acc'.length ≤ k + 1) (ho : w'.ownsRow w.heap.size 9 1 (.slice x' acc'.length cx') acc'.length (acc'.map Value.string)) => show ScI T lo R w (.slice x' acc'.length cx') (.int .i64 ((k : Int) + 1)) w' from ⟨k + 1, acc', x', cx', by omega, by omega, rfl, by rw [Int.natCast_add]; rfl, hn, ho, e, hb⟩)
      clear hdr hR hk q1 q2 q3 q0
      go_wp2_with fail
      refine (unhide HIk _ B1 kRbr).mono ?_
      rintro r w1 ⟨rfl, hb1⟩
      have B2 := B1.trans (hb1.mono B1.size)
      have hso1 := owns_blocksN (w' := w1) hso (fun q hq => hb1.block q (hso.lt q hq).2)
      obtain ⟨q0, q1, q2, q3⟩ := unhide HQ w1 B2
      have a1 := (unhide HA w1 B2).at0
      dsimp only
      clear hso a0
      cases s1 : see kRbr t
      · have HS1 := hide s1
        clear s1
        by_cases hk2 : t.kind = 2
        · have e2 : (t.kind == 2) = true := by rw [hk2]; rfl
          have HK2 := hide hk2
          have hso2 := hso1.alloc (.cells #[.string t.text] 9)
          have hBw := B2.size
          clear hk2
          go_wp2_with (at_builtin; refine wpList_append_lies _ rfl _ _ 47 rfl w.heap.size 9 i (.string ByteArray.empty) 1 16 Tryz.underlying47 hi hz0 hz1 hz2 rfl (by decide) _ _ _ rfl hso2 ⟨w1.heap.size, 0, none⟩ 1 1 [.string t.text] rfl rfl (cell_one_new w1 _ _) ?c2 (by decide) ?c3 ?c4 ?c5 (w1.heap.size + 1) (by simp) ?_)
          case c2 => intro u hu; rw [List.mem_singleton.1 hu]; rfl
          case c3 => unfold maxLen; omega
          case c4 => omega
          case c5 => simp; omega
          intro gk cap1 w4 Ok hgrow hat hgl
          have B6 := (B2.alloc hBw (.cells #[.string t.text] 9)).grown hgrow (by simp; omega) (fun q hq => (hso1.lt q hq).1)
          have HN := hide (unhide HF (acc ++ [t.text]) (some ⟨gk, 0, none⟩) cap1 w4 B6 (by rw [← unhide HR, unhide HD, nmU, unhide HS1, if_neg (by decide), if_pos (unhide HK2), List.append_assoc]; rfl) (by simp; omega) (by rw [List.length_append, List.map_append]; exact Ok))
          rw [List.length_append] at HN
          clear Ok hgrow hat hgl hso1 hso2 B6
          go_wp2_with fail
          exact ⟨unhide HN, unhide HM⟩
        · have e2 : (t.kind == 2) = false := by simpa using hk2
          have HN := hide (unhide HF acc x cx w1 B2 (by rw [← unhide HR, unhide HD, nmU, unhide HS1, if_neg (by decide), if_neg hk2]) (by omega) hso1)
          clear hk2
          go_wp2_with fail
          exact ⟨unhide HN, unhide HM⟩
      · have HN := hide (show R = acc by rw [← unhide HR, unhide HD, nmU, s1, if_pos rfl, List.append_nil])
        clear s1
        go_wp2_with fail
        go_ret
        exact ⟨⟨x, cx, by rw [unhide HN]; rfl, by rw [unhide HN]; exact hso1⟩, B2⟩
    · have ik : ¬ ((k : Int) < (T.length : Int)) := by omega
      have HN := hide (show R = acc by rw [← hR, List.drop_eq_nil_of_le (by omega), nmU, List.append_nil])
      clear hR hk
      go_wp2_with fail
      go_ret
      exact ⟨⟨x, cx, by rw [unhide HN]; rfl, by rw [unhide HN]; exact hso⟩, B1⟩

end Go.Proofs.YtcehablmloleaaaGreatDoor

namespace Go.Proofs.YtcehablmloleaaaGreatDoor
open Go.RowKit
set_option linter.unusedVariables false

def opLits : List (List UInt8) := [[43], [45], [42], [47], [37], [124], [38], [92], [61, 61], [33, 61], [60], [60, 61], [105, 110], [119, 105, 116, 104, 105, 110], [97, 110, 100], [111, 114]]

/-- how far the look for an operator's number is -/
def OpI (w W : World) (s : List UInt8) (p0 : Nat) (vi : Value) (wr : World) : Prop := ∃ p : Nat, p ≤ p0 ∧ vi = .int .i64 (p : Int) ∧ wr = W

set_option maxRecDepth 100000 in
set_option maxHeartbeats 6400000 in
theorem l2op_any (s : List UInt8) (p0 : Nat) (h0 : opLits[p0]? = some s) (hf : ∀ j, j < p0 → opLits[j]? ≠ some s) (w : World) :
    Calls Tryz.prog 58 #[.string (ofL s)] w fun r w' => r = .returned (.int .i64 (11 + (p0 : Int))) ∧ Below w.heap.size w w' := by
  have hp0 : p0 < 16 := (List.getElem?_eq_some_iff.1 h0).1
  have HF := hide (And.intro h0 hf)
  have B0 := (Below.refl w.heap.size w).alloc (Nat.le_refl _) (.cells #[.string ⟨#[43]⟩, .string ⟨#[45]⟩, .string ⟨#[42]⟩, .string ⟨#[47]⟩, .string ⟨#[37]⟩, .string ⟨#[124]⟩, .string ⟨#[38]⟩, .string ⟨#[92]⟩, .string ⟨#[61, 61]⟩, .string ⟨#[33, 61]⟩, .string ⟨#[60]⟩, .string ⟨#[60, 61]⟩, .string ⟨#[105, 110]⟩, .string ⟨#[119, 105, 116, 104, 105, 110]⟩, .string ⟨#[97, 110, 100]⟩, .string ⟨#[111, 114]⟩] 9)
  have HC := hide (fun (p : Nat) (y : List UInt8) (hy : opLits[p]? = some y) => show (w.alloc (.cells #[.string ⟨#[43]⟩, .string ⟨#[45]⟩, .string ⟨#[42]⟩, .string ⟨#[47]⟩, .string ⟨#[37]⟩, .string ⟨#[124]⟩, .string ⟨#[38]⟩, .string ⟨#[92]⟩, .string ⟨#[61, 61]⟩, .string ⟨#[33, 61]⟩, .string ⟨#[60]⟩, .string ⟨#[60, 61]⟩, .string ⟨#[105, 110]⟩, .string ⟨#[119, 105, 116, 104, 105, 110]⟩, .string ⟨#[97, 110, 100]⟩, .string ⟨#[111, 114]⟩] 9)).cell? ⟨w.heap.size, p, none⟩ = some (.string (ofL y)) from by
    have hp : p < 16 := (List.getElem?_eq_some_iff.1 hy).1
    rw [(own_lit w #[.string ⟨#[43]⟩, .string ⟨#[45]⟩, .string ⟨#[42]⟩, .string ⟨#[47]⟩, .string ⟨#[37]⟩, .string ⟨#[124]⟩, .string ⟨#[38]⟩, .string ⟨#[92]⟩, .string ⟨#[61, 61]⟩, .string ⟨#[33, 61]⟩, .string ⟨#[60]⟩, .string ⟨#[60, 61]⟩, .string ⟨#[105, 110]⟩, .string ⟨#[119, 105, 116, 104, 105, 110]⟩, .string ⟨#[97, 110, 100]⟩, .string ⟨#[111, 114]⟩] 16 rfl (by unfold maxLen; omega)).cellAt p hp]
    show (opLits.map fun x => Value.string (ofL x))[p]? = _
    rw [List.getElem?_map, hy]
    rfl)
  clear h0 hf
  go_enter Tryz.func58, Tryz.ntmps58
  go_wp2_with fail
  generalize w.alloc (.cells #[.string ⟨#[43]⟩, .string ⟨#[45]⟩, .string ⟨#[42]⟩, .string ⟨#[47]⟩, .string ⟨#[37]⟩, .string ⟨#[124]⟩, .string ⟨#[38]⟩, .string ⟨#[92]⟩, .string ⟨#[61, 61]⟩, .string ⟨#[33, 61]⟩, .string ⟨#[60]⟩, .string ⟨#[60, 61]⟩, .string ⟨#[105, 110]⟩, .string ⟨#[119, 105, 116, 104, 105, 110]⟩, .string ⟨#[97, 110, 100]⟩, .string ⟨#[111, 114]⟩] 9) = W at B0 HC ⊢
  go_loopw [3, 4, 7] (fun _ _ vi wr => OpI w W s p0 vi wr) (fun _ _ vi _ => 16 - (intOf vi).toNat)
  case atStart => exact ⟨0, Nat.zero_le _, rfl, rfl⟩
  case round =>
    obtain ⟨p, hp, rfl, rfl⟩ := hrel
    have hpl : p < opLits.length := Nat.lt_of_le_of_lt hp hp0
    obtain ⟨y, hy⟩ : ∃ y, opLits[p]? = some y := ⟨_, List.getElem?_eq_getElem hpl⟩
    have hc := unhide HC p y hy
    have ip : (p : Int) < 16 := by omega
    have HM := hide (lt_step 16 p (by omega))
    by_cases e : p = p0
    · subst e
      have ee : y = s := by
        have := (unhide HF).1
        rw [hy] at this
        injection this
      rw [ee] at hc
      clear ee hy hpl
      go_wp2_with fail
      go_ret
      exact ⟨rfl, B0⟩
    · have en : ((ofL s).toList == (ofL y).toList) = false := by
        rw [eqL, ByteArray.toList_eq]
        refine decide_eq_false (fun h => (unhide HF).2 p (by omega) ?_)
        rw [hy, h]
        rfl
      have HN := hide (show OpI w wr s p0 (.int .i64 ((p : Int) + 1)) wr from ⟨p + 1, by omega, by rw [Int.natCast_add]; rfl, rfl⟩)
      clear hy hpl e
      go_wp2_with fail
      exact ⟨unhide HN, unhide HM⟩

end Go.Proofs.YtcehablmloleaaaGreatDoor

namespace Go.Proofs.YtcehablmloleaaaGreatDoor
open Go.RowKit
set_option linter.unusedVariables false

/-- the policy that is being written down, as it lies -/
structure LuO (w : World) (B nb : Nat) (tv : Value) (N : List Nd) (P : List Int) (nd pl : Value) (nv kv : List Value) : Prop where
  row : Row w nb #[tv, nd, pl] 45
  nodes : OwnN w B nd N nv kv
  places : w.ownsRow B 3 1 pl P.length (intsV P)
  apart : ∀ q, pl.ownBlock = some q → ∀ j, (hj : j < kv.length) → kv[j].ownBlock ≠ some q
  low : B ≤ nb

theorem LuO.below {w w' : World} {B nb : Nat} {tv : Value} {N : List Nd} {P : List Int} {nd pl : Value} {nv kv : List Value} (h : LuO w B nb tv N P nd pl nv kv) (hb : Below w.heap.size w w') : LuO w' B nb tv N P nd pl nv kv :=
  ⟨h.row.after hb (Nat.le_refl _), h.nodes.blocks (fun k _ hk => hb.block k hk), owns_blocksN h.places (fun q hq => hb.block q (h.places.lt q hq).2), h.apart, h.low⟩

theorem LuO.pushN {W w7 : World} {B nb g7 c7 : Nat} {tv : Value} {N : List Nd} {P : List Int} {nd pl u k : Value} {nv kv : List Value} {x : Nd} (C : LuO W B nb tv N P nd pl nv kv) (o : Obj) (hB : B ≤ W.heap.size) (hu : W.ownsRow B 9 1 u x.names.length (x.names.map Value.string)) (hk : W.ownsRow B 3 1 k x.kids.length (intsV x.kids))
    (hua : ∀ j, (hj : j < nv.length) → ∀ q, nv[j].ownBlock = some q → u.ownBlock ≠ some q) (hka : ∀ j, (hj : j < kv.length) → ∀ q, kv[j].ownBlock = some q → k.ownBlock ≠ some q) (hpk : ∀ q, k.ownBlock = some q → pl.ownBlock ≠ some q)
    (hg : (W.alloc o).grownBy w7 nd.ownBlock) (O7 : w7.ownsRow B 91 5 (.slice (some ⟨g7, 0, none⟩) (N.length + 1) c7) (N.length + 1) (ndC N nv kv ++ nd5 x u k)) (hat : nd.ownBlock = some g7 ∨ g7 = W.heap.size + 1) :
    LuO (w7.setCell ⟨nb, 1, none⟩ (.slice (some ⟨g7, 0, none⟩) (N.length + 1) c7)) B nb tv (N ++ [x]) P (.slice (some ⟨g7, 0, none⟩) (N.length + 1) c7) pl (nv ++ [u]) (kv ++ [k]) ∧ Nk B nb nd pl W (.slice (some ⟨g7, 0, none⟩) (N.length + 1) c7) pl (w7.setCell ⟨nb, 1, none⟩ (.slice (some ⟨g7, 0, none⟩) (N.length + 1) c7)) := by
  have C0 := (Below.refl W.heap.size W).alloc (Nat.le_refl _) o
  have C1 := C.below C0
  have hu1 := owns_blocksN (w' := W.alloc o) hu (fun q hq => C0.block q (hu.lt q hq).2)
  have hk1 := owns_blocksN (w' := W.alloc o) hk (fun q hq => C0.block q (hk.lt q hq).2)
  have n1 : nd.ownBlock ≠ some nb := own_ne_row C.row C.nodes.own (by decide)
  have R7 : Row w7 nb #[tv, nd, pl] 45 := ⟨(grow_keep hg nb C.row.lt n1).trans C.row.out⟩
  have N7 := C1.nodes.snoc hu1 hk1 hua hka O7 hg
  have P7 : w7.ownsRow B 3 1 pl P.length (intsV P) := owns_blocksN C.places (fun q hq => grow_keep hg q (C.places.lt q hq).2 (fun e => own_ne_ownN C.places C.nodes.own (by decide) q hq e))
  have sc : ∀ q, q ≠ nb → (w7.setCell ⟨nb, 1, none⟩ (.slice (some ⟨g7, 0, none⟩) (N.length + 1) c7)).heap[q]? = w7.heap[q]? := fun q hq => heap_setCell_other w7 ⟨nb, 1, none⟩ q _ hq
  refine ⟨⟨R7.set 1 _, N7.upto (fun q hq => sc q (fun e => own_ne_row R7 N7.own (by decide) (by rw [hq, e]))) (fun j hj q hq => sc q (fun e => own_ne_row R7 (N7.names j (by rw [← N7.len]; exact hj) hj) (by decide) (by rw [hq, e]))) (fun j hj q hq => sc q (fun e => own_ne_row R7 (N7.kids j (by rw [← N7.lenk]; exact hj) hj) (by decide) (by rw [hq, e]))), owns_blocksN P7 (fun q hq => sc q (fun e => own_ne_row R7 P7 (by decide) (by rw [hq, e]))), fun q hq j hj e => ?_, C.low⟩, ⟨?_, fun q h1 h2 h3 h4 => (sc q h2).trans (grow_keep hg q h1 h3), fun q hq => ?_, fun q hq => .inl hq⟩⟩
  · by_cases hjn : j < kv.length
    · rw [List.getElem_append_left hjn] at e
      exact C.apart q hq j hjn e
    · have ej : j = kv.length := by simp at hj; omega
      subst ej
      simp at e
      exact hpk q e hq
  · exact ((C0.mono hB).grown hg (by simp; omega) (fun q hq => (C.nodes.lts.1 q hq).1)).setCell (p := ⟨nb, 1, none⟩) C.low _
  · have e : g7 = q := by simpa [Value.ownBlock] using hq
    subst e
    exact hat.imp id (fun e => by omega)

theorem LuO.pushP {W w7 : World} {B nb g7 c7 : Nat} {tv : Value} {N : List Nd} {P : List Int} {nd pl : Value} {nv kv : List Value} (C : LuO W B nb tv N P nd pl nv kv) (o : Obj) (a : Int) (hB : B ≤ W.heap.size)
    (hg : (W.alloc o).grownBy w7 pl.ownBlock) (O7 : w7.ownsRow B 3 1 (.slice (some ⟨g7, 0, none⟩) (P.length + 1) c7) (P.length + 1) (intsV P ++ [.int .i64 a])) (hat : pl.ownBlock = some g7 ∨ g7 = W.heap.size + 1) :
    LuO (w7.setCell ⟨nb, 2, none⟩ (.slice (some ⟨g7, 0, none⟩) (P.length + 1) c7)) B nb tv N (P ++ [a]) nd (.slice (some ⟨g7, 0, none⟩) (P.length + 1) c7) nv kv ∧ Nk B nb nd pl W nd (.slice (some ⟨g7, 0, none⟩) (P.length + 1) c7) (w7.setCell ⟨nb, 2, none⟩ (.slice (some ⟨g7, 0, none⟩) (P.length + 1) c7)) := by
  have C0 := (Below.refl W.heap.size W).alloc (Nat.le_refl _) o
  have n1 : pl.ownBlock ≠ some nb := own_ne_row C.row C.places (by decide)
  have R7 : Row w7 nb #[tv, nd, pl] 45 := ⟨(grow_keep hg nb C.row.lt n1).trans C.row.out⟩
  have sc : ∀ q, q ≠ nb → (w7.setCell ⟨nb, 2, none⟩ (.slice (some ⟨g7, 0, none⟩) (P.length + 1) c7)).heap[q]? = w7.heap[q]? := fun q hq => heap_setCell_other w7 ⟨nb, 2, none⟩ q _ hq
  have N7 : OwnN w7 B nd N nv kv := C.nodes.upto (fun q hq => grow_keep hg q (C.nodes.lts.1 q hq).2 (fun e => own_ne_ownN C.places C.nodes.own (by decide) q e hq)) (fun j hj q hq => grow_keep hg q (C.nodes.lts.2.1 j hj q hq).2 (fun e => own_ne_ownN C.places (C.nodes.names j (by rw [← C.nodes.len]; exact hj) hj) (by decide) q e hq)) (fun j hj q hq => grow_keep hg q (C.nodes.lts.2.2 j hj q hq).2 (fun e => C.apart q e j hj hq))
  refine ⟨⟨R7.set 2 _, N7.upto (fun q hq => sc q (fun e => own_ne_row R7 N7.own (by decide) (by rw [hq, e]))) (fun j hj q hq => sc q (fun e => own_ne_row R7 (N7.names j (by rw [← N7.len]; exact hj) hj) (by decide) (by rw [hq, e]))) (fun j hj q hq => sc q (fun e => own_ne_row R7 (N7.kids j (by rw [← N7.lenk]; exact hj) hj) (by decide) (by rw [hq, e]))), ?_, fun q hq j hj e => ?_, C.low⟩, ⟨?_, fun q h1 h2 h3 h4 => (sc q h2).trans (grow_keep hg q h1 h4), fun q hq => .inl hq, fun q hq => ?_⟩⟩
  · have := owns_blocksN (w' := w7.setCell ⟨nb, 2, none⟩ (.slice (some ⟨g7, 0, none⟩) (P.length + 1) c7)) O7 (fun q hq => sc q (fun e => own_ne_row R7 O7 (by decide) (by rw [hq, e])))
    simpa [intsV] using this
  · have eg : g7 = q := by simpa [Value.ownBlock] using hq
    subst eg
    rcases hat with h1 | h1
    · exact C.apart g7 h1 j hj e
    · have := (C.nodes.lts.2.2 j hj g7 e).2; omega
  · exact ((C0.mono hB).grown hg (by simp; omega) (fun q hq => (C.places.lt q hq).1)).setCell (p := ⟨nb, 2, none⟩) C.low _
  · have e : g7 = q := by simpa [Value.ownBlock] using hq
    subst e
    exact hat.imp id (fun e => by omega)

end Go.Proofs.YtcehablmloleaaaGreatDoor
