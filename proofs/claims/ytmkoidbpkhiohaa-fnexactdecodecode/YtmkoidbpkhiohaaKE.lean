/-
  The program's reader: names. Own work.
-/
import Derived.Test.YtmkoidbpkhiohaaKD
import Derived.Test.YtmkoidbpkhiohaaMem
import Derived.Deep.AppendLies
import Derived.Deep.RegionHeld3
import Derived.Deep.RegionLaw
import Derived.OwnWalk
namespace Go.Proofs.Ytmkoidbpkhiohaa
open Go.RowKit
set_option linter.unusedVariables false

def slLen : Value → Nat | .slice _ n _ => n | _ => 0

theorem Touch.grown {lo hi : Nat} {w w1 w2 : World} {row : Option Nat} (T : Touch lo hi w w1) (h : w1.grownBy w2 row) (hr : ∀ k, row = some k → w.heap.size ≤ k) : Touch lo hi w w2 :=
  ⟨h.os.trans T.os, h.tape.trans T.tape, h.output.trans T.output, Nat.le_trans T.size h.size, fun k hk hd => (h.block k (Nat.lt_of_lt_of_le hk T.size) (fun e => by have := hr k e.symm; omega)).trans (T.block k hk hd)⟩

theorem Bys.blocks {w w' : World} {B n c : Nat} {a : Option Addr} {L : List Int} (h : Bys w B a n c L) (hb : ∀ k, k < B → k < w.heap.size → w'.heap[k]? = w.heap[k]?) (hs : w.heap.size ≤ w'.heap.size) : Bys w' B a n c L :=
  ⟨h.len, h.cap, h.small, h.ok, fun j hj => by
    obtain ⟨b, off, ha, hlt, hw, hc⟩ := h.cells j hj
    exact ⟨b, off, ha, hlt, Nat.lt_of_lt_of_le hw hs, (World.cell?_of_block (hb b hlt hw)).trans hc⟩⟩

/-- the reader, behind what leaves its block and those ahead of it -/
theorem IRs.blocks {w w' : World} {g : Nat} {h0 h1 h2 : Int} {s : Rs} (h : IRs w g h0 h1 h2 s) (hb : ∀ k, k ≤ g → w'.heap[k]? = w.heap[k]?) (hs : w.heap.size ≤ w'.heap.size) : IRs w' g h0 h1 h2 s := by
  obtain ⟨a, n, c, R, hB⟩ := h
  exact ⟨a, n, c, ⟨(hb g (Nat.le_refl _)).trans R.out⟩, hB.blocks (fun k hk _ => hb k (Nat.le_of_lt hk)) hs⟩

theorem IRs.lt {w : World} {g : Nat} {h0 h1 h2 : Int} {s : Rs} (h : IRs w g h0 h1 h2 s) : g < w.heap.size := by
  obtain ⟨a, n, c, R, hB⟩ := h
  exact R.lt

theorem IRs.grown {w w' : World} {g : Nat} {h0 h1 h2 : Int} {s : Rs} {row : Option Nat} (h : IRs w g h0 h1 h2 s) (hg : w.grownBy w' row) (hr : ∀ k, row = some k → g < k) : IRs w' g h0 h1 h2 s :=
  h.blocks (fun k hk => hg.block k (Nat.lt_of_le_of_lt hk h.lt) (fun e => by have := hr k e.symm; omega)) hg.size

theorem IRs.alloc {w : World} {g : Nat} {h0 h1 h2 : Int} {s : Rs} (h : IRs w g h0 h1 h2 s) (o : Obj) : IRs (w.alloc o) g h0 h1 h2 s :=
  h.blocks (fun k hk => Below.heap_alloc w o k (Nat.lt_of_le_of_lt hk h.lt)) (by simp)

theorem IRs.setFar {w : World} {g : Nat} {h0 h1 h2 : Int} {s : Rs} (h : IRs w g h0 h1 h2 s) (p : Addr) (u : Value) (hp : g < p.block) : IRs (w.setCell p u) g h0 h1 h2 s :=
  h.blocks (fun k hk => heap_setCell_other w p k u (by omega)) (by simp)

theorem owns_touch {w w' : World} {lo hi base : Nat} {e : TypeId} {size n : Nat} {v : Value} {xs : List Value} (h : w.ownsRow base e size v n xs) (T : Touch lo hi w w') (hd : ∀ q, v.ownBlock = some q → q < lo ∨ hi ≤ q) : w'.ownsRow base e size v n xs := by
  refine ⟨h.1, ?_⟩
  rcases h.2 with h2 | ⟨g, cap, cur, hv, h3, hg, h4⟩
  · exact .inl h2
  · refine .inr ⟨g, cap, cur, hv, h3, ?_, h4⟩
    rw [← hg]
    refine T.block g (Array.getElem?_eq_some_iff.1 hg).1 (hd g ?_)
    rw [hv]; rfl

theorem manyI_stop {α : Type} (f : Rs → α × Rs) (k : Nat) (s : Rs) (h : s.2 = true) : manyI f k s = ([], s) := by
  cases k with
  | zero => rfl
  | succ k => rw [manyI, if_pos h]

theorem manyI_step {α : Type} (f : Rs → α × Rs) (k : Nat) (s : Rs) (h : s.2 = false) (acc : List α) : (acc ++ (manyI f (k + 1) s).1, (manyI f (k + 1) s).2) = ((acc ++ [(f s).1]) ++ (manyI f k (f s).2).1, (manyI f k (f s).2).2) := by
  rw [manyI, if_neg (by rw [h]; decide)]; simp

theorem textI_ok (s : Rs) (h : okB s.1) : (textI s).1.size ≤ 255 ∧ okB (textI s).2.1 := by
  have h1 := num1_range s h
  have h2 := takeI_len (numI 1 s).1.toNat (numI 1 s).2
  have h3 := takeI_ok (numI 1 s).1.toNat (numI 1 s).2 (takeI_ok 1 s h).2
  refine ⟨?_, h3.2⟩
  show (bstr (takeI (numI 1 s).1.toNat (numI 1 s).2).1).size ≤ 255
  rw [bstr_size]; omega

/-- names of the call's own, and the reader behind them -/
def NsAns (w : World) (g : Nat) (h0 h1 h2 : Int) (r : List ByteArray × Rs) (e : Ending) (w' : World) : Prop := ∃ a c, e = .returned (.slice a r.1.length c) ∧ w'.ownsRow w.heap.size 9 1 (.slice a r.1.length c) r.1.length (r.1.map Value.string) ∧ IRs w' g h0 h1 h2 r.2 ∧ Touch g (g + 1) w w'

def namesI : Rs → List ByteArray × Rs := bnd (numI 1) fun n => manyI textI n.toNat

set_option maxRecDepth 100000 in
set_option maxHeartbeats 1600000 in
theorem names_any (g : Nat) (h0 h1 h2 : Int) (s : Rs) (w : World) (h : IRs w g h0 h1 h2 s) :
    Calls Try.prog 43 #[.pointer (some ⟨g, 0, none⟩)] w fun e w' => NsAns w g h0 h1 h2 (namesI s) e w' := by
  obtain ⟨i, hi, hz0, hz1, hz2⟩ := info_parts infoS
  have hg := h.lt
  have HN := hide (number_1 g h0 h1 h2 s w h)
  have hr := num1_range s h.ok
  have hr0 := hr.1
  have hr1 := hr.2
  have HX := hide (show namesI s = manyI textI (numI 1 s).1.toNat (numI 1 s).2 from rfl)
  generalize numI 1 s = r at HN HX hr0 hr1
  obtain ⟨k, s1⟩ := r
  simp only at hr0 hr1
  obtain ⟨K, rfl⟩ := Int.eq_ofNat_of_zero_le hr0
  have HX := hide (show namesI s = manyI textI K s1 from unhide HX)
  have hK : K ≤ 255 := by omega
  clear hr h hr0 hr1
  go_enter Try.func43, Try.ntmps43
  go_wp2_with (go_at_call 30; refine (unhide HN).mono ?_; rintro e w1 ⟨rfl, hR, hT⟩; simp only at hR)
  go_loopw [3] (fun v wr => ∃ (x : Option Addr) (cx : Nat) (acc : List ByteArray) (st : Rs) (k : Nat), v = .slice x acc.length cx ∧ wr.ownsRow w.heap.size 9 1 (.slice x acc.length cx) acc.length (acc.map Value.string) ∧ acc.length + k = K ∧ IRs wr g h0 h1 h2 st ∧ Hid ((acc ++ (manyI textI k st).1, (manyI textI k st).2) = manyI textI K s1) ∧ Touch g (g + 1) w wr) (fun v _ => K - slLen v)
  case atStart => exact ⟨none, 0, [], s1, K, rfl, World.ownsRow_nil _ _ _ _, by simp, hR, hide (by simp), hT⟩
  case round =>
    obtain ⟨x, cx, acc, ⟨st, bk⟩, k, rfl, hown, hk, hR1, hM, hT1⟩ := hrel
    have hbs := hT1.size
    obtain ⟨a1, n1, c1, RR, BB⟩ := id hR1
    obtain ⟨q0, q1, q2, q3, q4⟩ := row5 RR
    simp only at q4
    clear RR BB
    cases k with
    | zero =>
      have ilt : ¬ ((acc.length : Int) < (K : Int)) := by omega
      have hM1 := unhide hM
      rw [manyI, List.append_nil] at hM1
      have HM := hide hM1
      clear hM1
      go_wp2_with fail
      go_ret
      rw [unhide HX, ← unhide HM]
      exact ⟨x, cx, rfl, hown, hR1, hT1⟩
    | succ k =>
      have ilt : (acc.length : Int) < (K : Int) := by omega
      cases bk with
      | true =>
        have hM1 := unhide hM
        rw [manyI_stop _ _ _ rfl, List.append_nil] at hM1
        have HM := hide hM1
        clear hM1
        go_wp2_with fail
        go_ret
        rw [unhide HX, ← unhide HM]
        exact ⟨x, cx, rfl, hown, hR1, hT1⟩
      | false =>
        have hM1 := unhide hM
        rw [manyI_step _ _ _ rfl] at hM1
        have HM := hide hM1
        clear hM1 hM
        have htx := textI_ok (st, false) hR1.ok
        have HT := hide (rtext_any g h0 h1 h2 (st, false) wr hR1)
        generalize textI (st, false) = r at HM HT htx
        obtain ⟨tx, s2⟩ := r
        simp only at HM htx
        have Hk := hide hk
        have hacc : acc.length ≤ 255 := by omega
        clear hk
        have hlo : ∀ q, (Value.slice x acc.length cx).ownBlock = some q → w.heap.size ≤ q := fun q hq => (hown.lt q hq).1
        go_wp2_with (first
          | (go_at_call 42; refine (unhide HT).mono ?_; rintro e w2 ⟨rfl, hR2, hT2⟩; simp only at hR2; have ow2 := owns_touch hown hT2 (fun q hq => .inr (by have := hlo q hq; omega)); have T2 := hT1.trans hT2; have z2 := hT2.size)
          | (at_builtin; refine wpList_append_lies _ rfl _ _ 40 rfl w.heap.size 9 i (.string ByteArray.empty) 1 16 Try.underlying40 hi hz0 hz1 hz2 rfl (by decide) (.slice x acc.length cx) acc.length (acc.map Value.string) rfl (World.ownsRow.alloc ow2 _) ⟨w2.heap.size, 0, none⟩ 1 1 [.string tx] rfl rfl ?a1 ?a2 (by decide) ?a3 ?a4 ?a5 _ rfl ?_))
        case a1 => exact World.news_of_block (heap_alloc_new w2 _)
        case a2 => intro u hu; simp at hu; subst hu; rfl
        case a3 => unfold maxLen; omega
        case a4 => omega
        case a5 => simp; omega
        intro g3 cap w3 O3 hgrow hat hgl
        have T3 := (T2.trans (Touch.of_below ((Below.refl w2.heap.size w2).alloc (Nat.le_refl _) (.cells #[.string tx] 9)) (Nat.le_refl _))).grown hgrow hlo
        have R3 := (hR2.alloc (.cells #[.string tx] 9)).grown hgrow (fun q hq => by have := hlo q hq; omega)
        have O4 : w3.ownsRow w.heap.size 9 1 (.slice (some ⟨g3, 0, none⟩) (acc ++ [tx]).length cap) (acc ++ [tx]).length ((acc ++ [tx]).map Value.string) := by
          rw [List.length_append, List.length_singleton, List.map_append]; exact O3
        clear hgrow hat O3 hgl T2 hR2 ow2 hown hT1 hT2 hR1
        go_wp2_with fail
        go_roundw
        case rel => exact ⟨some ⟨g3, 0, none⟩, cap, acc ++ [tx], s2, k, by rw [List.length_append, List.length_singleton], O4, by have := unhide Hk; rw [List.length_append, List.length_singleton]; omega, R3, HM, T3⟩
        case measure => have := unhide Hk; simp [slLen]; omega

end Go.Proofs.Ytmkoidbpkhiohaa
