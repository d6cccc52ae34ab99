/-
  HT, HQ, HR0, HR, HR1, HU0. Own work.
-/
import Derived.Test.YtcehablmloleaaaGreatDoorMXAQ
import Derived.Test.YtcehablmloleaaaGreatDoorMXAL
namespace Go.Proofs.YtcehablmloleaaaGreatDoor
open Go.RowKit
set_option linter.unusedVariables false

theorem OwnN.kid {w : World} {lo g c : Nat} {N : List Nd} {nv kv : List Value} (h : OwnN w lo (.slice (some ⟨g, 0, none⟩) N.length c) N nv kv) (t : Nat) (ht : t < N.length) :
    ∃ x m, w.cell? ⟨g, t * 5 + 4, none⟩ = some (.slice x N[t].kids.length m) ∧ (∀ j, (hj : j < N[t].kids.length) → ∃ b, x = some ⟨b, 0, none⟩ ∧ b < w.heap.size ∧ w.cell? ⟨b, j, none⟩ = some (.int .i64 (N[t].kids[j]))) ∧ g < w.heap.size := by
  have h1 : t < nv.length := by rw [h.len]; exact ht
  have h2 : t < kv.length := by rw [h.lenk]; exact ht
  have hc := ndC_at N nv kv t ht h1 h2 4 (by omega)
  have ho := h.kids t ht h2
  have hg := h.own
  obtain ⟨x, m, hv, hx⟩ := owns_form2 ho
  obtain ⟨x', m', hv', hx'⟩ := owns_form2 hg
  obtain ⟨g', e', _, hcell⟩ := hx' (by omega)
  simp only [Value.slice.injEq] at hv'
  obtain ⟨rfl, _, _⟩ := hv'
  simp only [Option.some.injEq, Addr.mk.injEq, and_true] at e'
  subst e'
  refine ⟨x, m, ?_, fun j hj => ?_, (hg.lt g rfl).2⟩
  · rw [← hv]
    exact hcell _ _ (hc.trans rfl)
  · obtain ⟨b, e, _, hcb⟩ := hx (by omega)
    refine ⟨b, e, (ho.lt b (by rw [hv, e]; rfl)).2, hcb j _ ?_⟩
    simp [intsV, hj]

/-- how far the depths of the kids are -/
def DpI (ds : List Int) (w : World) (vd vi : Value) (wr : World) : Prop :=
  ∃ j : Nat, j ≤ ds.length ∧ vi = .int .i64 (j : Int) ∧ vd = .int .i64 ((ds.take j).foldl mx 0) ∧ Below w.heap.size w wr

theorem mx_fold : ∀ (ds : List Int) (d : Int), 0 ≤ d ∧ d ≤ 65535 → (∀ x ∈ ds, 0 ≤ x ∧ x ≤ 65535) → 0 ≤ ds.foldl mx d ∧ ds.foldl mx d ≤ 65535
  | [], d, h, _ => h
  | x :: ds, d, h, hd => by
    rw [List.foldl_cons]
    refine mx_fold ds _ ?_ (fun y hy => hd y (List.mem_cons_of_mem _ hy))
    have := hd x (List.mem_cons_self ..)
    unfold mx; split <;> omega

set_option maxRecDepth 100000 in
set_option maxHeartbeats 6400000 in
theorem dep_node {w : World} {B g c : Nat} {N : List Nd} {nv kv : List Value} (hN : OwnN w B (.slice (some ⟨g, 0, none⟩) N.length c) N nv kv) (hs : N.length ≤ 65535) (t : Nat) (ht : t < N.length) (ks ds : List Int) (hk : N[t].kids = ks) (hd : ds.length = ks.length) (h3 : ks.length ≤ 3) (hds : ∀ x ∈ ds, 0 ≤ x ∧ x ≤ 65535)
    (ih : ∀ j (h : j < ks.length) (h' : j < ds.length) (w' : World), Below w.heap.size w w' → Calls Tryz.prog 33 #[.slice (some ⟨g, 0, none⟩) N.length c, .int .i64 ks[j]] w' fun r w'' => r = .returned (.int .i64 ds[j]) ∧ Below w'.heap.size w' w'') :
    Calls Tryz.prog 33 #[.slice (some ⟨g, 0, none⟩) N.length c, .int .i64 (t : Int)] w fun r w' => r = .returned (.int .i64 (ds.foldl mx 0 + 1)) ∧ Below w.heap.size w w' := by
  obtain ⟨x, m, c4, hkc, hgl⟩ := hN.kid t ht
  subst hk
  generalize N[t].kids = ks at *
  have itn : (t : Int) < (N.length : Int) := by omega
  have HIH := hide ih
  have HDS := hide (And.intro hd hds)
  have HKC := hide hkc
  have HS := hide (show DpI ds w (.int .i64 0) (.int .i64 0) w from ⟨0, by omega, rfl, rfl, Below.refl _ _⟩)
  clear ih hkc hds hd hN
  go_enter Tryz.func33, Tryz.ntmps33
  go_wp2_with fail
  go_loopw [5, 15] (fun vd vi wr => DpI ds w vd vi wr) (fun _ vi _ => ds.length - (intOf vi).toNat)
  case atStart => exact unhide HS
  case round =>
    clear HS
    obtain ⟨j, hj, rfl, rfl, B1⟩ := hrel
    obtain ⟨hd, hds⟩ := unhide HDS
    have hD := mx_fold (ds.take j) 0 (by omega) (fun y hy => hds y (List.mem_of_mem_take hy))
    by_cases hjl : j < ds.length
    · have ijl : (j : Int) < (ks.length : Int) := by omega
      have HM := hide (lt_step ds.length j hjl)
      have HIJ := hide (unhide HIH j (by omega) hjl)
      obtain ⟨b, rfl, hbl, cj0⟩ := unhide HKC j (by omega)
      have cj := (B1.cell (p := ⟨b, j, none⟩) hbl).trans cj0
      clear cj0
      have hdj := hds _ (List.getElem_mem hjl)
      have HN := hide (fun (w' : World) (hb : Below w.heap.size w w') => show DpI ds w (.int .i64 (mx ((ds.take j).foldl mx 0) ds[j])) (.int .i64 ((j : Int) + 1)) w' from ⟨j + 1, by omega, by rw [Int.natCast_add]; rfl, by rw [List.take_succ_eq_append_getElem hjl, List.foldl_append]; rfl, hb⟩)
      generalize (ds.take j).foldl mx 0 = D at hD HN
      generalize ds[j] = y at hdj HN HIJ
      generalize ks[j] = k at cj HIJ
      clear hd hds hjl hbl
      by_cases hgt : D < y
      · rw [show mx D y = y from if_pos hgt] at HN
        go_wp2_with fail
        refine (unhide HIJ _ B1).mono ?_
        rintro r w2 ⟨rfl, hb2⟩
        dsimp only
        go_wp2_with fail
        exact ⟨unhide HN _ (B1.trans (hb2.mono B1.size)), unhide HM⟩
      · rw [show mx D y = D from if_neg hgt] at HN
        go_wp2_with fail
        refine (unhide HIJ _ B1).mono ?_
        rintro r w2 ⟨rfl, hb2⟩
        dsimp only
        go_wp2_with fail
        exact ⟨unhide HN _ (B1.trans (hb2.mono B1.size)), unhide HM⟩
    · have ijl : ¬ ((j : Int) < (ks.length : Int)) := by omega
      have HT := hide (show ds.take j = ds from List.take_of_length_le (by omega))
      rw [unhide HT] at hD ⊢
      clear hd hds hjl
      generalize hDD : ds.foldl mx 0 = D at hD ⊢
      have HDD := hide hDD
      clear hDD
      go_wp2_with fail
      go_ret
      exact ⟨by rw [unhide HDD]; rfl, B1⟩

theorem at_app (A L C : List Nd) (x : Nd) (h : A.length + L.length < (A ++ (L ++ [x] ++ C)).length) : (A ++ (L ++ [x] ++ C))[A.length + L.length] = x := by
  simp

theorem dep_any {B g c : Nat} {N : List Nd} {nv kv : List Value} (hs : N.length ≤ 65535) : ∀ (e : Ex) (b : Nat) (A C : List Nd), N = A ++ (flE e b ++ C) → A.length = b → ∀ (w : World), OwnN w B (.slice (some ⟨g, 0, none⟩) N.length c) N nv kv →
    Calls Tryz.prog 33 #[.slice (some ⟨g, 0, none⟩) N.length c, .int .i64 ((b + e.cnt - 1 : Nat) : Int)] w fun r w' => r = .returned (.int .i64 (dpE e)) ∧ Below w.heap.size w w' := by
  have keep : ∀ {w w' : World}, OwnN w B (.slice (some ⟨g, 0, none⟩) N.length c) N nv kv → Below w.heap.size w w' → OwnN w' B (.slice (some ⟨g, 0, none⟩) N.length c) N nv kv := fun h hb => h.blocks (fun k _ hk => hb.block k hk)
  have leaf : ∀ (e : Ex) (b : Nat) (A C : List Nd), (exN e).kids = [] → N = A ++ ([exN e] ++ C) → A.length = b → ∀ (w : World), OwnN w B (.slice (some ⟨g, 0, none⟩) N.length c) N nv kv →
      Calls Tryz.prog 33 #[.slice (some ⟨g, 0, none⟩) N.length c, .int .i64 ((b + 1 - 1 : Nat) : Int)] w fun r w' => r = .returned (.int .i64 1) ∧ Below w.heap.size w w' := by
    intro e b A C hk hN hA w hO
    have hl : b < N.length := by rw [hN]; simp; omega
    exact dep_node hO hs b hl [] [] (by
      have : N[b] = exN e := by
        subst hA
        simp only [hN]
        simp
      rw [this, hk]) rfl (by simp) (fun x hx => by cases hx) (fun j h => absurd h (by simp))
  intro e
  induction e with
  | int i n => intro b A C h hA w hO; exact leaf (.int i n) b A C rfl h hA w hO
  | text i s => intro b A C h hA w hO; exact leaf (.text i s) b A C rfl h hA w hO
  | bool i x => intro b A C h hA w hO; exact leaf (.bool i x) b A C rfl h hA w hO
  | set i a n m K => intro b A C h hA w hO; exact leaf (.set i a n m K) b A C rfl h hA w hO
  | name i s => intro b A C h hA w hO; exact leaf (.name i s) b A C rfl h hA w hO
  | attr i n => intro b A C h hA w hO; exact leaf (.attr i n) b A C rfl h hA w hO
  | lett i n => intro b A C h hA w hO; exact leaf (.lett i n) b A C rfl h hA w hO
  | un i op k ik =>
    intro b A C h hA w hO
    rw [flE] at h
    have hlen := congrArg List.length h
    simp only [List.length_append, flE_len, List.length_singleton] at hlen
    have e1 : b + (Ex.un i op k).cnt - 1 = A.length + (flE k b).length := by rw [flE_len, Ex.cnt]; omega
    have hl : A.length + (flE k b).length < N.length := by rw [flE_len]; omega
    have d1 := dpE_cnt k
    obtain ⟨xx, hxx⟩ : ∃ xx : Nd, xx = ⟨op, 0, ⟨#[]⟩, [], [((b + k.cnt - 1 : Nat) : Int)]⟩ := ⟨_, rfl⟩
    rw [← hxx] at h
    rw [e1]
    refine (dep_node hO hs _ hl [((b + k.cnt - 1 : Nat) : Int)] [dpE k] (by simp only [h]; rw [at_app, hxx]) rfl (by simp) (fun x hx => by rw [List.mem_singleton.1 hx]; omega) ?_)
    intro j hj hj' w' hb
    match j, hj with
    | 0, _ => exact ik b A ([xx] ++ C) (by rw [h]; simp only [List.append_assoc]) hA w' (keep hO hb)
  | bin i op l r il ir =>
    intro b A C h hA w hO
    rw [flE] at h
    have hlen := congrArg List.length h
    simp only [List.length_append, flE_len, List.length_singleton] at hlen
    have e1 : b + (Ex.bin i op l r).cnt - 1 = A.length + (flE l b ++ flE r (b + l.cnt)).length := by rw [List.length_append, flE_len, flE_len, Ex.cnt]; omega
    have hl : A.length + (flE l b ++ flE r (b + l.cnt)).length < N.length := by rw [List.length_append, flE_len, flE_len]; omega
    have d1 := dpE_cnt l
    have d2 := dpE_cnt r
    obtain ⟨xx, hxx⟩ : ∃ xx : Nd, xx = ⟨op, 0, ⟨#[]⟩, [], [((b + l.cnt - 1 : Nat) : Int), ((b + l.cnt + r.cnt - 1 : Nat) : Int)]⟩ := ⟨_, rfl⟩
    rw [← hxx] at h
    rw [e1]
    refine (dep_node hO hs _ hl [((b + l.cnt - 1 : Nat) : Int), ((b + l.cnt + r.cnt - 1 : Nat) : Int)] [dpE l, dpE r] (by simp only [h]; rw [at_app, hxx]) rfl (by simp) (fun x hx => by simp only [List.mem_cons, List.mem_nil_iff, or_false] at hx; rcases hx with rfl | rfl <;> omega) ?_)
    intro j hj hj' w' hb
    match j, hj with
    | 0, _ => exact il b A (flE r (b + l.cnt) ++ ([xx] ++ C)) (by rw [h]; simp only [List.append_assoc]) hA w' (keep hO hb)
    | 1, _ => exact ir (b + l.cnt) (A ++ flE l b) ([xx] ++ C) (by rw [h]; simp only [List.append_assoc]) (by rw [List.length_append, flE_len, hA]) w' (keep hO hb)
  | ite i x y z ix iy iz =>
    intro b A C h hA w hO
    rw [flE] at h
    have hlen := congrArg List.length h
    simp only [List.length_append, flE_len, List.length_singleton] at hlen
    have e1 : b + (Ex.ite i x y z).cnt - 1 = A.length + (flE x b ++ flE y (b + x.cnt) ++ flE z (b + x.cnt + y.cnt)).length := by rw [List.length_append, List.length_append, flE_len, flE_len, flE_len, Ex.cnt]; omega
    have hl : A.length + (flE x b ++ flE y (b + x.cnt) ++ flE z (b + x.cnt + y.cnt)).length < N.length := by rw [List.length_append, List.length_append, flE_len, flE_len, flE_len]; omega
    have d1 := dpE_cnt x
    have d2 := dpE_cnt y
    have d3 := dpE_cnt z
    obtain ⟨xx, hxx⟩ : ∃ xx : Nd, xx = ⟨27, 0, ⟨#[]⟩, [], [((b + x.cnt - 1 : Nat) : Int), ((b + x.cnt + y.cnt - 1 : Nat) : Int), ((b + x.cnt + y.cnt + z.cnt - 1 : Nat) : Int)]⟩ := ⟨_, rfl⟩
    rw [← hxx] at h
    rw [e1]
    refine (dep_node hO hs _ hl [((b + x.cnt - 1 : Nat) : Int), ((b + x.cnt + y.cnt - 1 : Nat) : Int), ((b + x.cnt + y.cnt + z.cnt - 1 : Nat) : Int)] [dpE x, dpE y, dpE z] (by simp only [h]; rw [at_app, hxx]) rfl (by simp) (fun x hx => by simp only [List.mem_cons, List.mem_nil_iff, or_false] at hx; rcases hx with rfl | rfl | rfl <;> omega) ?_)
    intro j hj hj' w' hb
    match j, hj with
    | 0, _ => exact ix b A (flE y (b + x.cnt) ++ (flE z (b + x.cnt + y.cnt) ++ ([xx] ++ C))) (by rw [h]; simp only [List.append_assoc]) hA w' (keep hO hb)
    | 1, _ => exact iy (b + x.cnt) (A ++ flE x b) (flE z (b + x.cnt + y.cnt) ++ ([xx] ++ C)) (by rw [h]; simp only [List.append_assoc]) (by rw [List.length_append, flE_len, hA]) w' (keep hO hb)
    | 2, _ => exact iz (b + x.cnt + y.cnt) (A ++ flE x b ++ flE y (b + x.cnt)) ([xx] ++ C) (by rw [h]; simp only [List.append_assoc]) (by rw [List.length_append, List.length_append, flE_len, flE_len, hA]) w' (keep hO hb)

theorem dep_top {w : World} {B : Nat} {nd : Value} {nv kv : List Value} (e : Ex) (N : List Nd) (h : OwnN w B nd (N ++ flE e N.length) nv kv) (hs : N.length + e.cnt ≤ 65535) :
    Calls Tryz.prog 33 #[nd, .int .i64 ((N.length + e.cnt - 1 : Nat) : Int)] w fun r w' => r = .returned (.int .i64 (dpE e)) ∧ Below w.heap.size w w' := by
  obtain ⟨x, c, hv, hx⟩ := owns_form2 h.own
  have hd := dpE_cnt e
  have hl : (N ++ flE e N.length).length = N.length + e.cnt := by rw [List.length_append, flE_len]
  obtain ⟨g, hg, _, _⟩ := hx (by omega)
  subst hg
  subst hv
  exact dep_any (by omega) e N.length N [] (by simp) rfl w h

end Go.Proofs.YtcehablmloleaaaGreatDoor

namespace Go.Proofs.YtcehablmloleaaaGreatDoor
open Go.RowKit
set_option linter.unusedVariables false

theorem strs_one (w : World) (s : List UInt8) (hs : s.length ≤ 100 := by decide) : Strs (w.alloc (.cells #[.string (ofL s)] 9)) (some ⟨w.heap.size, 0, none⟩) 1 1 ([s].map ofL) := by
  refine ⟨rfl, Nat.le_refl _, by unfold maxLen; omega, fun j hj => ?_, fun j hj => ⟨w.heap.size, 0, rfl, by simp, ?_⟩⟩
  · have : j = 0 := by omega
    subst this
    show (ofL s).size ≤ maxLen
    have e : (ofL s).size = s.length := by simp [ofL, ByteArray.size]
    rw [e]; unfold maxLen; omega
  · have : j = 0 := by omega
    subst this
    exact cell_one_new w _ _ 0 _ rfl

/-- the level that is looked for in a round, and the one that a tree has there -/
def mlv : Nat → Nat
  | 0 => 1 | 1 => 2 | 2 => 4 | 3 => 5 | _ => 6
def glv : Nat → Nat
  | 0 => 1 | 1 => 2 | 2 => 3 | 3 => 5 | 4 => 6 | _ => 7

/-- the five lists -/
def LvR (W : World) (gl : Nat) : Prop := gl < W.heap.size ∧ ∀ lv, lv < 5 → ∃ gb n co, W.cell? ⟨gl, lv, none⟩ = some (.slice (some ⟨gb, 0, none⟩) n co) ∧ Strs W (some ⟨gb, 0, none⟩) n co ((opsL (mlv lv)).map ofL)

theorem LvR.below {W W' : World} {gl : Nat} (h : LvR W gl) (hb : Below W.heap.size W W') : LvR W' gl :=
  ⟨Nat.lt_of_lt_of_le h.1 hb.size, fun lv hlv => by
    obtain ⟨gb, n, co, h1, h2⟩ := h.2 lv hlv
    exact ⟨gb, n, co, (hb.cell (p := ⟨gl, lv, none⟩) h.1).trans h1, h2.below hb (Nat.le_refl _)⟩⟩

def lv1 (w : World) : World := w.alloc (.cells #[.string ⟨#[111, 114]⟩] 9)
def lv2 (w : World) : World := (lv1 w).alloc (.cells #[.string ⟨#[97, 110, 100]⟩] 9)
def lv3 (w : World) : World := (lv2 w).alloc (.cells #[.string ⟨#[61, 61]⟩, .string ⟨#[33, 61]⟩, .string ⟨#[60]⟩, .string ⟨#[60, 61]⟩, .string ⟨#[105, 110]⟩, .string ⟨#[119, 105, 116, 104, 105, 110]⟩] 9)
def lv4 (w : World) : World := (lv3 w).alloc (.cells #[.string ⟨#[43]⟩, .string ⟨#[45]⟩, .string ⟨#[124]⟩, .string ⟨#[92]⟩] 9)
def lv5 (w : World) : World := (lv4 w).alloc (.cells #[.string ⟨#[42]⟩, .string ⟨#[47]⟩, .string ⟨#[37]⟩, .string ⟨#[38]⟩] 9)
def lv6 (w : World) : World := (lv5 w).alloc (.cells #[.slice (some ⟨w.heap.size, 0, none⟩) 1 1, .slice (some ⟨w.heap.size + 1, 0, none⟩) 1 1, .slice (some ⟨w.heap.size + 1 + 1, 0, none⟩) 6 6, .slice (some ⟨w.heap.size + 1 + 1 + 1, 0, none⟩) 4 4, .slice (some ⟨w.heap.size + 1 + 1 + 1 + 1, 0, none⟩) 4 4] 47)

theorem lv_below (w : World) (o : Obj) : Below w.heap.size w (w.alloc o) := (Below.refl w.heap.size w).alloc (Nat.le_refl _) o

theorem lv_start (w : World) : LvR (lv6 w) (w.heap.size + 5) ∧ Below w.heap.size w (lv6 w) := by
  have z1 : (lv1 w).heap.size = w.heap.size + 1 := by simp [lv1]
  have z2 : (lv2 w).heap.size = w.heap.size + 1 + 1 := by simp [lv2, z1]
  have z3 : (lv3 w).heap.size = w.heap.size + 1 + 1 + 1 := by simp [lv3, z2]
  have z4 : (lv4 w).heap.size = w.heap.size + 1 + 1 + 1 + 1 := by simp [lv4, z3]
  have z5 : (lv5 w).heap.size = w.heap.size + 5 := by simp [lv5, z4]
  have b1 : Below w.heap.size w (lv1 w) := lv_below w _
  have b2 : Below (lv1 w).heap.size (lv1 w) (lv2 w) := lv_below _ _
  have b3 : Below (lv2 w).heap.size (lv2 w) (lv3 w) := lv_below _ _
  have b4 : Below (lv3 w).heap.size (lv3 w) (lv4 w) := lv_below _ _
  have b5 : Below (lv4 w).heap.size (lv4 w) (lv5 w) := lv_below _ _
  have b6 : Below (lv5 w).heap.size (lv5 w) (lv6 w) := lv_below _ _
  have s1 : Strs (lv1 w) (some ⟨w.heap.size, 0, none⟩) 1 1 ((opsL 1).map ofL) := strs_one w kOr
  have s2 : Strs (lv2 w) (some ⟨w.heap.size + 1, 0, none⟩) 1 1 ((opsL 2).map ofL) := by rw [← z1]; exact strs_one (lv1 w) kAnd
  have s3 : Strs (lv3 w) (some ⟨w.heap.size + 1 + 1, 0, none⟩) 6 6 ((opsL 4).map ofL) := by rw [← z2]; exact l2compare_strs (lv2 w)
  have s4 : Strs (lv4 w) (some ⟨w.heap.size + 1 + 1 + 1, 0, none⟩) 4 4 ((opsL 5).map ofL) := by rw [← z3]; exact l2sums_strs (lv3 w)
  have s5 : Strs (lv5 w) (some ⟨w.heap.size + 1 + 1 + 1 + 1, 0, none⟩) 4 4 ((opsL 6).map ofL) := by rw [← z4]; exact l2terms_strs (lv4 w)
  have t1 := ((((s1.below b2 (Nat.le_refl _)).below b3 (Nat.le_refl _)).below b4 (Nat.le_refl _)).below b5 (Nat.le_refl _)).below b6 (Nat.le_refl _)
  have t2 := (((s2.below b3 (Nat.le_refl _)).below b4 (Nat.le_refl _)).below b5 (Nat.le_refl _)).below b6 (Nat.le_refl _)
  have t3 := ((s3.below b4 (Nat.le_refl _)).below b5 (Nat.le_refl _)).below b6 (Nat.le_refl _)
  have t4 := (s4.below b5 (Nat.le_refl _)).below b6 (Nat.le_refl _)
  have t5 := s5.below b6 (Nat.le_refl _)
  have R := Row.new (lv5 w) #[.slice (some ⟨w.heap.size, 0, none⟩) 1 1, .slice (some ⟨w.heap.size + 1, 0, none⟩) 1 1, .slice (some ⟨w.heap.size + 1 + 1, 0, none⟩) 6 6, .slice (some ⟨w.heap.size + 1 + 1 + 1, 0, none⟩) 4 4, .slice (some ⟨w.heap.size + 1 + 1 + 1 + 1, 0, none⟩) 4 4] 47
  rw [z5] at R
  refine ⟨⟨R.lt, fun lv hlv => ?_⟩, ((((b1.trans (b2.mono b1.size)).trans (b3.mono (by omega))).trans (b4.mono (by omega))).trans (b5.mono (by omega))).trans (b6.mono (by omega))⟩
  match lv, hlv with
  | 0, _ => exact ⟨_, _, _, R.cell 0, t1⟩
  | 1, _ => exact ⟨_, _, _, R.cell 1, t2⟩
  | 2, _ => exact ⟨_, _, _, R.cell 2, t3⟩
  | 3, _ => exact ⟨_, _, _, R.cell 3, t4⟩
  | 4, _ => exact ⟨_, _, _, R.cell 4, t5⟩

/-- a round over the levels: the tree is cut here, or it is of the next level -/
theorem lv_cut {lv : Nat} {c : List Tok} {p : Pt} (h5 : lv < 5) (g : G (glv lv) c p) (hnot : lv = 2 → ∀ t r, c = t :: r → see kNot t = false) :
    (∃ l t r op pl pr, c = l ++ t :: r ∧ p = .bin t.at_ op pl pr ∧ opOf (mlv lv) t = some op ∧ G 0 l pl ∧ G 0 r pr ∧ ∀ i, lastR (mlv lv) c i = i + l.length) ∨ (G (glv (lv + 1)) c p ∧ ∀ i, lastR (mlv lv) c i = -1) := by
  have bin : ∀ k, (k = 1 ∨ k = 2 ∨ k = 5 ∨ k = 6) → G k c p → (∃ l t r op pl pr, c = l ++ t :: r ∧ p = .bin t.at_ op pl pr ∧ opOf k t = some op ∧ G 0 l pl ∧ G 0 r pr ∧ ∀ i, lastR k c i = i + l.length) ∨ (G (k + 1) c p ∧ ∀ i, lastR k c i = -1) := by
    intro k hk g
    rcases g.cutB hk with ⟨l, t, r, op, pl, pr, rfl, rfl, ht, gl, gr⟩ | g
    · exact .inl ⟨l, t, r, op, pl, pr, rfl, rfl, ht, gl.low (by omega), gr.low (by omega), fun i => gl.last_at (by omega) ht gr (by omega) i⟩
    · exact .inr ⟨g, fun i => g.last_no (by omega) i⟩
  match lv, h5 with
  | 0, _ => exact bin 1 (by omega) g
  | 1, _ => exact bin 2 (by omega) g
  | 2, _ =>
    rcases (show G 3 c p from g).cut3 with ⟨t, r, q, rfl, rfl, ht, _⟩ | g
    · have := hnot rfl t r rfl
      rw [this] at ht; cases ht
    · rcases g.cut4 with ⟨l, t, r, op, pl, pr, rfl, rfl, ht, gl, gr⟩ | g
      · exact .inl ⟨l, t, r, op, pl, pr, rfl, rfl, ht, gl.low (by omega), gr.low (by omega), fun i => gl.last_at (by omega) ht gr (by decide) i⟩
      · exact .inr ⟨g, fun i => g.last_no (by decide) i⟩
  | 3, _ => exact bin 5 (by omega) g
  | 4, _ => exact bin 6 (by omega) g

end Go.Proofs.YtcehablmloleaaaGreatDoor

namespace Go.Proofs.YtcehablmloleaaaGreatDoor
open Go.RowKit
set_option linter.unusedVariables false

theorem is_at {w w' : World} {nb ga c : Nat} {T : List Tok} (hT : TkM w nb ga c T) (hb : Below w.heap.size w w') (i : Nat) (hi : i < T.length) (s : List UInt8) (b : Bool) (h : see s T[i] = b) :
    Calls Tryz.prog 15 #[.pointer (some ⟨nb, 0, none⟩), .int .i64 (i : Int), .string (ofL s)] w' fun r w'' => r = .returned (.bool b) ∧ Below w'.heap.size w' w'' := by
  have := is_any (hT.below hb) i hi s (ofL s) rfl
  rw [h] at this
  exact this

theorem add_leafM {w : World} {B nb ga c : Nat} {T : List Tok} {N : List Nd} {P : List Int} {nd pl : Value} {nv kv : List Value} (hT : TkM w nb ga c T) (hg : ga < B) (hC : LuO w B nb (.slice (some ⟨ga, 0, none⟩) T.length c) N P nd pl nv kv) (hn : N.length + 1 ≤ 65535) (hpn : P.length + 1 ≤ 65535) (op num : Int) (tx : ByteArray) (i : Nat) (hi : i < T.length) :
    Calls Tryz.prog 56 #[.pointer (some ⟨nb, 0, none⟩), .agg #[.int .i64 op, .int .i64 num, .string tx, .slice none 0 0, .slice none 0 0], .int .i64 (i : Int)] w (L2A B nb (.slice (some ⟨ga, 0, none⟩) T.length c) N [⟨op, num, tx, [], []⟩] P [(T[i].at_ : Int)] nd pl nv kv w) := by
  have hB : B ≤ w.heap.size := by have := hC.row.lt; have := hC.low; omega
  refine (l2add_any hT hg hC hn hpn ⟨op, num, tx, [], []⟩ none 0 none 0 B (Nat.le_refl _) (World.ownsRow_nil _ _ _ _) (World.ownsRow_nil _ _ _ _) (fun j hj q hq e => by cases e) (fun j hj q hq e => by cases e) (fun q hq e => by cases hq) i hi).mono ?_
  rintro r w' ⟨h1, nd', pl', C', K'⟩
  exact ⟨by rw [h1]; simp, nd', pl', [.slice none 0 0], [.slice none 0 0], C', K', lowV_one (fun q hq => by cases hq)⟩

theorem add_setM {w1 w2 : World} {B nb ga c : Nat} {T : List Tok} {N : List Nd} {P : List Int} {nd pl : Value} {nv kv : List Value} (hT : TkM w1 nb ga c T) (hg : ga < B) (hC : LuO w1 B nb (.slice (some ⟨ga, 0, none⟩) T.length c) N P nd pl nv kv) (hb : Below w1.heap.size w1 w2) (hn : N.length + 1 ≤ 65535) (hpn : P.length + 1 ≤ 65535) (K : List ByteArray) (x : Option Addr) (cx : Nat) (hu : w2.ownsRow w1.heap.size 9 1 (.slice x K.length cx) K.length (K.map Value.string)) (i : Nat) (hi : i < T.length) :
    Calls Tryz.prog 56 #[.pointer (some ⟨nb, 0, none⟩), .agg #[.int .i64 4, .int .i64 0, .string ⟨#[]⟩, .slice x K.length cx, .slice none 0 0], .int .i64 (i : Int)] w2 (L2A B nb (.slice (some ⟨ga, 0, none⟩) T.length c) N [⟨4, 0, ⟨#[]⟩, K, []⟩] P [(T[i].at_ : Int)] nd pl nv kv w1) := by
  have hB : B ≤ w1.heap.size := by have := hC.row.lt; have := hC.low; omega
  refine (l2add_any (hT.below hb) hg (hC.below hb) hn hpn ⟨4, 0, ⟨#[]⟩, K, []⟩ x cx none 0 B (Nat.le_refl _) (own_lowC hu hB) (World.ownsRow_nil _ _ _ _) (fun j hj q hq e => ?_) (fun j hj q hq e => by cases e) (fun q hq e => by cases hq) i hi).mono ?_
  · have h1 := (hC.nodes.lts.2.1 j hj q hq).2
    have h2 := (hu.lt q e).1
    omega
  · rintro r w' ⟨h1, nd', pl', C', K'⟩
    exact ⟨by rw [h1]; simp, nd', pl', [.slice x K.length cx], [.slice none 0 0], C', (Nk.of_all hb hB).trans K', lowV_one (fun q hq => by cases hq)⟩

end Go.Proofs.YtcehablmloleaaaGreatDoor

namespace Go.Proofs.YtcehablmloleaaaGreatDoor
open Go.RowKit
set_option linter.unusedVariables false

/-- how far the look over the levels is -/
def LvI (T : List Tok) (lo hi : Nat) (p : Pt) (w : World) (gl : Nat) (vi : Value) (wr : World) : Prop :=
  ∃ lv : Nat, lv ≤ 5 ∧ vi = .int .i64 (lv : Int) ∧ G (glv lv) (spn T lo hi) p ∧ LvR wr gl ∧ Below w.heap.size w wr

set_option maxRecDepth 100000 in
set_option maxHeartbeats 6400000 in
theorem tree_lv {B nb ga c : Nat} {T : List Tok} (hg : ga < B) (hl : T.length ≤ 4000) (htx : ∀ t ∈ T, t.text.size ≤ maxLen) {lo hi : Nat} (hh : hi ≤ T.length) (hlo : lo < hi) {p : Pt} (g : G 1 (spn T lo hi) p)
    (ih : ∀ lo' hi' p, hi' ≤ T.length → lo' ≤ hi' → hi' - lo' < hi - lo → G 0 (spn T lo' hi') p → TrS B nb ga c T lo' hi' p) : TrS B nb ga c T lo hi p := by
  intro N P nd pl nv kv w hT hC hn hp
  have hlt : lo < T.length := by omega
  have hif : see kIf T[lo] = false := by
    obtain ⟨t, r, e, h1, _⟩ := g.head
    obtain ⟨_, e1, _⟩ := spn_cons hh e
    rw [e1]; exact h1 (by omega)
  have HI := hide (is_any hT lo hlt kIf (ofL kIf) rfl)
  rw [hif] at HI
  have HG := hide g
  have HTT := hide hT
  have HIH := hide ih
  have HTX := hide htx
  clear g ih hif hT htx
  go_enter Tryz.func32, Tryz.ntmps32
  go_wp2_with fail
  refine (unhide HI).mono ?_
  rintro r w1 ⟨rfl, hb1⟩
  dsimp only
  go_wp2_with fail
  refine (l2compare_any _).mono ?_
  rintro r w2 ⟨rfl, hw2⟩
  dsimp only
  go_wp2_with fail
  refine (l2sums_any _).mono ?_
  rintro r w3 ⟨rfl, hw3⟩
  dsimp only
  go_wp2_with fail
  refine (l2terms_any _).mono ?_
  rintro r w4 ⟨rfl, hw4⟩
  dsimp only
  go_wp2_with fail
  clear hw2 hw3 hw4
  obtain ⟨L0, b0⟩ := lv_start w1
  have HS := hide (show LvI T lo hi p w (w1.heap.size + 5) (.int .i64 0) (lv6 w1) from ⟨0, by omega, rfl, unhide HG, L0, hb1.trans (b0.mono hb1.size)⟩)
  clear L0 b0 HG
  show Code.wp _ _ _ _ (lv6 w1)
  generalize lv6 w1 = W at HS ⊢
  have hgl : w1.heap.size + 5 = w1.heap.size + 1 + 1 + 1 + 1 + 1 := rfl
  rw [hgl] at HS
  clear hgl
  obtain ⟨gl, hgl⟩ : ∃ gl, gl = w1.heap.size + 1 + 1 + 1 + 1 + 1 := ⟨_, rfl⟩
  rw [← hgl] at HS ⊢
  clear hgl
  go_loopw [12, 13, 63] (fun _ _ vi wr => LvI T lo hi p w gl vi wr) (fun _ _ vi _ => 5 - (intOf vi).toNat)
  case atStart => exact unhide HS
  case round =>
    clear HS
    obtain ⟨lv, hlv, rfl, hG, hL, B1⟩ := hrel
    by_cases h5 : lv < 5
    · have i5 : (lv : Int) < 5 := by omega
      obtain ⟨gb, n, co, hc, hst⟩ := hL.2 lv h5
      have HL := hide hL
      have HST := hide hst
      have HGG := hide hG
      clear hL hst hG
      have HM := hide (lt_step 5 lv h5)
      have HIS := hide (is_any ((unhide HTT).below B1) lo hlt kNot (ofL kNot) rfl)
      cases hnt : (((lv : Int) == 2) && see kNot T[lo])
      · have HCUT := hide (lv_cut h5 (unhide HGG) (fun e t r he => by
          obtain ⟨_, e1, _⟩ := spn_cons hh he
          rw [← e1]
          subst e
          simpa using hnt))
        clear HGG
        cases h2 : ((lv : Int) == 2)
        · clear hnt
          go_wp2_with fail
          refine (sLast_any ((unhide HTT).below B1) hl lo hi (by omega) hh gb 0 n co (opsL (mlv lv)) (unhide HST)).mono ?_
          rintro r w5 ⟨rfl, hb5⟩
          have B5 := B1.trans (hb5.mono B1.size)
          have HL5 := hide ((unhide HL).below hb5)
          rcases unhide HCUT with ⟨l, t, r, op, pL, pR, hsp, hpp, hop, gL, gR, hla⟩ | ⟨gN, hla⟩
          · have HLA := hide (show (((T.take hi).drop lo).foldl (stepL (opsL (mlv lv))) ⟨false, 0, lo, -1⟩).acc = ((lo + l.length : Nat) : Int) from (hla lo).trans (by omega))
            rw [unhide HLA]
            obtain ⟨f1, f2, f3⟩ := spn_app hh hsp (by omega)
            obtain ⟨f4, f5, f6, f7⟩ := spn_cons hh f2
            have HA := hide (unhide HIH lo (lo + l.length) pL (by omega) (by omega) (by omega) (by rw [f1]; exact gL))
            have HB := hide (unhide HIH (lo + l.length + 1) hi pR (by omega) (by omega) (by omega) (by rw [f6]; exact gR))
            obtain ⟨ix, hix⟩ : ∃ ix, ix = lo + l.length := ⟨_, rfl⟩
            have HTI := hide (show ∃ h : ix < T.length, T[ix] = t from by subst hix; exact ⟨f4, f5⟩)
            have HOP := hide (op_lit hop)
            have HPP := hide hpp
            rw [← hix] at HA HB f7 ⊢
            unfold TrS at HA HB
            simp only [Int.natCast_add, Int.natCast_one] at HA HB
            have hn2 : N.length + (pL.ex.cnt + pR.ex.cnt + 1) ≤ 65535 := by rw [hpp] at hn; exact hn
            have hp2 : P.length + (pL.ex.cnt + pR.ex.cnt + 1) ≤ 65535 := by rw [hpp] at hp; exact hp
            have i0 : (0 : Int) ≤ (ix : Int) := by omega
            have K3 : Nk B nb nd pl w nd pl w5 := Nk.of_all B5 (by have := hC.row.lt; have := hC.low; omega)
            have C3 := hC.below B5
            have T3 := (unhide HTT).below B5
            clear hla hsp hpp hop gL gR f1 f2 f3 f4 f5 f6 HCUT HLA hix
            dsimp only
            go_wp2_with fail
            refine (unhide HA N P nd pl nv kv w5 T3 C3 (by omega) (by omega)).mono ?_
            rintro r w6 ⟨rfl, nd4, pl4, nv4, kv4, C4, K4, F4⟩
            have K5 := K3.trans K4
            have T4 := (unhide HTT).of C4 K5.low hg
            obtain ⟨a1, ha1⟩ : ∃ a1 : Int, a1 = ((N.length + (flE pL.ex N.length).length - 1 : Nat) : Int) := ⟨_, rfl⟩
            obtain ⟨N1, hN1⟩ : ∃ M, M = N ++ flE pL.ex N.length := ⟨_, rfl⟩
            obtain ⟨P1, hP1⟩ : ∃ M, M = P ++ plE pL.ex := ⟨_, rfl⟩
            obtain ⟨nx1, hnx1⟩ : ∃ M, M = nv ++ nv4 := ⟨_, rfl⟩
            obtain ⟨kx1, hkx1⟩ : ∃ M, M = kv ++ kv4 := ⟨_, rfl⟩
            rw [← hN1, ← hP1, ← hnx1, ← hkx1] at C4
            rw [← ha1]
            have l1 : N1.length = N.length + pL.ex.cnt := by rw [hN1, List.length_append, flE_len]
            have l2 : P1.length = P.length + pL.ex.cnt := by rw [hP1, List.length_append, plE_len]
            have hn3 : N1.length + (pR.ex.cnt + 1) ≤ 65535 := by omega
            have hp3 : P1.length + (pR.ex.cnt + 1) ≤ 65535 := by omega
            have HE1 := hide (And.intro ha1 (And.intro hN1 (And.intro hP1 (And.intro hnx1 (And.intro hkx1 (And.intro l1 (And.intro l2 F4)))))))
            clear ha1 hN1 hP1 hnx1 hkx1 l1 l2 F4 K3 K4 C3 T3
            dsimp only
            go_wp2_with fail
            refine (unhide HB N1 P1 nd4 pl4 nx1 kx1 w6 T4 C4 (by omega) (by omega)).mono ?_
            rintro r w7 ⟨rfl, nd5, pl5, nv5, kv5, C5, K6, F5⟩
            have K7 := K5.trans K6
            have T5 := (unhide HTT).of C5 K7.low hg
            obtain ⟨a2, ha2⟩ : ∃ a2 : Int, a2 = ((N1.length + (flE pR.ex N1.length).length - 1 : Nat) : Int) := ⟨_, rfl⟩
            obtain ⟨N2, hN2⟩ : ∃ M, M = N1 ++ flE pR.ex N1.length := ⟨_, rfl⟩
            obtain ⟨P2, hP2⟩ : ∃ M, M = P1 ++ plE pR.ex := ⟨_, rfl⟩
            obtain ⟨nx2, hnx2⟩ : ∃ M, M = nx1 ++ nv5 := ⟨_, rfl⟩
            obtain ⟨kx2, hkx2⟩ : ∃ M, M = kx1 ++ kv5 := ⟨_, rfl⟩
            rw [← hN2, ← hP2, ← hnx2, ← hkx2] at C5
            rw [← ha2]
            have l1 : N2.length = N1.length + pR.ex.cnt := by rw [hN2, List.length_append, flE_len]
            have l2 : P2.length = P1.length + pR.ex.cnt := by rw [hP2, List.length_append, plE_len]
            have hn4 : N2.length + 1 ≤ 65535 := by omega
            have hp4 : P2.length + 1 ≤ 65535 := by omega
            have HE2 := hide (And.intro ha2 (And.intro hN2 (And.intro hP2 (And.intro hnx2 (And.intro hkx2 (And.intro l1 (And.intro l2 (And.intro F5 K5.low.size))))))))
            clear ha2 hN2 hP2 hnx2 hkx2 l1 l2 F5 K5 K6 C4 T4 hn3 hp3
            obtain ⟨hixT, hti⟩ := unhide HTI
            obtain ⟨q0, q1, q2, q3⟩ := T5.at4 ix hixT
            rw [hti] at q2
            have b0 := T5.at0
            have iix : (ix : Int) < (T.length : Int) := by omega
            clear q0 q1 q3 hti
            dsimp only
            go_wp2_with fail
            obtain ⟨sx, p0, hst, e1, e2, e3⟩ := unhide HOP
            rw [hst]
            refine (l2op_any sx p0 e1 e2 w7).mono ?_
            rintro r w8 ⟨rfl, hb8⟩
            have hB7 : B ≤ w7.heap.size := by have := C5.row.lt; have := C5.low; omega
            have C8 := C5.below hb8
            have T8 := T5.below hb8
            have K8 := K7.trans (Nk.of_all hb8 hB7)
            rw [← e3]
            have HZ7 := hide (And.intro K7.low.size K8.low.size)
            clear e1 e2 e3 hst hb8 C5 T5 K7 q2 b0 HOP hB7
            dsimp only
            go_wp2_with fail
            refine (add_kids T8 hg C8 hn4 hp4 [a1, a2] _ 2 rfl rfl (by unfold maxLen; omega) op ix hixT).mono ?_
            rintro r w9 ⟨rfl, nd7, pl7, C7, K10⟩
            have K11 := K8.trans K10
            obtain ⟨_, hti⟩ := unhide HTI
            rw [hti] at C7
            obtain ⟨ha1, hN1, hP1, hnx1, hkx1, l1, l2, F1⟩ := unhide HE1
            obtain ⟨ha2, hN2, hP2, hnx2, hkx2, l3, l4, F2, z2⟩ := unhide HE2
            have z5 := B5.size
            have HX := hide (show L2A B nb (.slice (some ⟨ga, 0, none⟩) T.length c) N (flE p.ex N.length) P (plE p.ex) nd pl nv kv w (.returned (.int .i64 (N2.length : Int))) w9 from by
              rw [unhide HPP]
              have eN : N2 ++ [⟨op, 0, ⟨#[]⟩, [], [a1, a2]⟩] = N ++ flE (Pt.bin t.at_ op pL pR).ex N.length := by
                have e1 : a1 = ((N.length + pL.ex.cnt - 1 : Nat) : Int) := by rw [ha1, flE_len]
                have e2 : a2 = ((N.length + pL.ex.cnt + pR.ex.cnt - 1 : Nat) : Int) := by rw [ha2, flE_len, l1]
                rw [e1, e2, hN2, l1, hN1, Pt.ex, flE]
                simp only [List.append_assoc]
              have eP : P2 ++ [(t.at_ : Int)] = P ++ plE (Pt.bin t.at_ op pL pR).ex := by
                rw [hP2, hP1, Pt.ex, plE]
                simp only [List.append_assoc]
              refine ⟨by rw [flE_len, Pt.ex, Ex.cnt, l3, l1]; congr 2; omega, nd7, pl7, nv4 ++ nv5 ++ [.slice none 0 0], kv4 ++ kv5 ++ [.slice (some ⟨w8.heap.size, 0, none⟩) 2 2], ?_, K11, ?_⟩
              · rw [← eN, ← eP]
                have e1 : nv ++ (nv4 ++ nv5 ++ [.slice none 0 0]) = nx2 ++ [.slice none 0 0] := by rw [hnx2, hnx1]; simp
                have e2 : kv ++ (kv4 ++ kv5 ++ [.slice (some ⟨w8.heap.size, 0, none⟩) 2 2]) = kx2 ++ [.slice (some ⟨w8.heap.size, 0, none⟩) 2 2] := by rw [hkx2, hkx1]; simp
                rw [e1, e2]
                exact C7
              · exact lowV_app (lowV_app (lowV_mono F1 z5) (lowV_mono F2 z2)) (lowV_one (fun q hq => by
                  have h1 : w8.heap.size = q := by simpa [Value.ownBlock] using hq
                  have := (unhide HZ7).2
                  omega)))
            clear C7 K10 K11 ha1 hN1 hP1 hnx1 hkx1 l1 l2 F1 ha2 hN2 hP2 hnx2 hkx2 l3 l4 F2 z2 z5 hti
            dsimp only
            go_wp2_with fail
            go_ret
            exact unhide HX
          · have HN := hide (show LvI T lo hi p w gl (.int .i64 ((lv : Int) + 1)) w5 from ⟨lv + 1, by omega, by rw [Int.natCast_add]; rfl, gN, unhide HL5, B5⟩)
            have HLA := hide (show (((T.take hi).drop lo).foldl (stepL (opsL (mlv lv))) ⟨false, 0, lo, -1⟩).acc = -1 from hla lo)
            rw [unhide HLA]
            clear gN hla HCUT
            dsimp only
            go_wp2_with fail
            exact ⟨unhide HN, unhide HM⟩
        · rw [h2, Bool.true_and] at hnt
          rw [hnt] at HIS
          clear hnt
          go_wp2_with fail
          refine (unhide HIS).mono ?_
          rintro r w2 ⟨rfl, hb2⟩
          have B2 := B1.trans (hb2.mono B1.size)
          dsimp only
          go_wp2_with fail
          refine (sLast_any ((unhide HTT).below B2) hl lo hi (by omega) hh gb 0 n co (opsL (mlv lv)) ((unhide HST).below hb2 (Nat.le_refl _))).mono ?_
          rintro r w5 ⟨rfl, hb5⟩
          have B5 := B2.trans (hb5.mono B2.size)
          have HL5 := hide (((unhide HL).below hb2).below hb5)
          rcases unhide HCUT with ⟨l, t, r, op, pL, pR, hsp, hpp, hop, gL, gR, hla⟩ | ⟨gN, hla⟩
          · have HLA := hide (show (((T.take hi).drop lo).foldl (stepL (opsL (mlv lv))) ⟨false, 0, lo, -1⟩).acc = ((lo + l.length : Nat) : Int) from (hla lo).trans (by omega))
            rw [unhide HLA]
            obtain ⟨f1, f2, f3⟩ := spn_app hh hsp (by omega)
            obtain ⟨f4, f5, f6, f7⟩ := spn_cons hh f2
            have HA := hide (unhide HIH lo (lo + l.length) pL (by omega) (by omega) (by omega) (by rw [f1]; exact gL))
            have HB := hide (unhide HIH (lo + l.length + 1) hi pR (by omega) (by omega) (by omega) (by rw [f6]; exact gR))
            obtain ⟨ix, hix⟩ : ∃ ix, ix = lo + l.length := ⟨_, rfl⟩
            have HTI := hide (show ∃ h : ix < T.length, T[ix] = t from by subst hix; exact ⟨f4, f5⟩)
            have HOP := hide (op_lit hop)
            have HPP := hide hpp
            rw [← hix] at HA HB f7 ⊢
            unfold TrS at HA HB
            simp only [Int.natCast_add, Int.natCast_one] at HA HB
            have hn2 : N.length + (pL.ex.cnt + pR.ex.cnt + 1) ≤ 65535 := by rw [hpp] at hn; exact hn
            have hp2 : P.length + (pL.ex.cnt + pR.ex.cnt + 1) ≤ 65535 := by rw [hpp] at hp; exact hp
            have i0 : (0 : Int) ≤ (ix : Int) := by omega
            have K3 : Nk B nb nd pl w nd pl w5 := Nk.of_all B5 (by have := hC.row.lt; have := hC.low; omega)
            have C3 := hC.below B5
            have T3 := (unhide HTT).below B5
            clear hla hsp hpp hop gL gR f1 f2 f3 f4 f5 f6 HCUT HLA hix
            dsimp only
            go_wp2_with fail
            refine (unhide HA N P nd pl nv kv w5 T3 C3 (by omega) (by omega)).mono ?_
            rintro r w6 ⟨rfl, nd4, pl4, nv4, kv4, C4, K4, F4⟩
            have K5 := K3.trans K4
            have T4 := (unhide HTT).of C4 K5.low hg
            obtain ⟨a1, ha1⟩ : ∃ a1 : Int, a1 = ((N.length + (flE pL.ex N.length).length - 1 : Nat) : Int) := ⟨_, rfl⟩
            obtain ⟨N1, hN1⟩ : ∃ M, M = N ++ flE pL.ex N.length := ⟨_, rfl⟩
            obtain ⟨P1, hP1⟩ : ∃ M, M = P ++ plE pL.ex := ⟨_, rfl⟩
            obtain ⟨nx1, hnx1⟩ : ∃ M, M = nv ++ nv4 := ⟨_, rfl⟩
            obtain ⟨kx1, hkx1⟩ : ∃ M, M = kv ++ kv4 := ⟨_, rfl⟩
            rw [← hN1, ← hP1, ← hnx1, ← hkx1] at C4
            rw [← ha1]
            have l1 : N1.length = N.length + pL.ex.cnt := by rw [hN1, List.length_append, flE_len]
            have l2 : P1.length = P.length + pL.ex.cnt := by rw [hP1, List.length_append, plE_len]
            have hn3 : N1.length + (pR.ex.cnt + 1) ≤ 65535 := by omega
            have hp3 : P1.length + (pR.ex.cnt + 1) ≤ 65535 := by omega
            have HE1 := hide (And.intro ha1 (And.intro hN1 (And.intro hP1 (And.intro hnx1 (And.intro hkx1 (And.intro l1 (And.intro l2 F4)))))))
            clear ha1 hN1 hP1 hnx1 hkx1 l1 l2 F4 K3 K4 C3 T3
            dsimp only
            go_wp2_with fail
            refine (unhide HB N1 P1 nd4 pl4 nx1 kx1 w6 T4 C4 (by omega) (by omega)).mono ?_
            rintro r w7 ⟨rfl, nd5, pl5, nv5, kv5, C5, K6, F5⟩
            have K7 := K5.trans K6
            have T5 := (unhide HTT).of C5 K7.low hg
            obtain ⟨a2, ha2⟩ : ∃ a2 : Int, a2 = ((N1.length + (flE pR.ex N1.length).length - 1 : Nat) : Int) := ⟨_, rfl⟩
            obtain ⟨N2, hN2⟩ : ∃ M, M = N1 ++ flE pR.ex N1.length := ⟨_, rfl⟩
            obtain ⟨P2, hP2⟩ : ∃ M, M = P1 ++ plE pR.ex := ⟨_, rfl⟩
            obtain ⟨nx2, hnx2⟩ : ∃ M, M = nx1 ++ nv5 := ⟨_, rfl⟩
            obtain ⟨kx2, hkx2⟩ : ∃ M, M = kx1 ++ kv5 := ⟨_, rfl⟩
            rw [← hN2, ← hP2, ← hnx2, ← hkx2] at C5
            rw [← ha2]
            have l1 : N2.length = N1.length + pR.ex.cnt := by rw [hN2, List.length_append, flE_len]
            have l2 : P2.length = P1.length + pR.ex.cnt := by rw [hP2, List.length_append, plE_len]
            have hn4 : N2.length + 1 ≤ 65535 := by omega
            have hp4 : P2.length + 1 ≤ 65535 := by omega
            have HE2 := hide (And.intro ha2 (And.intro hN2 (And.intro hP2 (And.intro hnx2 (And.intro hkx2 (And.intro l1 (And.intro l2 (And.intro F5 K5.low.size))))))))
            clear ha2 hN2 hP2 hnx2 hkx2 l1 l2 F5 K5 K6 C4 T4 hn3 hp3
            obtain ⟨hixT, hti⟩ := unhide HTI
            obtain ⟨q0, q1, q2, q3⟩ := T5.at4 ix hixT
            rw [hti] at q2
            have b0 := T5.at0
            have iix : (ix : Int) < (T.length : Int) := by omega
            clear q0 q1 q3 hti
            dsimp only
            go_wp2_with fail
            obtain ⟨sx, p0, hst, e1, e2, e3⟩ := unhide HOP
            rw [hst]
            refine (l2op_any sx p0 e1 e2 w7).mono ?_
            rintro r w8 ⟨rfl, hb8⟩
            have hB7 : B ≤ w7.heap.size := by have := C5.row.lt; have := C5.low; omega
            have C8 := C5.below hb8
            have T8 := T5.below hb8
            have K8 := K7.trans (Nk.of_all hb8 hB7)
            rw [← e3]
            have HZ7 := hide (And.intro K7.low.size K8.low.size)
            clear e1 e2 e3 hst hb8 C5 T5 K7 q2 b0 HOP hB7
            dsimp only
            go_wp2_with fail
            refine (add_kids T8 hg C8 hn4 hp4 [a1, a2] _ 2 rfl rfl (by unfold maxLen; omega) op ix hixT).mono ?_
            rintro r w9 ⟨rfl, nd7, pl7, C7, K10⟩
            have K11 := K8.trans K10
            obtain ⟨_, hti⟩ := unhide HTI
            rw [hti] at C7
            obtain ⟨ha1, hN1, hP1, hnx1, hkx1, l1, l2, F1⟩ := unhide HE1
            obtain ⟨ha2, hN2, hP2, hnx2, hkx2, l3, l4, F2, z2⟩ := unhide HE2
            have z5 := B5.size
            have HX := hide (show L2A B nb (.slice (some ⟨ga, 0, none⟩) T.length c) N (flE p.ex N.length) P (plE p.ex) nd pl nv kv w (.returned (.int .i64 (N2.length : Int))) w9 from by
              rw [unhide HPP]
              have eN : N2 ++ [⟨op, 0, ⟨#[]⟩, [], [a1, a2]⟩] = N ++ flE (Pt.bin t.at_ op pL pR).ex N.length := by
                have e1 : a1 = ((N.length + pL.ex.cnt - 1 : Nat) : Int) := by rw [ha1, flE_len]
                have e2 : a2 = ((N.length + pL.ex.cnt + pR.ex.cnt - 1 : Nat) : Int) := by rw [ha2, flE_len, l1]
                rw [e1, e2, hN2, l1, hN1, Pt.ex, flE]
                simp only [List.append_assoc]
              have eP : P2 ++ [(t.at_ : Int)] = P ++ plE (Pt.bin t.at_ op pL pR).ex := by
                rw [hP2, hP1, Pt.ex, plE]
                simp only [List.append_assoc]
              refine ⟨by rw [flE_len, Pt.ex, Ex.cnt, l3, l1]; congr 2; omega, nd7, pl7, nv4 ++ nv5 ++ [.slice none 0 0], kv4 ++ kv5 ++ [.slice (some ⟨w8.heap.size, 0, none⟩) 2 2], ?_, K11, ?_⟩
              · rw [← eN, ← eP]
                have e1 : nv ++ (nv4 ++ nv5 ++ [.slice none 0 0]) = nx2 ++ [.slice none 0 0] := by rw [hnx2, hnx1]; simp
                have e2 : kv ++ (kv4 ++ kv5 ++ [.slice (some ⟨w8.heap.size, 0, none⟩) 2 2]) = kx2 ++ [.slice (some ⟨w8.heap.size, 0, none⟩) 2 2] := by rw [hkx2, hkx1]; simp
                rw [e1, e2]
                exact C7
              · exact lowV_app (lowV_app (lowV_mono F1 z5) (lowV_mono F2 z2)) (lowV_one (fun q hq => by
                  have h1 : w8.heap.size = q := by simpa [Value.ownBlock] using hq
                  have := (unhide HZ7).2
                  omega)))
            clear C7 K10 K11 ha1 hN1 hP1 hnx1 hkx1 l1 l2 F1 ha2 hN2 hP2 hnx2 hkx2 l3 l4 F2 z2 z5 hti
            dsimp only
            go_wp2_with fail
            go_ret
            exact unhide HX
          · have HN := hide (show LvI T lo hi p w gl (.int .i64 ((lv : Int) + 1)) w5 from ⟨lv + 1, by omega, by rw [Int.natCast_add]; rfl, gN, unhide HL5, B5⟩)
            have HLA := hide (show (((T.take hi).drop lo).foldl (stepL (opsL (mlv lv))) ⟨false, 0, lo, -1⟩).acc = -1 from hla lo)
            rw [unhide HLA]
            clear gN hla HCUT
            dsimp only
            go_wp2_with fail
            exact ⟨unhide HN, unhide HM⟩
      · have hnt2 : lv = 2 ∧ see kNot T[lo] = true := by
          simp at hnt
          exact ⟨by omega, hnt.2⟩
        obtain ⟨hl2, hkn⟩ := hnt2
        have h2 : ((lv : Int) == 2) = true := by rw [hl2]; rfl
        rw [hkn] at HIS
        obtain ⟨t, r, q, hsp, hpp, ht, gq⟩ : ∃ t r q, spn T lo hi = t :: r ∧ p = .un t.at_ 9 q ∧ see kNot t = true ∧ G 3 r q := by
          rcases (show G 3 (spn T lo hi) p from by have := unhide HGG; rw [hl2] at this; exact this).cut3 with h | g
          · exact h
          · obtain ⟨t, r, e, _, h4, _⟩ := g.head
            obtain ⟨_, e1, _⟩ := spn_cons hh e
            rw [e1, h4 (by omega)] at hkn
            cases hkn
        obtain ⟨_, f5, f6, f7⟩ := spn_cons hh hsp
        have HA := hide (unhide HIH (lo + 1) hi q (by omega) (by omega) (by omega) (by rw [f6]; exact gq.low (by omega)))
        unfold TrS at HA
        simp only [Int.natCast_add, Int.natCast_one] at HA
        have hn2 : N.length + (q.ex.cnt + 1) ≤ 65535 := by rw [hpp] at hn; exact hn
        have hp2 : P.length + (q.ex.cnt + 1) ≤ 65535 := by rw [hpp] at hp; exact hp
        have HPP := hide hpp
        have HTI := hide f5
        clear hnt hkn hsp hpp ht gq f5 f6 HGG hl2
        go_wp2_with fail
        refine (unhide HIS).mono ?_
        rintro r w2 ⟨rfl, hb2⟩
        have B5 := B1.trans (hb2.mono B1.size)
        have K3 : Nk B nb nd pl w nd pl w2 := Nk.of_all B5 (by have := hC.row.lt; have := hC.low; omega)
        have C3 := hC.below B5
        have T3 := (unhide HTT).below B5
        dsimp only
        go_wp2_with fail
        refine (unhide HA N P nd pl nv kv w2 T3 C3 (by omega) (by omega)).mono ?_
        rintro r w6 ⟨rfl, nd4, pl4, nv4, kv4, C4, K4, F4⟩
        have K5 := K3.trans K4
        have T4 := (unhide HTT).of C4 K5.low hg
        obtain ⟨a1, ha1⟩ : ∃ a1 : Int, a1 = ((N.length + (flE q.ex N.length).length - 1 : Nat) : Int) := ⟨_, rfl⟩
        obtain ⟨N1, hN1⟩ : ∃ M, M = N ++ flE q.ex N.length := ⟨_, rfl⟩
        obtain ⟨P1, hP1⟩ : ∃ M, M = P ++ plE q.ex := ⟨_, rfl⟩
        obtain ⟨nx1, hnx1⟩ : ∃ M, M = nv ++ nv4 := ⟨_, rfl⟩
        obtain ⟨kx1, hkx1⟩ : ∃ M, M = kv ++ kv4 := ⟨_, rfl⟩
        rw [← hN1, ← hP1, ← hnx1, ← hkx1] at C4
        rw [← ha1]
        have l1 : N1.length = N.length + q.ex.cnt := by rw [hN1, List.length_append, flE_len]
        have l2 : P1.length = P.length + q.ex.cnt := by rw [hP1, List.length_append, plE_len]
        have hn4 : N1.length + 1 ≤ 65535 := by omega
        have hp4 : P1.length + 1 ≤ 65535 := by omega
        have HE1 := hide (And.intro ha1 (And.intro hN1 (And.intro hP1 (And.intro hnx1 (And.intro hkx1 (And.intro l1 (And.intro l2 F4)))))))
        clear ha1 hN1 hP1 hnx1 hkx1 l1 l2 F4 K3 K4 C3 T3
        dsimp only
        go_wp2_with fail
        refine (add_kids T4 hg C4 hn4 hp4 [a1] _ 1 rfl rfl (by unfold maxLen; omega) 9 lo hlt).mono ?_
        rintro r w9 ⟨rfl, nd7, pl7, C7, K10⟩
        have K11 := K5.trans K10
        rw [unhide HTI] at C7
        obtain ⟨ha1, hN1, hP1, hnx1, hkx1, l1, l2, F1⟩ := unhide HE1
        have z5 := B5.size
        have z6 := K5.low.size
        have HX := hide (show L2A B nb (.slice (some ⟨ga, 0, none⟩) T.length c) N (flE p.ex N.length) P (plE p.ex) nd pl nv kv w (.returned (.int .i64 (N1.length : Int))) w9 from by
          rw [unhide HPP]
          have eN : N1 ++ [⟨9, 0, ⟨#[]⟩, [], [a1]⟩] = N ++ flE (Pt.un t.at_ 9 q).ex N.length := by
            have e1 : a1 = ((N.length + q.ex.cnt - 1 : Nat) : Int) := by rw [ha1, flE_len]
            rw [e1, hN1, Pt.ex, flE]
            simp only [List.append_assoc]
          have eP : P1 ++ [(t.at_ : Int)] = P ++ plE (Pt.un t.at_ 9 q).ex := by
            rw [hP1, Pt.ex, plE]
            simp only [List.append_assoc]
          refine ⟨by rw [flE_len, Pt.ex, Ex.cnt, l1]; congr 2, nd7, pl7, nv4 ++ [.slice none 0 0], kv4 ++ [.slice (some ⟨w6.heap.size, 0, none⟩) 1 1], ?_, K11, ?_⟩
          · rw [← eN, ← eP]
            have e1 : nv ++ (nv4 ++ [.slice none 0 0]) = nx1 ++ [.slice none 0 0] := by rw [hnx1]; simp
            have e2 : kv ++ (kv4 ++ [.slice (some ⟨w6.heap.size, 0, none⟩) 1 1]) = kx1 ++ [.slice (some ⟨w6.heap.size, 0, none⟩) 1 1] := by rw [hkx1]; simp
            rw [e1, e2]
            exact C7
          · exact lowV_app (lowV_mono F1 z5) (lowV_one (fun q hq => by
              have h1 : w6.heap.size = q := by simpa [Value.ownBlock] using hq
              omega)))
        clear C7 K10 K11 ha1 hN1 hP1 hnx1 hkx1 l1 l2 F1 z5 z6
        dsimp only
        go_wp2_with fail
        go_ret
        exact unhide HX
    · have i5 : ¬ ((lv : Int) < 5) := by omega
      have hG7 : G 7 (spn T lo hi) p := by
        have e : lv = 5 := by omega
        rw [e] at hG
        exact hG
      clear hG hL h5
      rcases hG7.cut7 with ⟨t, r, q, hsp, hpp, ht, gq⟩ | g8
      · obtain ⟨_, f5, f6, f7⟩ := spn_cons hh hsp
        have HA := hide (unhide HIH (lo + 1) (hi) q (by omega) (by omega) (by omega) (by rw [f6]; exact gq.low (by omega)))
        unfold TrS at HA
        rw [show ((lo + 1 : Nat) : Int) = (lo : Int) + 1 from by omega] at HA
        have hn2 : N.length + (q.ex.cnt + 1) ≤ 65535 := by rw [hpp] at hn; exact hn
        have hp2 : P.length + (q.ex.cnt + 1) ≤ 65535 := by rw [hpp] at hp; exact hp
        have HPP := hide hpp
        have HTI := hide f5
        have Hm := hide (show see kMinus T[lo] = true from by rw [f5]; exact ht)
        clear hsp hpp ht gq f5 f6 hG7
        go_wp2_with fail
        refine (is_at (unhide HTT) B1 lo hlt kMinus true (unhide Hm)).mono ?_
        rintro r wc0 ⟨rfl, hbc⟩
        have Bc0 := B1.trans (hbc.mono B1.size)
        clear hbc B1
        dsimp only
        have K3 : Nk B nb nd pl w nd pl wc0 := Nk.of_all Bc0 (by have := hC.row.lt; have := hC.low; omega)
        have C3 := hC.below Bc0
        have T3 := (unhide HTT).below Bc0
        go_wp2_with fail
        refine (unhide HA N P nd pl nv kv wc0 T3 C3 (by omega) (by omega)).mono ?_
        rintro r w6 ⟨rfl, nd4, pl4, nv4, kv4, C4, K4, F4⟩
        have K5 := K3.trans K4
        have T4 := (unhide HTT).of C4 K5.low hg
        obtain ⟨a1, ha1⟩ : ∃ a1 : Int, a1 = ((N.length + (flE q.ex N.length).length - 1 : Nat) : Int) := ⟨_, rfl⟩
        obtain ⟨N1, hN1⟩ : ∃ M, M = N ++ flE q.ex N.length := ⟨_, rfl⟩
        obtain ⟨P1, hP1⟩ : ∃ M, M = P ++ plE q.ex := ⟨_, rfl⟩
        obtain ⟨nx1, hnx1⟩ : ∃ M, M = nv ++ nv4 := ⟨_, rfl⟩
        obtain ⟨kx1, hkx1⟩ : ∃ M, M = kv ++ kv4 := ⟨_, rfl⟩
        rw [← hN1, ← hP1, ← hnx1, ← hkx1] at C4
        rw [← ha1]
        have l1 : N1.length = N.length + q.ex.cnt := by rw [hN1, List.length_append, flE_len]
        have l2 : P1.length = P.length + q.ex.cnt := by rw [hP1, List.length_append, plE_len]
        have hn4 : N1.length + 1 ≤ 65535 := by omega
        have hp4 : P1.length + 1 ≤ 65535 := by omega
        have HE1 := hide (And.intro ha1 (And.intro hN1 (And.intro hP1 (And.intro hnx1 (And.intro hkx1 (And.intro l1 (And.intro l2 F4)))))))
        clear ha1 hN1 hP1 hnx1 hkx1 l1 l2 F4 K3 K4 C3 T3
        dsimp only
        go_wp2_with fail
        refine (add_kids T4 hg C4 hn4 hp4 [a1] _ 1 rfl rfl (by unfold maxLen; omega) 8 lo hlt).mono ?_
        rintro r w9 ⟨rfl, nd7, pl7, C7, K10⟩
        have K11 := K5.trans K10
        rw [unhide HTI] at C7
        obtain ⟨ha1, hN1, hP1, hnx1, hkx1, l1, l2, F1⟩ := unhide HE1
        have z5 := Bc0.size
        have z6 := K5.low.size
        have HX := hide (show L2A B nb (.slice (some ⟨ga, 0, none⟩) T.length c) N (flE p.ex N.length) P (plE p.ex) nd pl nv kv w (.returned (.int .i64 (N1.length : Int))) w9 from by
          rw [unhide HPP]
          have eN : N1 ++ [⟨8, 0, ⟨#[]⟩, [], [a1]⟩] = N ++ flE (Pt.un t.at_ 8 q).ex N.length := by
            have e1 : a1 = ((N.length + q.ex.cnt - 1 : Nat) : Int) := by rw [ha1, flE_len]
            rw [e1, hN1, Pt.ex, flE]
            simp only [List.append_assoc]
          have eP : P1 ++ [(t.at_ : Int)] = P ++ plE (Pt.un t.at_ 8 q).ex := by
            rw [hP1, Pt.ex, plE]
            simp only [List.append_assoc]
          refine ⟨by rw [flE_len, Pt.ex, Ex.cnt, l1]; congr 2, nd7, pl7, nv4 ++ [.slice none 0 0], kv4 ++ [.slice (some ⟨w6.heap.size, 0, none⟩) 1 1], ?_, K11, ?_⟩
          · rw [← eN, ← eP]
            have e1 : nv ++ (nv4 ++ [.slice none 0 0]) = nx1 ++ [.slice none 0 0] := by rw [hnx1]; simp
            have e2 : kv ++ (kv4 ++ [.slice (some ⟨w6.heap.size, 0, none⟩) 1 1]) = kx1 ++ [.slice (some ⟨w6.heap.size, 0, none⟩) 1 1] := by rw [hkx1]; simp
            rw [e1, e2]
            exact C7
          · exact lowV_app (lowV_mono F1 z5) (lowV_one (fun q hq => by
              have h1 : w6.heap.size = q := by simpa [Value.ownBlock] using hq
              omega)))
        clear C7 K10 K11 ha1 hN1 hP1 hnx1 hkx1 l1 l2 F1 z5 z6
        dsimp only
        go_wp2_with fail
        go_ret
        exact unhide HX
      · clear hG7
        generalize hsp : spn T lo hi = sp at g8
        cases g8 with
        | up hk g => omega
        | bin hk => omega
        | @par t u r p ht g hu =>
          obtain ⟨_, f5, f6, f7⟩ := spn_cons hh hsp
          obtain ⟨g1, g2, g3⟩ := spn_app hh f6 (by omega)
          obtain ⟨_, _, _, g4⟩ := spn_cons hh g2
          have hlen : hi = lo + 1 + r.length + 1 := by
            have := spn_len (lo := lo) hh
            rw [hsp] at this
            simp at this
            omega
          have HA := hide (unhide HIH (lo + 1) (hi - 1) p (by omega) (by omega) (by omega) (by rw [show hi - 1 = lo + 1 + r.length from by omega, g1]; exact g))
          unfold TrS at HA
          rw [show ((lo + 1 : Nat) : Int) = (lo : Int) + 1 from by omega] at HA
          rw [show ((hi - 1 : Nat) : Int) = (hi : Int) - 1 from by omega] at HA
          have Hm := hide (show see kMinus T[lo] = false from by rw [f5]; exact see_ne ht (by decide))
          have Hl := hide (show see kLpar T[lo] = true from by rw [f5]; exact ht)
          have ih1 : (1 : Int) ≤ (hi : Int) := by omega
          clear hsp f5 f6 g1 g2 g ht hu hlen
          go_wp2_with fail
          refine (is_at (unhide HTT) B1 lo hlt kMinus false (unhide Hm)).mono ?_
          rintro r wc0 ⟨rfl, hbc⟩
          have Bc0 := B1.trans (hbc.mono B1.size)
          clear hbc B1
          dsimp only
          go_wp2_with fail
          refine (is_at (unhide HTT) Bc0 lo hlt kLpar true (unhide Hl)).mono ?_
          rintro r wc1 ⟨rfl, hbc⟩
          have Bc1 := Bc0.trans (hbc.mono Bc0.size)
          clear hbc Bc0
          dsimp only
          have K3 : Nk B nb nd pl w nd pl wc1 := Nk.of_all Bc1 (by have := hC.row.lt; have := hC.low; omega)
          have C3 := hC.below Bc1
          have T3 := (unhide HTT).below Bc1
          go_wp2_with fail
          refine (unhide HA N P nd pl nv kv wc1 T3 C3 (by omega) (by omega)).mono ?_
          rintro r w6 ⟨rfl, nd4, pl4, nv4, kv4, C4, K4, F4⟩
          have HX := hide (show L2A B nb (.slice (some ⟨ga, 0, none⟩) T.length c) N (flE p.ex N.length) P (plE p.ex) nd pl nv kv w (.returned (.int .i64 ((N.length + (flE p.ex N.length).length - 1 : Nat) : Int))) w6 from ⟨rfl, nd4, pl4, nv4, kv4, C4, K3.trans K4, lowV_mono F4 Bc1.size⟩)
          clear C4 K4 F4 K3 C3 T3
          dsimp only
          go_wp2_with fail
          go_ret
          exact unhide HX
        | @size t u v r q ht hu g hv =>
          obtain ⟨_, f5, f6, f7⟩ := spn_cons hh hsp
          obtain ⟨_, _, f8, f9⟩ := spn_cons hh f6
          obtain ⟨g1, g2, g3⟩ := spn_app hh f8 (by omega)
          obtain ⟨_, _, _, g4⟩ := spn_cons hh g2
          have hlen : hi = lo + 2 + r.length + 1 := by
            have := spn_len (lo := lo) hh
            rw [hsp] at this
            simp at this
            omega
          have HA := hide (unhide HIH (lo + 2) (hi - 1) q (by omega) (by omega) (by omega) (by rw [show hi - 1 = lo + 1 + 1 + r.length from by omega, g1]; exact g))
          unfold TrS at HA
          rw [show ((lo + 2 : Nat) : Int) = (lo : Int) + 2 from by omega] at HA
          rw [show ((hi - 1 : Nat) : Int) = (hi : Int) - 1 from by omega] at HA
          have Hm := hide (show see kMinus T[lo] = false from by rw [f5]; exact see_ne ht (by decide))
          have Hl := hide (show see kLpar T[lo] = false from by rw [f5]; exact see_ne ht (by decide))
          have Hs := hide (show see kSize T[lo] = true from by rw [f5]; exact ht)
          have hn2 : N.length + (q.ex.cnt + 1) ≤ 65535 := hn
          have hp2 : P.length + (q.ex.cnt + 1) ≤ 65535 := hp
          have HTI := hide f5
          have ih1 : (1 : Int) ≤ (hi : Int) := by omega
          clear hsp f5 f6 f8 g1 g2 g ht hu hv hlen hn hp
          go_wp2_with fail
          refine (is_at (unhide HTT) B1 lo hlt kMinus false (unhide Hm)).mono ?_
          rintro r wc0 ⟨rfl, hbc⟩
          have Bc0 := B1.trans (hbc.mono B1.size)
          clear hbc B1
          dsimp only
          go_wp2_with fail
          refine (is_at (unhide HTT) Bc0 lo hlt kLpar false (unhide Hl)).mono ?_
          rintro r wc1 ⟨rfl, hbc⟩
          have Bc1 := Bc0.trans (hbc.mono Bc0.size)
          clear hbc Bc0
          dsimp only
          go_wp2_with fail
          refine (is_at (unhide HTT) Bc1 lo hlt kSize true (unhide Hs)).mono ?_
          rintro r wc2 ⟨rfl, hbc⟩
          have Bc2 := Bc1.trans (hbc.mono Bc1.size)
          clear hbc Bc1
          dsimp only
          have K3 : Nk B nb nd pl w nd pl wc2 := Nk.of_all Bc2 (by have := hC.row.lt; have := hC.low; omega)
          have C3 := hC.below Bc2
          have T3 := (unhide HTT).below Bc2
          go_wp2_with fail
          refine (unhide HA N P nd pl nv kv wc2 T3 C3 (by omega) (by omega)).mono ?_
          rintro r w6 ⟨rfl, nd4, pl4, nv4, kv4, C4, K4, F4⟩
          have K5 := K3.trans K4
          have T4 := (unhide HTT).of C4 K5.low hg
          obtain ⟨a1, ha1⟩ : ∃ a1 : Int, a1 = ((N.length + (flE q.ex N.length).length - 1 : Nat) : Int) := ⟨_, rfl⟩
          obtain ⟨N1, hN1⟩ : ∃ M, M = N ++ flE q.ex N.length := ⟨_, rfl⟩
          obtain ⟨P1, hP1⟩ : ∃ M, M = P ++ plE q.ex := ⟨_, rfl⟩
          obtain ⟨nx1, hnx1⟩ : ∃ M, M = nv ++ nv4 := ⟨_, rfl⟩
          obtain ⟨kx1, hkx1⟩ : ∃ M, M = kv ++ kv4 := ⟨_, rfl⟩
          rw [← hN1, ← hP1, ← hnx1, ← hkx1] at C4
          rw [← ha1]
          have l1 : N1.length = N.length + q.ex.cnt := by rw [hN1, List.length_append, flE_len]
          have l2 : P1.length = P.length + q.ex.cnt := by rw [hP1, List.length_append, plE_len]
          have hn4 : N1.length + 1 ≤ 65535 := by omega
          have hp4 : P1.length + 1 ≤ 65535 := by omega
          have HE1 := hide (And.intro ha1 (And.intro hN1 (And.intro hP1 (And.intro hnx1 (And.intro hkx1 (And.intro l1 (And.intro l2 F4)))))))
          clear ha1 hN1 hP1 hnx1 hkx1 l1 l2 F4 K3 K4 C3 T3
          dsimp only
          go_wp2_with fail
          refine (add_kids T4 hg C4 hn4 hp4 [a1] _ 1 rfl rfl (by unfold maxLen; omega) 10 lo hlt).mono ?_
          rintro r w9 ⟨rfl, nd7, pl7, C7, K10⟩
          have K11 := K5.trans K10
          rw [unhide HTI] at C7
          obtain ⟨ha1, hN1, hP1, hnx1, hkx1, l1, l2, F1⟩ := unhide HE1
          have z5 := Bc2.size
          have z6 := K5.low.size
          have HX := hide (show L2A B nb (.slice (some ⟨ga, 0, none⟩) T.length c) N (flE (Pt.un t.at_ 10 q).ex N.length) P (plE (Pt.un t.at_ 10 q).ex) nd pl nv kv w (.returned (.int .i64 (N1.length : Int))) w9 from by
            skip
            have eN : N1 ++ [⟨10, 0, ⟨#[]⟩, [], [a1]⟩] = N ++ flE (Pt.un t.at_ 10 q).ex N.length := by
              have e1 : a1 = ((N.length + q.ex.cnt - 1 : Nat) : Int) := by rw [ha1, flE_len]
              rw [e1, hN1, Pt.ex, flE]
              simp only [List.append_assoc]
            have eP : P1 ++ [(t.at_ : Int)] = P ++ plE (Pt.un t.at_ 10 q).ex := by
              rw [hP1, Pt.ex, plE]
              simp only [List.append_assoc]
            refine ⟨by rw [flE_len, Pt.ex, Ex.cnt, l1]; congr 2, nd7, pl7, nv4 ++ [.slice none 0 0], kv4 ++ [.slice (some ⟨w6.heap.size, 0, none⟩) 1 1], ?_, K11, ?_⟩
            · rw [← eN, ← eP]
              have e1 : nv ++ (nv4 ++ [.slice none 0 0]) = nx1 ++ [.slice none 0 0] := by rw [hnx1]; simp
              have e2 : kv ++ (kv4 ++ [.slice (some ⟨w6.heap.size, 0, none⟩) 1 1]) = kx1 ++ [.slice (some ⟨w6.heap.size, 0, none⟩) 1 1] := by rw [hkx1]; simp
              rw [e1, e2]
              exact C7
            · exact lowV_app (lowV_mono F1 z5) (lowV_one (fun q hq => by
                have h1 : w6.heap.size = q := by simpa [Value.ownBlock] using hq
                omega)))
          clear C7 K10 K11 ha1 hN1 hP1 hnx1 hkx1 l1 l2 F1 z5 z6
          dsimp only
          go_wp2_with fail
          go_ret
          exact unhide HX
        | @set t u cs ht hc hu =>
          obtain ⟨_, f5, f6, f7⟩ := spn_cons hh hsp
          have hnm : nmU (T.drop (lo + 1)) = nms cs := by
            rw [spn_drop hh (by omega), f6, List.append_assoc, List.cons_append, List.nil_append, nmU_set cs hc u _ hu]
          have HTX2 := hide (nmU_ok (T.drop (lo + 1)) (fun x hx => unhide HTX x (List.mem_of_mem_drop hx)))
          rw [hnm] at HTX2
          have hnl : (nms cs).length ≤ 4000 := by
            have := (unhide HTX2).2
            rw [List.length_drop] at this
            omega
          have HTI := hide f5
          have HSC := hide (fun (w' : World) (hb : Below w.heap.size w w') => sScopes_any ((unhide HTT).below hb) hl lo hlt)
          rw [hnm] at HSC
          have Hm := hide (show see kMinus T[lo] = false from by rw [f5]; exact see_ne ht (by decide))
          have Hl := hide (show see kLpar T[lo] = false from by rw [f5]; exact see_ne ht (by decide))
          have Hs := hide (show see kSize T[lo] = false from by rw [f5]; exact see_ne ht (by decide))
          have Hr := hide (show see kLbr T[lo] = true from by rw [f5]; exact ht)
          obtain ⟨M, hM⟩ : ∃ M, M = nms cs := ⟨_, rfl⟩
          rw [← hM] at HSC HTX2 hnl
          have HM0 := hide hM
          have hn2 : N.length + 1 ≤ 65535 := hn
          have hp2 : P.length + 1 ≤ 65535 := hp
          clear hsp f5 f6 ht hc hu hnm hM hn hp
          go_wp2_with fail
          refine (is_at (unhide HTT) B1 lo hlt kMinus false (unhide Hm)).mono ?_
          rintro r wc0 ⟨rfl, hbc⟩
          have Bc0 := B1.trans (hbc.mono B1.size)
          clear hbc B1
          dsimp only
          go_wp2_with fail
          refine (is_at (unhide HTT) Bc0 lo hlt kLpar false (unhide Hl)).mono ?_
          rintro r wc1 ⟨rfl, hbc⟩
          have Bc1 := Bc0.trans (hbc.mono Bc0.size)
          clear hbc Bc0
          dsimp only
          go_wp2_with fail
          refine (is_at (unhide HTT) Bc1 lo hlt kSize false (unhide Hs)).mono ?_
          rintro r wc2 ⟨rfl, hbc⟩
          have Bc2 := Bc1.trans (hbc.mono Bc1.size)
          clear hbc Bc1
          dsimp only
          go_wp2_with fail
          refine (is_at (unhide HTT) Bc2 lo hlt kLbr true (unhide Hr)).mono ?_
          rintro r wc3 ⟨rfl, hbc⟩
          have Bc3 := Bc2.trans (hbc.mono Bc2.size)
          clear hbc Bc2
          dsimp only
          have K3 : Nk B nb nd pl w nd pl wc3 := Nk.of_all Bc3 (by have := hC.row.lt; have := hC.low; omega)
          have C3 := hC.below Bc3
          have T3 := (unhide HTT).below Bc3
          clear K3 C3 T3
          go_wp2_with fail
          refine (unhide HSC _ Bc3).mono ?_
          rintro r w6 ⟨⟨x6, c6, rfl, ho6⟩, hb6⟩
          have B6 := Bc3.trans (hb6.mono Bc3.size)
          have hst6 := Strs.of_owns ho6 (fun k hk => by rw [nth_eq M k hk]; exact (unhide HTX2).1 _ (List.getElem_mem _))
          clear hb6 ho6
          dsimp only
          go_wp2_with fail
          refine (l1sorted_any _ _ _ _ _ hst6 (by omega)).mono ?_
          rintro r w7 ⟨x7, c7, K7, rfl, ho7, hb7, hs7⟩
          have B7 := B6.trans (hb7.mono B6.size)
          have C6 := hC.below B6
          have T6 := (unhide HTT).below B6
          have K6 : Nk B nb nd pl w nd pl w6 := Nk.of_all B6 (by have := hC.row.lt; have := hC.low; omega)
          have HK7 := hide (srt_is hs7)
          clear hs7 hst6
          dsimp only
          go_wp2_with fail
          refine (add_setM T6 hg C6 hb7 hn2 hp2 K7 x7 c7 ho7 lo hlt).mono ?_
          rintro r w8 ⟨rfl, nd4, pl4, nv4, kv4, C4, K4, F4⟩
          rw [unhide HTI] at C4
          have HX := hide (show L2A B nb (.slice (some ⟨ga, 0, none⟩) T.length c) N (flE (Pt.set t.at_ (nms cs)).ex N.length) P (plE (Pt.set t.at_ (nms cs)).ex) nd pl nv kv w (.returned (.int .i64 ((N.length + [(⟨4, 0, ⟨#[]⟩, K7, []⟩ : Nd)].length - 1 : Nat) : Int))) w8 from by
            have e : flE (Pt.set t.at_ (nms cs)).ex N.length = [⟨4, 0, ⟨#[]⟩, K7, []⟩] := by rw [← unhide HM0, unhide HK7]; rfl
            rw [e]
            exact ⟨rfl, nd4, pl4, nv4, kv4, C4, K6.trans K4, lowV_mono F4 B6.size⟩)
          clear C4 K4 F4 K6 C6 T6 ho7 hb7
          dsimp only
          go_wp2_with fail
          go_ret
          exact unhide HX
        | @num t ht =>
          obtain ⟨_, f5, f6, f7⟩ := spn_cons hh hsp
          have hn2 : N.length + 1 ≤ 65535 := hn
          have hp2 : P.length + 1 ≤ 65535 := hp
          have HTI := hide f5
          have Hm := hide (show see kMinus T[lo] = false from by rw [f5]; exact see_kind_no (by omega) (by omega))
          have Hl := hide (show see kLpar T[lo] = false from by rw [f5]; exact see_kind_no (by omega) (by omega))
          have Hs := hide (show see kSize T[lo] = false from by rw [f5]; exact see_kind_no (by omega) (by omega))
          have Hr := hide (show see kLbr T[lo] = false from by rw [f5]; exact see_kind_no (by omega) (by omega))
          have htt := ht
          clear hsp f6 ht hn hp
          go_wp2_with fail
          refine (is_at (unhide HTT) B1 lo hlt kMinus false (unhide Hm)).mono ?_
          rintro r wc0 ⟨rfl, hbc⟩
          have Bc0 := B1.trans (hbc.mono B1.size)
          clear hbc B1
          dsimp only
          go_wp2_with fail
          refine (is_at (unhide HTT) Bc0 lo hlt kLpar false (unhide Hl)).mono ?_
          rintro r wc1 ⟨rfl, hbc⟩
          have Bc1 := Bc0.trans (hbc.mono Bc0.size)
          clear hbc Bc0
          dsimp only
          go_wp2_with fail
          refine (is_at (unhide HTT) Bc1 lo hlt kSize false (unhide Hs)).mono ?_
          rintro r wc2 ⟨rfl, hbc⟩
          have Bc2 := Bc1.trans (hbc.mono Bc1.size)
          clear hbc Bc1
          dsimp only
          go_wp2_with fail
          refine (is_at (unhide HTT) Bc2 lo hlt kLbr false (unhide Hr)).mono ?_
          rintro r wc3 ⟨rfl, hbc⟩
          have Bc3 := Bc2.trans (hbc.mono Bc2.size)
          clear hbc Bc2
          dsimp only
          have K3 : Nk B nb nd pl w nd pl wc3 := Nk.of_all Bc3 (by have := hC.row.lt; have := hC.low; omega)
          have C3 := hC.below Bc3
          have T3 := (unhide HTT).below Bc3
          obtain ⟨q0, q1, q2, q3⟩ := T3.at4 lo hlt
          have a0 := T3.at0
          have ii : (lo : Int) < (T.length : Int) := by omega
          rw [f5] at q0 q1 q2 q3
          rw [htt] at q0
          clear f5 htt K3
          go_wp2_with fail
          have Bd := Bc3.alloc Bc3.size (.cells #[.int .i64 1, .int .i64 t.num, .string t.text, .int .i64 (t.at_ : Int)] 42)
          have K3 : Nk B nb nd pl w nd pl _ := Nk.of_all Bd (by have := hC.row.lt; have := hC.low; omega)
          have C3 := hC.below Bd
          have T3 := (unhide HTT).below Bd
          refine (add_leafM T3 hg C3 hn2 hp2 1 t.num ⟨#[]⟩ lo hlt).mono ?_
          rintro r w8 ⟨rfl, nd4, pl4, nv4, kv4, C4, K4, F4⟩
          rw [unhide HTI] at C4
          have HX := hide (show L2A B nb (.slice (some ⟨ga, 0, none⟩) T.length c) N (flE (Pt.int t.at_ t.num).ex N.length) P (plE (Pt.int t.at_ t.num).ex) nd pl nv kv w (.returned (.int .i64 ((N.length + [(⟨1, t.num, ⟨#[]⟩, [], []⟩ : Nd)].length - 1 : Nat) : Int))) w8 from ⟨rfl, nd4, pl4, nv4, kv4, C4, K3.trans K4, lowV_mono F4 Bd.size⟩)
          clear C4 K4 F4 K3 C3 T3 q0 q1 q2 q3 a0
          dsimp only
          go_wp2_with fail
          go_ret
          exact unhide HX
        | @text t ht =>
          obtain ⟨_, f5, f6, f7⟩ := spn_cons hh hsp
          have hn2 : N.length + 1 ≤ 65535 := hn
          have hp2 : P.length + 1 ≤ 65535 := hp
          have HTI := hide f5
          have Hm := hide (show see kMinus T[lo] = false from by rw [f5]; exact see_kind_no (by omega) (by omega))
          have Hl := hide (show see kLpar T[lo] = false from by rw [f5]; exact see_kind_no (by omega) (by omega))
          have Hs := hide (show see kSize T[lo] = false from by rw [f5]; exact see_kind_no (by omega) (by omega))
          have Hr := hide (show see kLbr T[lo] = false from by rw [f5]; exact see_kind_no (by omega) (by omega))
          have htt := ht
          clear hsp f6 ht hn hp
          go_wp2_with fail
          refine (is_at (unhide HTT) B1 lo hlt kMinus false (unhide Hm)).mono ?_
          rintro r wc0 ⟨rfl, hbc⟩
          have Bc0 := B1.trans (hbc.mono B1.size)
          clear hbc B1
          dsimp only
          go_wp2_with fail
          refine (is_at (unhide HTT) Bc0 lo hlt kLpar false (unhide Hl)).mono ?_
          rintro r wc1 ⟨rfl, hbc⟩
          have Bc1 := Bc0.trans (hbc.mono Bc0.size)
          clear hbc Bc0
          dsimp only
          go_wp2_with fail
          refine (is_at (unhide HTT) Bc1 lo hlt kSize false (unhide Hs)).mono ?_
          rintro r wc2 ⟨rfl, hbc⟩
          have Bc2 := Bc1.trans (hbc.mono Bc1.size)
          clear hbc Bc1
          dsimp only
          go_wp2_with fail
          refine (is_at (unhide HTT) Bc2 lo hlt kLbr false (unhide Hr)).mono ?_
          rintro r wc3 ⟨rfl, hbc⟩
          have Bc3 := Bc2.trans (hbc.mono Bc2.size)
          clear hbc Bc2
          dsimp only
          have K3 : Nk B nb nd pl w nd pl wc3 := Nk.of_all Bc3 (by have := hC.row.lt; have := hC.low; omega)
          have C3 := hC.below Bc3
          have T3 := (unhide HTT).below Bc3
          obtain ⟨q0, q1, q2, q3⟩ := T3.at4 lo hlt
          have a0 := T3.at0
          have ii : (lo : Int) < (T.length : Int) := by omega
          rw [f5] at q0 q1 q2 q3
          rw [htt] at q0
          clear f5 htt K3
          go_wp2_with fail
          have Bd := Bc3.alloc Bc3.size (.cells #[.int .i64 2, .int .i64 t.num, .string t.text, .int .i64 (t.at_ : Int)] 42)
          have K3 : Nk B nb nd pl w nd pl _ := Nk.of_all Bd (by have := hC.row.lt; have := hC.low; omega)
          have C3 := hC.below Bd
          have T3 := (unhide HTT).below Bd
          refine (add_leafM T3 hg C3 hn2 hp2 2 0 t.text lo hlt).mono ?_
          rintro r w8 ⟨rfl, nd4, pl4, nv4, kv4, C4, K4, F4⟩
          rw [unhide HTI] at C4
          have HX := hide (show L2A B nb (.slice (some ⟨ga, 0, none⟩) T.length c) N (flE (Pt.text t.at_ t.text).ex N.length) P (plE (Pt.text t.at_ t.text).ex) nd pl nv kv w (.returned (.int .i64 ((N.length + [(⟨2, 0, t.text, [], []⟩ : Nd)].length - 1 : Nat) : Int))) w8 from ⟨rfl, nd4, pl4, nv4, kv4, C4, K3.trans K4, lowV_mono F4 Bd.size⟩)
          clear C4 K4 F4 K3 C3 T3 q0 q1 q2 q3 a0
          dsimp only
          go_wp2_with fail
          go_ret
          exact unhide HX
        | @name t ht =>
          obtain ⟨_, f5, f6, f7⟩ := spn_cons hh hsp
          have hn2 : N.length + 1 ≤ 65535 := hn
          have hp2 : P.length + 1 ≤ 65535 := hp
          have HTI := hide f5
          have Hm := hide (show see kMinus T[lo] = false from by rw [f5]; exact see_kind_no (by omega) (by omega))
          have Hl := hide (show see kLpar T[lo] = false from by rw [f5]; exact see_kind_no (by omega) (by omega))
          have Hs := hide (show see kSize T[lo] = false from by rw [f5]; exact see_kind_no (by omega) (by omega))
          have Hr := hide (show see kLbr T[lo] = false from by rw [f5]; exact see_kind_no (by omega) (by omega))
          have htt := ht
          clear hsp f6 ht hn hp
          go_wp2_with fail
          refine (is_at (unhide HTT) B1 lo hlt kMinus false (unhide Hm)).mono ?_
          rintro r wc0 ⟨rfl, hbc⟩
          have Bc0 := B1.trans (hbc.mono B1.size)
          clear hbc B1
          dsimp only
          go_wp2_with fail
          refine (is_at (unhide HTT) Bc0 lo hlt kLpar false (unhide Hl)).mono ?_
          rintro r wc1 ⟨rfl, hbc⟩
          have Bc1 := Bc0.trans (hbc.mono Bc0.size)
          clear hbc Bc0
          dsimp only
          go_wp2_with fail
          refine (is_at (unhide HTT) Bc1 lo hlt kSize false (unhide Hs)).mono ?_
          rintro r wc2 ⟨rfl, hbc⟩
          have Bc2 := Bc1.trans (hbc.mono Bc1.size)
          clear hbc Bc1
          dsimp only
          go_wp2_with fail
          refine (is_at (unhide HTT) Bc2 lo hlt kLbr false (unhide Hr)).mono ?_
          rintro r wc3 ⟨rfl, hbc⟩
          have Bc3 := Bc2.trans (hbc.mono Bc2.size)
          clear hbc Bc2
          dsimp only
          have K3 : Nk B nb nd pl w nd pl wc3 := Nk.of_all Bc3 (by have := hC.row.lt; have := hC.low; omega)
          have C3 := hC.below Bc3
          have T3 := (unhide HTT).below Bc3
          obtain ⟨q0, q1, q2, q3⟩ := T3.at4 lo hlt
          have a0 := T3.at0
          have ii : (lo : Int) < (T.length : Int) := by omega
          rw [f5] at q0 q1 q2 q3
          rw [htt] at q0
          clear f5 htt K3
          go_wp2_with fail
          have Bd := Bc3.alloc Bc3.size (.cells #[.int .i64 3, .int .i64 t.num, .string t.text, .int .i64 (t.at_ : Int)] 42)
          have K3 : Nk B nb nd pl w nd pl _ := Nk.of_all Bd (by have := hC.row.lt; have := hC.low; omega)
          have C3 := hC.below Bd
          have T3 := (unhide HTT).below Bd
          refine (add_leafM T3 hg C3 hn2 hp2 5 0 t.text lo hlt).mono ?_
          rintro r w8 ⟨rfl, nd4, pl4, nv4, kv4, C4, K4, F4⟩
          rw [unhide HTI] at C4
          have HX := hide (show L2A B nb (.slice (some ⟨ga, 0, none⟩) T.length c) N (flE (Pt.name t.at_ t.text).ex N.length) P (plE (Pt.name t.at_ t.text).ex) nd pl nv kv w (.returned (.int .i64 ((N.length + [(⟨5, 0, t.text, [], []⟩ : Nd)].length - 1 : Nat) : Int))) w8 from ⟨rfl, nd4, pl4, nv4, kv4, C4, K3.trans K4, lowV_mono F4 Bd.size⟩)
          clear C4 K4 F4 K3 C3 T3 q0 q1 q2 q3 a0
          dsimp only
          go_wp2_with fail
          go_ret
          exact unhide HX
        | @tru t ht =>
          obtain ⟨_, f5, f6, f7⟩ := spn_cons hh hsp
          have hn2 : N.length + 1 ≤ 65535 := hn
          have hp2 : P.length + 1 ≤ 65535 := hp
          have HTI := hide f5
          have Hm := hide (show see kMinus T[lo] = false from by rw [f5]; exact see_ne ht (by decide))
          have Hl := hide (show see kLpar T[lo] = false from by rw [f5]; exact see_ne ht (by decide))
          have Hs := hide (show see kSize T[lo] = false from by rw [f5]; exact see_ne ht (by decide))
          have Hr := hide (show see kLbr T[lo] = false from by rw [f5]; exact see_ne ht (by decide))
          have hkd := see_kind ht
          have htt : t.text = ⟨#[116, 114, 117, 101]⟩ := see_text ht
          clear hsp f6 ht hn hp
          go_wp2_with fail
          refine (is_at (unhide HTT) B1 lo hlt kMinus false (unhide Hm)).mono ?_
          rintro r wc0 ⟨rfl, hbc⟩
          have Bc0 := B1.trans (hbc.mono B1.size)
          clear hbc B1
          dsimp only
          go_wp2_with fail
          refine (is_at (unhide HTT) Bc0 lo hlt kLpar false (unhide Hl)).mono ?_
          rintro r wc1 ⟨rfl, hbc⟩
          have Bc1 := Bc0.trans (hbc.mono Bc0.size)
          clear hbc Bc0
          dsimp only
          go_wp2_with fail
          refine (is_at (unhide HTT) Bc1 lo hlt kSize false (unhide Hs)).mono ?_
          rintro r wc2 ⟨rfl, hbc⟩
          have Bc2 := Bc1.trans (hbc.mono Bc1.size)
          clear hbc Bc1
          dsimp only
          go_wp2_with fail
          refine (is_at (unhide HTT) Bc2 lo hlt kLbr false (unhide Hr)).mono ?_
          rintro r wc3 ⟨rfl, hbc⟩
          have Bc3 := Bc2.trans (hbc.mono Bc2.size)
          clear hbc Bc2
          dsimp only
          have K3 : Nk B nb nd pl w nd pl wc3 := Nk.of_all Bc3 (by have := hC.row.lt; have := hC.low; omega)
          have C3 := hC.below Bc3
          have T3 := (unhide HTT).below Bc3
          obtain ⟨q0, q1, q2, q3⟩ := T3.at4 lo hlt
          have a0 := T3.at0
          have ii : (lo : Int) < (T.length : Int) := by omega
          rw [f5] at q0 q1 q2 q3
          rw [htt] at q2
          rcases hkd with hkd | hkd
          · rw [hkd] at q0
            clear hkd
            clear f5 htt K3
            go_wp2_with fail
            have Bd := Bc3.alloc Bc3.size (.cells #[.int .i64 4, .int .i64 t.num, .string ⟨#[116, 114, 117, 101]⟩, .int .i64 (t.at_ : Int)] 42)
            have Be := Bd.alloc Bd.size (.cells #[.int .i64 3, .int .i64 1, .string ⟨#[]⟩, .slice none 0 0, .slice none 0 0] 91)
            have K3 : Nk B nb nd pl w nd pl _ := Nk.of_all Be (by have := hC.row.lt; have := hC.low; omega)
            have C3 := hC.below Be
            have T3 := (unhide HTT).below Be
            refine (add_leafM T3 hg C3 hn2 hp2 3 1 ⟨#[]⟩ lo hlt).mono ?_
            rintro r w8 ⟨rfl, nd4, pl4, nv4, kv4, C4, K4, F4⟩
            rw [unhide HTI] at C4
            have HX := hide (show L2A B nb (.slice (some ⟨ga, 0, none⟩) T.length c) N (flE (Pt.bool t.at_ true).ex N.length) P (plE (Pt.bool t.at_ true).ex) nd pl nv kv w (.returned (.int .i64 ((N.length + [(⟨3, 1, ⟨#[]⟩, [], []⟩ : Nd)].length - 1 : Nat) : Int))) w8 from ⟨rfl, nd4, pl4, nv4, kv4, C4, K3.trans K4, lowV_mono F4 Be.size⟩)
            clear C4 K4 F4 K3 C3 T3 q0 q1 q2 q3 a0
            dsimp only
            go_wp2_with fail
            go_ret
            exact unhide HX
          · rw [hkd] at q0
            clear hkd
            clear f5 htt K3
            go_wp2_with fail
            have Bd := Bc3.alloc Bc3.size (.cells #[.int .i64 5, .int .i64 t.num, .string ⟨#[116, 114, 117, 101]⟩, .int .i64 (t.at_ : Int)] 42)
            have Be := Bd.alloc Bd.size (.cells #[.int .i64 3, .int .i64 1, .string ⟨#[]⟩, .slice none 0 0, .slice none 0 0] 91)
            have K3 : Nk B nb nd pl w nd pl _ := Nk.of_all Be (by have := hC.row.lt; have := hC.low; omega)
            have C3 := hC.below Be
            have T3 := (unhide HTT).below Be
            refine (add_leafM T3 hg C3 hn2 hp2 3 1 ⟨#[]⟩ lo hlt).mono ?_
            rintro r w8 ⟨rfl, nd4, pl4, nv4, kv4, C4, K4, F4⟩
            rw [unhide HTI] at C4
            have HX := hide (show L2A B nb (.slice (some ⟨ga, 0, none⟩) T.length c) N (flE (Pt.bool t.at_ true).ex N.length) P (plE (Pt.bool t.at_ true).ex) nd pl nv kv w (.returned (.int .i64 ((N.length + [(⟨3, 1, ⟨#[]⟩, [], []⟩ : Nd)].length - 1 : Nat) : Int))) w8 from ⟨rfl, nd4, pl4, nv4, kv4, C4, K3.trans K4, lowV_mono F4 Be.size⟩)
            clear C4 K4 F4 K3 C3 T3 q0 q1 q2 q3 a0
            dsimp only
            go_wp2_with fail
            go_ret
            exact unhide HX
        | @fls t ht =>
          obtain ⟨_, f5, f6, f7⟩ := spn_cons hh hsp
          have hn2 : N.length + 1 ≤ 65535 := hn
          have hp2 : P.length + 1 ≤ 65535 := hp
          have HTI := hide f5
          have Hm := hide (show see kMinus T[lo] = false from by rw [f5]; exact see_ne ht (by decide))
          have Hl := hide (show see kLpar T[lo] = false from by rw [f5]; exact see_ne ht (by decide))
          have Hs := hide (show see kSize T[lo] = false from by rw [f5]; exact see_ne ht (by decide))
          have Hr := hide (show see kLbr T[lo] = false from by rw [f5]; exact see_ne ht (by decide))
          have hkd := see_kind ht
          have htt : t.text = ⟨#[102, 97, 108, 115, 101]⟩ := see_text ht
          clear hsp f6 ht hn hp
          go_wp2_with fail
          refine (is_at (unhide HTT) B1 lo hlt kMinus false (unhide Hm)).mono ?_
          rintro r wc0 ⟨rfl, hbc⟩
          have Bc0 := B1.trans (hbc.mono B1.size)
          clear hbc B1
          dsimp only
          go_wp2_with fail
          refine (is_at (unhide HTT) Bc0 lo hlt kLpar false (unhide Hl)).mono ?_
          rintro r wc1 ⟨rfl, hbc⟩
          have Bc1 := Bc0.trans (hbc.mono Bc0.size)
          clear hbc Bc0
          dsimp only
          go_wp2_with fail
          refine (is_at (unhide HTT) Bc1 lo hlt kSize false (unhide Hs)).mono ?_
          rintro r wc2 ⟨rfl, hbc⟩
          have Bc2 := Bc1.trans (hbc.mono Bc1.size)
          clear hbc Bc1
          dsimp only
          go_wp2_with fail
          refine (is_at (unhide HTT) Bc2 lo hlt kLbr false (unhide Hr)).mono ?_
          rintro r wc3 ⟨rfl, hbc⟩
          have Bc3 := Bc2.trans (hbc.mono Bc2.size)
          clear hbc Bc2
          dsimp only
          have K3 : Nk B nb nd pl w nd pl wc3 := Nk.of_all Bc3 (by have := hC.row.lt; have := hC.low; omega)
          have C3 := hC.below Bc3
          have T3 := (unhide HTT).below Bc3
          obtain ⟨q0, q1, q2, q3⟩ := T3.at4 lo hlt
          have a0 := T3.at0
          have ii : (lo : Int) < (T.length : Int) := by omega
          rw [f5] at q0 q1 q2 q3
          rw [htt] at q2
          rcases hkd with hkd | hkd
          · rw [hkd] at q0
            clear hkd
            clear f5 htt K3
            go_wp2_with fail
            have Bd := Bc3.alloc Bc3.size (.cells #[.int .i64 4, .int .i64 t.num, .string ⟨#[102, 97, 108, 115, 101]⟩, .int .i64 (t.at_ : Int)] 42)
            have Be := Bd.alloc Bd.size (.cells #[.int .i64 3, .int .i64 0, .string ⟨#[]⟩, .slice none 0 0, .slice none 0 0] 91)
            have K3 : Nk B nb nd pl w nd pl _ := Nk.of_all Be (by have := hC.row.lt; have := hC.low; omega)
            have C3 := hC.below Be
            have T3 := (unhide HTT).below Be
            refine (add_leafM T3 hg C3 hn2 hp2 3 0 ⟨#[]⟩ lo hlt).mono ?_
            rintro r w8 ⟨rfl, nd4, pl4, nv4, kv4, C4, K4, F4⟩
            rw [unhide HTI] at C4
            have HX := hide (show L2A B nb (.slice (some ⟨ga, 0, none⟩) T.length c) N (flE (Pt.bool t.at_ false).ex N.length) P (plE (Pt.bool t.at_ false).ex) nd pl nv kv w (.returned (.int .i64 ((N.length + [(⟨3, 0, ⟨#[]⟩, [], []⟩ : Nd)].length - 1 : Nat) : Int))) w8 from ⟨rfl, nd4, pl4, nv4, kv4, C4, K3.trans K4, lowV_mono F4 Be.size⟩)
            clear C4 K4 F4 K3 C3 T3 q0 q1 q2 q3 a0
            dsimp only
            go_wp2_with fail
            go_ret
            exact unhide HX
          · rw [hkd] at q0
            clear hkd
            clear f5 htt K3
            go_wp2_with fail
            have Bd := Bc3.alloc Bc3.size (.cells #[.int .i64 5, .int .i64 t.num, .string ⟨#[102, 97, 108, 115, 101]⟩, .int .i64 (t.at_ : Int)] 42)
            have Be := Bd.alloc Bd.size (.cells #[.int .i64 3, .int .i64 0, .string ⟨#[]⟩, .slice none 0 0, .slice none 0 0] 91)
            have K3 : Nk B nb nd pl w nd pl _ := Nk.of_all Be (by have := hC.row.lt; have := hC.low; omega)
            have C3 := hC.below Be
            have T3 := (unhide HTT).below Be
            refine (add_leafM T3 hg C3 hn2 hp2 3 0 ⟨#[]⟩ lo hlt).mono ?_
            rintro r w8 ⟨rfl, nd4, pl4, nv4, kv4, C4, K4, F4⟩
            rw [unhide HTI] at C4
            have HX := hide (show L2A B nb (.slice (some ⟨ga, 0, none⟩) T.length c) N (flE (Pt.bool t.at_ false).ex N.length) P (plE (Pt.bool t.at_ false).ex) nd pl nv kv w (.returned (.int .i64 ((N.length + [(⟨3, 0, ⟨#[]⟩, [], []⟩ : Nd)].length - 1 : Nat) : Int))) w8 from ⟨rfl, nd4, pl4, nv4, kv4, C4, K3.trans K4, lowV_mono F4 Be.size⟩)
            clear C4 K4 F4 K3 C3 T3 q0 q1 q2 q3 a0
            dsimp only
            go_wp2_with fail
            go_ret
            exact unhide HX

end Go.Proofs.YtcehablmloleaaaGreatDoor

namespace Go.Proofs.YtcehablmloleaaaGreatDoor
open Go.RowKit
set_option linter.unusedVariables false

theorem tree_any {B nb ga c : Nat} {T : List Tok} (hg : ga < B) (hl : T.length ≤ 4000) (htx : ∀ t ∈ T, t.text.size ≤ maxLen) : ∀ (n lo hi : Nat) (p : Pt), hi - lo ≤ n → hi ≤ T.length → lo ≤ hi → G 0 (spn T lo hi) p → TrS B nb ga c T lo hi p
  | n, lo, hi, p, hn, hh, hlo, g => by
    have hlt : lo < hi := by
      obtain ⟨t, r, e, _⟩ := g.head
      obtain ⟨_, _, _, h⟩ := spn_cons hh e
      exact h
    match n, hn with
    | 0, hn => omega
    | n + 1, hn =>
      have ih : ∀ lo' hi' p, hi' ≤ T.length → lo' ≤ hi' → hi' - lo' < hi - lo → G 0 (spn T lo' hi') p → TrS B nb ga c T lo' hi' p :=
        fun lo' hi' p' h1 h2 h3 g' => tree_any hg hl htx n lo' hi' p' (by omega) h1 h2 g'
      rcases g.cut0 with ⟨t, u, v, a, b, d, pa, pb, pd, hs, rfl, h1, h2, h3, g1, g2, g3⟩ | g
      · exact tree_ite hg hl hh hlo hs h1 h2 h3 g1 g2 g3 ih
      · exact tree_lv hg hl htx hh hlt g ih

end Go.Proofs.YtcehablmloleaaaGreatDoor

namespace Go.Proofs.YtcehablmloleaaaGreatDoor
open Go.RowKit
set_option linter.unusedVariables false

theorem is_atI {w w' : World} {nb ga c : Nat} {T : List Tok} (hT : TkM w nb ga c T) (hb : Below w.heap.size w w') (i : Nat) (ii : Int) (hii : ii = (i : Int)) (hi : i < T.length) (s : List UInt8) (b : Bool) (h : see s T[i] = b) :
    Calls Tryz.prog 15 #[.pointer (some ⟨nb, 0, none⟩), .int .i64 ii, .string (ofL s)] w' fun r w'' => r = .returned (.bool b) ∧ Below w'.heap.size w' w'' := by
  subst hii
  exact is_at hT hb i hi s b h

/-- a row of another type is kept -/
theorem Nk.rowL {B nb : Nat} {tv nd pl nd' pl' : Value} {w w' : World} {N : List Nd} {P : List Int} {nv kv : List Value} (h : Nk B nb nd pl w nd' pl' w') (C : LuO w B nb tv N P nd pl nv kv) {g : Nat} {cs : Array Value} {t : TypeId} (R : Row w g cs t) (h1 : t ≠ 45) (h2 : t ≠ 91) (h3 : t ≠ 3) : Row w' g cs t :=
  ⟨(h.block g R.lt (fun e => by
    have r1 := R.out
    have r2 := C.row.out
    rw [e] at r1
    rw [r1] at r2
    injection r2 with r2
    injection r2 with _ r2
    exact h1 r2) (own_ne_row R C.nodes.own h2) (own_ne_row R C.places h3)).trans R.out⟩

/-- blocks beside a policy that is being written down have changed -/
theorem LuO.others {w w' : World} {B nb : Nat} {tv : Value} {N : List Nd} {P : List Int} {nd pl : Value} {nv kv : List Value} (h : LuO w B nb tv N P nd pl nv kv) (X : Nat → Prop) (hX : ∀ q, X q → q ≠ nb ∧ nd.ownBlock ≠ some q ∧ pl.ownBlock ≠ some q ∧ (∀ j, (hj : j < nv.length) → nv[j].ownBlock ≠ some q) ∧ ∀ j, (hj : j < kv.length) → kv[j].ownBlock ≠ some q) (hk : ∀ q, q < w.heap.size → ¬ X q → w'.heap[q]? = w.heap[q]?) : LuO w' B nb tv N P nd pl nv kv :=
  ⟨⟨(hk nb h.row.lt (fun e => (hX _ e).1 rfl)).trans h.row.out⟩,
   h.nodes.upto (fun q hq => hk q (h.nodes.lts.1 q hq).2 (fun e => (hX q e).2.1 hq)) (fun j hj q hq => hk q (h.nodes.lts.2.1 j hj q hq).2 (fun e => (hX q e).2.2.2.1 j hj hq)) (fun j hj q hq => hk q (h.nodes.lts.2.2 j hj q hq).2 (fun e => (hX q e).2.2.2.2 j hj hq)),
   owns_blocksN h.places (fun q hq => hk q (h.places.lt q hq).2 (fun e => (hX q e).2.2.1 hq)), h.apart, h.low⟩

/-- a row of statements has grown beside it -/
theorem LuO.other {w w' : World} {B nb : Nat} {tv : Value} {N : List Nd} {P : List Int} {nd pl : Value} {nv kv : List Value} (h : LuO w B nb tv N P nd pl nv kv) {v : Value} {m : Nat} {xs : List Value} {lo : Nat} (O : w.ownsRow lo 51 4 v m xs) (hk : ∀ q, q < w.heap.size → v.ownBlock ≠ some q → w'.heap[q]? = w.heap[q]?) : LuO w' B nb tv N P nd pl nv kv :=
  h.others (fun q => v.ownBlock = some q) (fun q hq => ⟨fun e => own_ne_row h.row O (by decide) (by rw [hq, e]), fun e => own_ne_ownN O h.nodes.own (by decide) q hq e, fun e => own_ne_ownN O h.places (by decide) q hq e, fun j hj e => own_ne_ownN O (h.nodes.names j (by rw [← h.nodes.len]; exact hj) hj) (by decide) q hq e, fun j hj e => own_ne_ownN O (h.nodes.kids j (by rw [← h.nodes.lenk]; exact hj) hj) (by decide) q hq e⟩) hk

/-- a row of another type was written to -/
theorem LuO.row_set {w w' : World} {B nb : Nat} {tv : Value} {N : List Nd} {P : List Int} {nd pl : Value} {nv kv : List Value} (h : LuO w B nb tv N P nd pl nv kv) {g : Nat} {cs : Array Value} {t : TypeId} (R : Row w g cs t) (h1 : t ≠ 45) (h2 : t ≠ 91) (h3 : t ≠ 3) (h4 : t ≠ 9) (hk : ∀ q, q ≠ g → w'.heap[q]? = w.heap[q]?) : LuO w' B nb tv N P nd pl nv kv :=
  h.others (fun q => q = g) (fun q hq => by
    subst hq
    refine ⟨fun e => ?_, own_ne_row R h.nodes.own h2, own_ne_row R h.places h3, fun j hj => own_ne_row R (h.nodes.names j (by rw [← h.nodes.len]; exact hj) hj) h4, fun j hj => own_ne_row R (h.nodes.kids j (by rw [← h.nodes.lenk]; exact hj) hj) h3⟩
    have r1 := R.out
    have r2 := h.row.out
    rw [e] at r1
    rw [r1] at r2
    injection r2 with r2
    injection r2 with _ r2
    exact h1 r2) (fun q _ hq => hk q hq)

/-- it has gone on beside a row of statements -/
theorem Nk.stmL {B nb : Nat} {tv nd pl nd' pl' : Value} {w w' : World} {N : List Nd} {P : List Int} {nv kv : List Value} (h : Nk B nb nd pl w nd' pl' w') (C : LuO w B nb tv N P nd pl nv kv) {v : Value} {m : Nat} {xs : List Value} {lo : Nat} (O : w.ownsRow lo 51 4 v m xs) : w'.ownsRow lo 51 4 v m xs :=
  owns_blocksN O (fun q hq => h.block q (O.lt q hq).2 (fun e => own_ne_row C.row O (by decide) (by rw [hq, e])) (fun e => own_ne_ownN O C.nodes.own (by decide) q hq e) (fun e => own_ne_ownN O C.places (by decide) q hq e))

/-- a statement out of its block, and a number -/
theorem res_sn {fn : Func} {a u : Tmp} (h : fn.results = #[.cell a 51, .tmp u]) {tmps : Array Value} {w : World} {b : Nat} {v0 v1 v2 v3 e : Value} (ha : tmps.getD a undef = .pointer (some ⟨b, 0, none⟩)) (hu : tmps.getD u undef = e)
    (R : Row w b #[v0, v1, v2, v3] 51) :
    (results fn tmps).run Tryz.prog w = .ok (.tuple #[.agg #[v0, v1, v2, v3], e]) w := by
  rw [Array.getD_eq_getD_getElem?] at ha hu
  have g0 : w.cell? ⟨b, 0, none⟩ = some v0 := R.cell 0
  have g1 : w.cell? ⟨b, 1, none⟩ = some v1 := R.cell 1
  have g2 : w.cell? ⟨b, 2, none⟩ = some v2 := R.cell 2
  have g3 : w.cell? ⟨b, 3, none⟩ = some v3 := R.cell 3
  simp [results, h, ha, hu, go_sem, g0, g1, g2, g3]

/-- a statement that is being written down -/
structure Smt (B nb : Nat) (tv nd pl : Value) (w : World) (N : List Nd) (P : List Int) (nd' pl' : Value) (nv kv : List Value) (v0 v1 v2 v3 : Value) (w' : World) : Prop where
  C : LuO w' B nb tv N P nd' pl' nv kv
  K : Nk B nb nd pl w nd' pl' w'
  R : Row w' w.heap.size #[.int .i64 0, .string ⟨#[]⟩, .int .i64 0, .int .i64 0] 51
  S : Row w' (w.heap.size + 1) #[v0, v1, v2, v3] 51

theorem Smt.start {B nb : Nat} {tv nd pl : Value} {w : World} {N : List Nd} {P : List Int} {nv kv : List Value} (C : LuO w B nb tv N P nd pl nv kv) : Smt B nb tv nd pl w N P nd pl nv kv (.int .i64 0) (.string ⟨#[]⟩) (.int .i64 (-1)) (.int .i64 (-1)) ((w.alloc (.cells #[.int .i64 0, .string ⟨#[]⟩, .int .i64 0, .int .i64 0] 51)).alloc (.cells #[.int .i64 0, .string ⟨#[]⟩, .int .i64 (-1), .int .i64 (-1)] 51)) := by
  have hB : B ≤ w.heap.size := by have := C.row.lt; have := C.low; omega
  have A0 := (Below.refl w.heap.size w).alloc (Nat.le_refl _) (.cells #[.int .i64 0, .string ⟨#[]⟩, .int .i64 0, .int .i64 0] 51)
  have A1 := A0.alloc A0.size (.cells #[.int .i64 0, .string ⟨#[]⟩, .int .i64 (-1), .int .i64 (-1)] 51)
  have S0 := Row.new (w.alloc (.cells #[.int .i64 0, .string ⟨#[]⟩, .int .i64 0, .int .i64 0] 51)) #[.int .i64 0, .string ⟨#[]⟩, .int .i64 (-1), .int .i64 (-1)] 51
  simp only [World.size_alloc] at S0
  exact ⟨C.below A1, Nk.of_all A1 hB, (Row.new w #[.int .i64 0, .string ⟨#[]⟩, .int .i64 0, .int .i64 0] 51).alloc _, S0⟩

theorem Smt.below {B nb : Nat} {tv nd pl nd' pl' : Value} {w w1 w2 : World} {N : List Nd} {P : List Int} {nv kv : List Value} {v0 v1 v2 v3 : Value} (h : Smt B nb tv nd pl w N P nd' pl' nv kv v0 v1 v2 v3 w1) (hb : Below w1.heap.size w1 w2) : Smt B nb tv nd pl w N P nd' pl' nv kv v0 v1 v2 v3 w2 :=
  ⟨h.C.below hb, h.K.trans (Nk.of_all hb (by have := h.C.row.lt; have := h.C.low; omega)), h.R.after hb (Nat.le_refl _), h.S.after hb (Nat.le_refl _)⟩

theorem Smt.call {B nb : Nat} {tv nd pl nd' pl' nd2 pl2 : Value} {w w1 w2 : World} {N N2 : List Nd} {P P2 : List Int} {nv kv nv2 kv2 : List Value} {v0 v1 v2 v3 : Value} (h : Smt B nb tv nd pl w N P nd' pl' nv kv v0 v1 v2 v3 w1) (C2 : LuO w2 B nb tv N2 P2 nd2 pl2 nv2 kv2) (K2 : Nk B nb nd' pl' w1 nd2 pl2 w2) : Smt B nb tv nd pl w N2 P2 nd2 pl2 nv2 kv2 v0 v1 v2 v3 w2 :=
  ⟨C2, h.K.trans K2, K2.rowL h.C h.R (by decide) (by decide) (by decide), K2.rowL h.C h.S (by decide) (by decide) (by decide)⟩

theorem Nk.setNew {B nb : Nat} {nd pl nd' pl' : Value} {w w' : World} (h : Nk B nb nd pl w nd' pl' w') (hB : B ≤ w.heap.size) {p : Addr} (hp : w.heap.size ≤ p.block) (u : Value) : Nk B nb nd pl w nd' pl' (w'.setCell p u) :=
  ⟨h.low.setCell (Nat.le_trans hB hp) u, fun k h1 h2 h3 h4 => (heap_setCell_other w' p k u (by omega)).trans (h.block k h1 h2 h3 h4), h.newN, h.newP⟩

theorem Smt.set {B nb : Nat} {tv nd pl nd' pl' : Value} {w w1 : World} {N : List Nd} {P : List Int} {nv kv : List Value} {v0 v1 v2 v3 u0 u1 u2 u3 : Value} (h : Smt B nb tv nd pl w N P nd' pl' nv kv v0 v1 v2 v3 w1) (hB : B ≤ w.heap.size) (j : Nat) (u : Value) (hu : #[v0, v1, v2, v3].setIfInBounds j u = #[u0, u1, u2, u3]) : Smt B nb tv nd pl w N P nd' pl' nv kv u0 u1 u2 u3 (w1.setCell ⟨w.heap.size + 1, j, none⟩ u) :=
  ⟨h.C.row_set h.S (by decide) (by decide) (by decide) (by decide) (fun q hq => heap_setCell_other w1 ⟨w.heap.size + 1, j, none⟩ q u hq), h.K.setNew hB (Nat.le_succ _) u, h.R.setFar (p := ⟨w.heap.size + 1, j, none⟩) (by simp) u, by have := h.S.set j u; rw [hu] at this; exact this⟩

theorem Smt.row4 {B nb : Nat} {tv nd pl nd' pl' : Value} {w w1 : World} {N : List Nd} {P : List Int} {nv kv : List Value} {v0 v1 v2 v3 : Value} (h : Smt B nb tv nd pl w N P nd' pl' nv kv v0 v1 v2 v3 w1) : w1.cell? ⟨w.heap.size + 1, 0, none⟩ = some v0 ∧ w1.cell? ⟨w.heap.size + 1, 1, none⟩ = some v1 ∧ w1.cell? ⟨w.heap.size + 1, 2, none⟩ = some v2 ∧ w1.cell? ⟨w.heap.size + 1, 3, none⟩ = some v3 ∧ (∀ j, w1.frozen? ⟨w.heap.size + 1, j, none⟩ = false) ∧ (∀ j, w1.frozen? ⟨w.heap.size, j, none⟩ = false) ∧ w1.cell? ⟨nb, 1, none⟩ = some nd' ∧ (w1.cell? ⟨w.heap.size, 0, none⟩ = some (.int .i64 0) ∧ w1.cell? ⟨w.heap.size, 1, none⟩ = some (.string ⟨#[]⟩) ∧ w1.cell? ⟨w.heap.size, 2, none⟩ = some (.int .i64 0) ∧ w1.cell? ⟨w.heap.size, 3, none⟩ = some (.int .i64 0)) :=
  ⟨h.S.cell 0, h.S.cell 1, h.S.cell 2, h.S.cell 3, fun j => h.S.frozen j, fun j => h.R.frozen j, h.C.row.cell 1, h.R.cell 0, h.R.cell 1, h.R.cell 2, h.R.cell 3⟩

theorem Smt.done {B nb : Nat} {tv nd pl nd' pl' : Value} {w w1 : World} {N : List Nd} {P : List Int} {nv kv : List Value} {v0 v1 v2 v3 : Value} (h : Smt B nb tv nd pl w N P nd' pl' nv kv v0 v1 v2 v3 w1) (hB : B ≤ w.heap.size) : Row (put4 w1 w.heap.size v0 v1 v2 v3) w.heap.size #[v0, v1, v2, v3] 51 ∧ LuO (put4 w1 w.heap.size v0 v1 v2 v3) B nb tv N P nd' pl' nv kv ∧ Nk B nb nd pl w nd' pl' (put4 w1 w.heap.size v0 v1 v2 v3) :=
  ⟨put4_row h.R v0 v1 v2 v3, h.C.row_set h.R (by decide) (by decide) (by decide) (by decide) (fun q hq => put4_block w1 w.heap.size q v0 v1 v2 v3 hq), (((h.K.setNew hB (p := ⟨w.heap.size, 0, none⟩) (Nat.le_refl _) v0).setNew hB (p := ⟨w.heap.size, 1, none⟩) (Nat.le_refl _) v1).setNew hB (p := ⟨w.heap.size, 2, none⟩) (Nat.le_refl _) v2).setNew hB (p := ⟨w.heap.size, 3, none⟩) (Nat.le_refl _) v3⟩

theorem spn_mem {T : List Tok} {lo hi k : Nat} (hh : hi ≤ T.length) (h1 : lo ≤ k) (h2 : k < hi) : T[k]'(by omega) ∈ spn T lo hi := by
  have e : (spn T lo hi)[k - lo]'(by rw [spn_len hh]; omega) = T[k]'(by omega) := by
    simp only [spn, List.getElem_drop, List.getElem_take]
    congr 1
    omega
  rw [← e]
  exact List.getElem_mem _

end Go.Proofs.YtcehablmloleaaaGreatDoor
