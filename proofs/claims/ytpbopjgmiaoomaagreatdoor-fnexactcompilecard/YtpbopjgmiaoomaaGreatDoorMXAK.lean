/-
  SFM0, COH, COI, VPO, VPT. Own work.
-/
import Derived.Test.YtpbopjgmiaoomaaGreatDoorMXAF
import Derived.Test.YtpbopjgmiaoomaaGreatDoorMXAD
import Derived.Test.YtpbopjgmiaoomaaGreatDoorMXAT
import Derived.Test.YtpbopjgmiaoomaaGreatDoorMXAI
import Derived.Lib.SmallJoins
import Derived.Test.YtpbopjgmiaoomaaGreatDoorVPK
namespace Go.Proofs.YtpbopjgmiaoomaaGreatDoor
open Go.RowKit
set_option linter.unusedVariables false

/-- a tree of the model, as it lies: its node, and where its kids lie -/
structure K5 where
  op : Int
  num : Int
  text : ByteArray
  an : Option Addr
  nn : Nat
  cn : Nat
  ka : Option Addr
  kn : Nat
  kc : Nat

def K5.cs (k : K5) : List Value := [.int .i64 k.op, .int .i64 k.num, .string k.text, .slice k.an k.nn k.cn, .slice k.ka k.kn k.kc]

/-- blocks that are as they were -/
def KeptR (lo hi : Nat) (w W : World) : Prop := hi ≤ W.heap.size ∧ ∀ q, lo ≤ q → q < hi → W.heap[q]? = w.heap[q]?

theorem KeptR.trans {lo hi : Nat} {w w1 w2 : World} (h : KeptR lo hi w w1) (k : KeptR lo hi w1 w2) : KeptR lo hi w w2 := ⟨k.1, fun q h1 h2 => (k.2 q h1 h2).trans (h.2 q h1 h2)⟩

theorem KeptR.of_below {lo hi B : Nat} {w w1 : World} (h : Below B w w1) (h1 : hi ≤ B) (h2 : hi ≤ w.heap.size) : KeptR lo hi w w1 := ⟨Nat.le_trans h2 h.size, fun q _ h3 => h.block q (by omega)⟩

theorem KeptR.sub {lo hi lo' hi' : Nat} {w W : World} (h : KeptR lo hi w W) (h1 : lo ≤ lo') (h2 : hi' ≤ hi) : KeptR lo' hi' w W := ⟨Nat.le_trans h2 h.1, fun q h3 h4 => h.2 q (by omega) (by omega)⟩

theorem flat5_at (vs : List K5) (j : Nat) (h : j < vs.length) : ∀ r, r < 5 → (vs.flatMap K5.cs)[j * 5 + r]? = (vs[j].cs)[r]? := by
  induction vs generalizing j with
  | nil => simp at h
  | cons k vs ih =>
    intro r hr
    have hl : k.cs.length = 5 := rfl
    cases j with
    | zero =>
      rw [List.flatMap_cons, List.getElem?_append_left (by rw [hl]; omega)]
      simp
    | succ j =>
      rw [List.flatMap_cons, List.getElem?_append_right (by rw [hl]; omega), hl, show (j + 1) * 5 + r - 5 = j * 5 + r by omega, ih j (by simpa using h) r hr]
      simp

/-- the kids' rows, one behind the other -/
def Rows5 (w : World) (ka : Option Addr) (vs : List K5) : Prop := ∀ j, (h : j < vs.length) → ∃ b off, ka = some ⟨b, off, none⟩ ∧ b < w.heap.size ∧ ∀ r, r < 5 → w.cell? ⟨b, off + j * 5 + r, none⟩ = (vs[j].cs)[r]?

theorem Rows5.below {w w' : World} {B : Nat} {ka : Option Addr} {vs : List K5} (h : Rows5 w ka vs) (hb : Below B w w') (hB : w.heap.size ≤ B) : Rows5 w' ka vs := fun j hj => by
  obtain ⟨b, off, h1, h2, h3⟩ := h j hj
  exact ⟨b, off, h1, Nat.lt_of_lt_of_le h2 hb.size, fun r hr => (hb.cell (p := ⟨b, off + j * 5 + r, none⟩) (by show b < B; omega)).trans (h3 r hr)⟩

end Go.Proofs.YtpbopjgmiaoomaaGreatDoor

namespace Go.Proofs.YtpbopjgmiaoomaaGreatDoor
open Go.RowKit
set_option linter.unusedVariables false

set_option maxHeartbeats 2000000 in
set_option maxRecDepth 100000 in
theorem cloneC_any (a : Option Addr) (n c : Nat) (ss : List ByteArray) (w : World) (h : Strs w a n c ss) (hl : ss.length ≤ 1048576) :
    Calls Tryz.prog 106 #[.slice a n c] w fun e w' => (∃ x cx, e = .returned (.slice x ss.length cx) ∧ w'.ownsRow w.heap.size 9 1 (.slice x ss.length cx) ss.length (ss.map Value.string)) ∧ Below w.heap.size w w' := by
  obtain ⟨si, hsi, sz0, sz1, sz2⟩ := info_parts infoS
  have hn := h.len
  cases a with
  | none =>
    have h0 : n = 0 := by
      rcases Nat.eq_zero_or_pos n with q | q
      · exact q
      · obtain ⟨b, off, e, _⟩ := h.cells 0 q; cases e
    subst h0
    obtain rfl : ss = [] := List.eq_nil_of_length_eq_zero hn.symm
    clear h hl hn
    have q24 : ∀ (w : World) (a : Option Addr) (n c n' c' : Nat), (binOp .eql 51 (.slice a n c) (.slice none n' c')).run Tryz.prog w = .ok (.bool a.isNone) w := fun w a n c n' c' => Lib.run_eql_slice_nil w _ _ a n c n' c' Tryz.underlying51
    go_enter Tryz.func106, Tryz.ntmps106
    go_wp2_with fail
    go_ret
    exact ⟨⟨none, 0, rfl, World.ownsRow_nil _ _ _ _⟩, Below.refl _ _⟩
  | some ad =>
    have q24 : ∀ (w : World) (a : Option Addr) (n c n' c' : Nat), (binOp .eql 51 (.slice a n c) (.slice none n' c')).run Tryz.prog w = .ok (.bool a.isNone) w := fun w a n c n' c' => Lib.run_eql_slice_nil w _ _ a n c n' c' Tryz.underlying51
    have u24 : ∀ w, Sem.run Tryz.prog (underlying 51) w = .ok (TypeDesc.slice 9) w := run_underlying Tryz.underlying51
    have HS := hide h
    have HN := hide hn
    have hsm : n ≤ 1048576 := by omega
    clear h hn
    go_enter Tryz.func106, Tryz.ntmps106
    go_wp2_with (at_builtin; refine wpList_append_own _ rfl _ _ 51 rfl w.heap.size 9 si (.string ByteArray.empty) 1 16 Tryz.underlying51 hsi sz0 sz1 sz2 rfl (by decide) _ _ _ rfl (World.ownsRow_made w #[] 0 (Nat.le_refl _) (Nat.zero_le _) rfl) ad n c (ss.map Value.string) rfl ?qc1 ?qc2 ?qc3 ?qc4 ?qc5 ?qc6 ?_)
    case qc1 => rw [List.length_map, unhide HN]; omega
    case qc2 =>
      intro j u hj
      have hjn : j < n := by
        have := (List.getElem?_eq_some_iff.1 hj).1
        rw [List.length_map] at this
        rw [unhide HN]; exact this
      obtain ⟨b, off, e, hb, hc⟩ := (unhide HS).cells j hjn
      cases e
      rw [Addr.add_lit]
      refine Lib.cell?_alloc_some _ ?_
      rw [hc, ← hj, List.getElem?_map, List.getElem?_eq_getElem (by rw [← unhide HN]; exact hjn), nth_eq _ _ (by rw [← unhide HN]; exact hjn)]
      rfl
    case qc3 => intro u hu; obtain ⟨x, _, rfl⟩ := List.mem_map.1 hu; rfl
    case qc4 => unfold maxLen; omega
    case qc5 => omega
    case qc6 => simp
    intro v' w1 hown hgrow hnil
    have B1 := ((Below.refl _ w).alloc (Nat.le_refl _) (.cells #[] 9)).grown hgrow (by simp) (by intro k hk; simp [Value.ownBlock] at hk; omega)
    have hown2 : w1.ownsRow w.heap.size 9 1 v' n (ss.map Value.string) := by simpa using hown
    obtain ⟨x, cx, rfl, _⟩ := owns_form2 hown2
    clear hown hnil hgrow
    go_wp2_with fail
    go_ret
    have e := unhide HN
    subst e
    exact ⟨⟨x, cx, rfl, hown2⟩, B1⟩

theorem own_lowC {w : World} {base base' : Nat} {e : TypeId} {size : Nat} {v : Value} {n : Nat} {xs : List Value} (h : w.ownsRow base e size v n xs) (hb : base' ≤ base) : w.ownsRow base' e size v n xs := by
  refine ⟨h.1, ?_⟩
  rcases h.2 with h2 | ⟨g, cap, cur, hv, h3, h4⟩
  · exact .inl h2
  · exact .inr ⟨g, cap, cur, hv, Nat.le_trans hb h3, h4⟩

/-- a value of the call's own -/
def VaA (v : Vl) (w : World) (r : Ending) (w' : World) : Prop := (∃ x cx, r = .returned (.agg #[.int .i64 v.kind, .int .i64 v.num, .string v.text, .slice x v.names.length cx]) ∧ w'.ownsRow w.heap.size 9 1 (.slice x v.names.length cx) v.names.length (v.names.map Value.string)) ∧ Below w.heap.size w w'

set_option maxRecDepth 100000 in
set_option maxHeartbeats 1600000 in
theorem const_int (i n : Int) (w : World) : Calls Tryz.prog 88 #[(Ex.int i n).val] w (VaA (exV (Ex.int i n)) w) := by
  rw [Ex.val]
  have hint := ta_hit (T := 181) Tryz.underlying181 75
  go_enter Tryz.func88, Tryz.ntmps88
  go_wp2_with fail
  refine bodyPost_ret (v := .agg #[.int .i64 2, .int .i64 n, .string ⟨#[]⟩, .slice none 0 0]) (by simp [results, Tryz.results88, go_sem]) rfl ⟨⟨none, 0, rfl, World.ownsRow_nil _ _ _ _⟩, ?_⟩
  exact ((Below.refl w.heap.size w).alloc (Nat.le_refl _) _).alloc (by simp) _

set_option maxRecDepth 100000 in
set_option maxHeartbeats 1600000 in
theorem const_text (i : Int) (s : ByteArray) (w : World) : Calls Tryz.prog 88 #[(Ex.text i s).val] w (VaA (exV (Ex.text i s)) w) := by
  rw [Ex.val]
  have mint := ta_miss (S := 183) (T := 181) Tryz.underlying181 Tryz.zeroValue181 (by decide) 75
  have htext := ta_hit (T := 183) Tryz.underlying183 75
  go_enter Tryz.func88, Tryz.ntmps88
  go_wp2_with fail
  refine bodyPost_ret (v := .agg #[.int .i64 3, .int .i64 0, .string s, .slice none 0 0]) (by simp [results, Tryz.results88, go_sem]) rfl ⟨⟨none, 0, rfl, World.ownsRow_nil _ _ _ _⟩, ?_⟩
  exact ((Below.refl w.heap.size w).alloc (Nat.le_refl _) _).alloc (by simp) _

set_option maxRecDepth 100000 in
set_option maxHeartbeats 1600000 in
theorem const_bool (i : Int) (b : Bool) (w : World) : Calls Tryz.prog 88 #[(Ex.bool i b).val] w (VaA (exV (Ex.bool i b)) w) := by
  rw [Ex.val]
  have mint := ta_miss (S := 185) (T := 181) Tryz.underlying181 Tryz.zeroValue181 (by decide) 75
  have mtext := ta_miss (S := 185) (T := 183) Tryz.underlying183 Tryz.zeroValue183 (by decide) 75
  have hbool := ta_hit (T := 185) Tryz.underlying185 75
  cases b
  · go_enter Tryz.func88, Tryz.ntmps88
    go_wp2_with fail
    refine bodyPost_ret (v := .agg #[.int .i64 1, .int .i64 0, .string ⟨#[]⟩, .slice none 0 0]) (by simp [results, Tryz.results88, go_sem]) rfl ⟨⟨none, 0, rfl, World.ownsRow_nil _ _ _ _⟩, ?_⟩
    exact ((Below.refl w.heap.size w).alloc (Nat.le_refl _) _).alloc (by simp) _
  · go_enter Tryz.func88, Tryz.ntmps88
    go_wp2_with fail
    refine bodyPost_ret (v := .agg #[.int .i64 1, .int .i64 1, .string ⟨#[]⟩, .slice none 0 0]) (by simp [results, Tryz.results88, go_sem]) rfl ⟨⟨none, 0, rfl, World.ownsRow_nil _ _ _ _⟩, ?_⟩
    exact ((Below.refl w.heap.size w).alloc (Nat.le_refl _) _).alloc (by simp) _

set_option maxRecDepth 100000 in
set_option maxHeartbeats 1600000 in
theorem const_set (i : Int) (a : Option Addr) (n c : Nat) (ss : List ByteArray) (w : World) (hS : Strs w a n c ss) (hl : ss.length ≤ 1048576) : Calls Tryz.prog 88 #[(Ex.set i a n c ss).val] w (VaA (exV (Ex.set i a n c ss)) w) := by
  rw [Ex.val]
  have mint := ta_miss (S := 187) (T := 181) Tryz.underlying181 Tryz.zeroValue181 (by decide) 75
  have mtext := ta_miss (S := 187) (T := 183) Tryz.underlying183 Tryz.zeroValue183 (by decide) 75
  have mbool := ta_miss (S := 187) (T := 185) Tryz.underlying185 Tryz.zeroValue185 (by decide) 75
  have hset := ta_hit (T := 187) Tryz.underlying187 75
  have B2 := ((Below.refl w.heap.size w).alloc (Nat.le_refl _) (.cells #[.int .i64 0, .int .i64 0, .string ⟨#[]⟩, .slice none 0 0] 57)).alloc (by simp) (.cells #[.int .i64 i, .slice a n c] 187)
  have R1 := (Row.new w #[.int .i64 0, .int .i64 0, .string ⟨#[]⟩, .slice none 0 0] 57).alloc (.cells #[.int .i64 i, .slice a n c] 187)
  have HC := hide (cloneC_any a n c ss _ (hS.below B2 (Nat.le_refl _)) hl)
  clear hS
  go_enter Tryz.func88, Tryz.ntmps88
  go_wp2_with fail
  refine (unhide HC).mono ?_
  rintro r w1 ⟨⟨x, cx, rfl, OO⟩, hb1⟩
  have R4 := R1.after hb1 (Nat.le_refl _)
  obtain ⟨x0, x1, x2, x3⟩ := row4C R4
  have f0 := fun j => R4.frozen j
  have Q4 := (((R4.set 0 (.int .i64 4)).set 1 (.int .i64 0)).set 2 (.string ⟨#[]⟩)).set 3 (.slice x ss.length cx)
  obtain ⟨p0, p1, p2, p3⟩ := row4C Q4
  have B4 := B2.trans (hb1.mono (by simp; omega))
  have HBE := hide ((((B4.setCell (p := ⟨w.heap.size, 0, none⟩) (Nat.le_refl _) (.int .i64 4)).setCell (p := ⟨w.heap.size, 1, none⟩) (Nat.le_refl _) (.int .i64 0)).setCell (p := ⟨w.heap.size, 2, none⟩) (Nat.le_refl _) (.string ⟨#[]⟩)).setCell (p := ⟨w.heap.size, 3, none⟩) (Nat.le_refl _) (.slice x ss.length cx))
  have ne : ∀ q, (Value.slice x ss.length cx).ownBlock = some q → q ≠ w.heap.size := fun q hq h => by have := (OO.lt q hq).1; simp at this; omega
  have OE := hide (own_set3 (own_set3 (own_set3 (own_set3 (own_lowC (base' := w.heap.size) OO (by simp; omega)) ⟨w.heap.size, 0, none⟩ (.int .i64 4) ne) ⟨w.heap.size, 1, none⟩ (.int .i64 0) ne) ⟨w.heap.size, 2, none⟩ (.string ⟨#[]⟩) ne) ⟨w.heap.size, 3, none⟩ (.slice x ss.length cx) ne)
  clear R1 R4 Q4 B2 B4 hb1 HC OO ne
  dsimp only
  go_wp2_with fail
  refine bodyPost_ret (v := .agg #[.int .i64 4, .int .i64 0, .string ⟨#[]⟩, .slice x ss.length cx]) (by simp [results, Tryz.results88, go_sem, p0, p1, p2, p3]) rfl ?_
  exact ⟨⟨x, cx, rfl, unhide OE⟩, unhide HBE⟩

end Go.Proofs.YtpbopjgmiaoomaaGreatDoor

namespace Go.Proofs.YtpbopjgmiaoomaaGreatDoor
open Go.RowKit
set_option linter.unusedVariables false

/-- the compiler, as it lies -/
structure CmO (w : World) (B cb mb : Nat) (s : Cs) (pv iv : Value) (nv : List Value) : Prop where
  row : Row w cb #[pv, .int .i64 s.slots, iv, .map (some mb)] 68
  pool : OwnP w B pv s.pool nv
  ins : w.ownsRow B 62 2 iv s.ins.length (insV s.ins)
  map : MapP w mb s.pool
  nd : s.pool.Nodup
  ok : ∀ v ∈ s.pool, okW v
  low : B ≤ cb ∧ B ≤ mb

theorem CmO.below {w w' : World} {B cb mb : Nat} {s : Cs} {pv iv : Value} {nv : List Value} (h : CmO w B cb mb s pv iv nv) (hb : Below w.heap.size w w') : CmO w' B cb mb s pv iv nv :=
  ⟨h.row.after hb (Nat.le_refl _), h.pool.blocks (fun k _ hk => hb.block k hk), ownsRow_below h.ins hb (Nat.le_refl _), h.map.keep (hb.block mb h.map.lt), h.nd, h.ok, h.low⟩

theorem okW_small {v : Vl} (h : okW v) : v.text.size ≤ 255 ∧ v.names.length ≤ 255 ∧ ∀ s ∈ v.names, s.size ≤ 255 := by
  rcases h with ⟨_, _, h2, h3⟩ | ⟨_, _, h2, h3⟩ | ⟨_, h2, _, h3⟩ | ⟨_, h1, h2, _, h3⟩
  · rw [h2, h3]; exact ⟨by decide, by simp, by simp⟩
  · rw [h2, h3]; exact ⟨by decide, by simp, by simp⟩
  · rw [h3]; exact ⟨h2, by simp, by simp⟩
  · rw [h3]; exact ⟨by decide, h1, h2⟩

theorem valE_pos (v : Vl) : 0 < (valE v).length := by rw [valE, List.length_append, beB_len]; omega

/-- the bytes as a text -/
theorem conv_key {w : World} {B n c : Nat} {a : Option Addr} {L : List Int} (h : w.ownsRow B 5 1 (.slice a n c) n (bytesV L)) (hl : L.length = n) (hp : 0 < n) : (convert 166 9 (.slice a n c)).run Tryz.prog w = .ok (.string (keyB L)) w := by
  obtain ⟨x, c', e, hx⟩ := owns_form2 h
  simp only [Value.slice.injEq] at e
  obtain ⟨rfl, _, rfl⟩ := e
  obtain ⟨g, rfl, _, hc⟩ := hx hp
  refine run_convert_bytes_arg (P := Tryz.prog) w 166 5 Tryz.underlying166 Tryz.underlying5 g 0 n c L hl (fun i hi => ?_) 9 Tryz.underlying9
  rw [Nat.zero_add]
  refine hc i _ ?_
  rw [bytesV, List.getElem?_map, List.getElem?_eq_getElem (by omega), List.getD, List.getElem?_eq_getElem (by omega)]
  rfl

set_option maxRecDepth 100000 in
set_option maxHeartbeats 3200000 in
theorem placeOf_old (B cb mb : Nat) (s : Cs) (pv iv : Value) (nv : List Value) (v : Vl) (x : Option Addr) (cx : Nat) (w : World) (h : CmO w B cb mb s pv iv nv) (hv : okW v) (hvB : valB v = true) (hN : w.ownsRow B 9 1 (.slice x v.names.length cx) v.names.length (v.names.map Value.string)) (k : Nat) (hf : findV v s.pool 0 = some k) (hB : B ≤ w.heap.size) :
    Calls Tryz.prog 87 #[.pointer (some ⟨cb, 0, none⟩), .agg #[.int .i64 v.kind, .int .i64 v.num, .string v.text, .slice x v.names.length cx]] w fun r w' => r = .returned (.int .i64 (k : Nat)) ∧ CmO w' B cb mb s pv iv nv ∧ Below w.heap.size w w' := by
  have hsm := okW_small hv
  have A1 := (Below.refl w.heap.size w).alloc (Nat.le_refl _) (.cells #[.int .i64 v.kind, .int .i64 v.num, .string v.text, .slice x v.names.length cx] 57)
  have A2 := A1.alloc A1.size (.cells #[.int .i64 0, .int .i64 0, .int .i64 0, .slice none 0 0] 193)
  have RW := Row.new (w.alloc (.cells #[.int .i64 v.kind, .int .i64 v.num, .string v.text, .slice x v.names.length cx] 57)) #[.int .i64 0, .int .i64 0, .int .i64 0, .slice none 0 0] 193
  simp only [World.size_alloc] at RW
  have HV := hide (value_any (w.heap.size + 1) 0 0 0 (.slice none 0 0) [] v x v.names.length cx _ ⟨RW, World.ownsRow_nil _ _ _ _⟩ (by simp) hvB (w.alloc (.cells #[.int .i64 v.kind, .int .i64 v.num, .string v.text, .slice x v.names.length cx] 57)) ((Strs.of_owns hN (fun j hj => by rw [nth_eq _ j hj]; have := hsm.2.2 _ (List.getElem_mem hj); unfold maxLen; omega)).below A1 (Nat.le_refl _)) (by simp) ((Below.refl _ _).alloc (Nat.le_refl _) _) (by omega))
  have HH := hide h
  have HP := hide (And.intro hv hf)
  clear h hN hv hvB hf hsm
  go_enter Tryz.func87, Tryz.ntmps87
  go_wp2_with fail
  refine (unhide HV).mono ?_
  rintro r w1 ⟨rfl, v', hW, hKK, hb⟩
  have BW := A2.trans (hb.mono (by omega))
  have H1 := (unhide HH).below BW
  have HE := hide H1
  have HBW := hide BW
  rw [List.nil_append] at hW
  obtain ⟨y, cy, rfl, _⟩ := owns_form2 hW.own
  have hcv := conv_key hW.own rfl (valE_pos v)
  have hlk := run_lookV w1 mb s.pool v H1.map H1.nd H1.ok (unhide HP).1
  rw [(unhide HP).2] at hlk
  obtain ⟨c0, c1, c2, c3⟩ := row4C H1.row
  obtain ⟨w0, w1', w2', w3'⟩ := row4C hW.row
  clear A1 A2 RW HV hKK hb BW H1 hW HH
  generalize (valE v).length = nn at *
  dsimp only
  go_wp2_with fail
  go_ret
  exact ⟨rfl, unhide HE, unhide HBW⟩

end Go.Proofs.YtpbopjgmiaoomaaGreatDoor

namespace Go.Proofs.YtpbopjgmiaoomaaGreatDoor
open Go.RowKit
set_option linter.unusedVariables false

/-- the depths of the kids -/
def deepK (F : Int → Nat) (ks : List Int) : Nat := ks.foldl (fun d k => max d (F k)) 0

theorem deepK_snoc (F : Int → Nat) (ks : List Int) (k : Int) : deepK F (ks ++ [k]) = max (deepK F ks) (F k) := by
  rw [deepK, List.foldl_append]; rfl

theorem deepK_le {F : Int → Nat} {M : Nat} (h : ∀ k, F k ≤ M) : ∀ (ks : List Int) (d : Nat), d ≤ M → ks.foldl (fun d k => max d (F k)) d ≤ M
  | [], d, hd => hd
  | k :: ks, d, hd => by
    rw [List.foldl_cons]
    exact deepK_le h ks _ (by have := h k; omega)

theorem depthF_le (K : List (List Int)) : ∀ (n : Nat) (t : Int), depthF K n t ≤ n + 1
  | 0, t => by rw [depthF]; show 1 ≤ 0 + 1; omega
  | n + 1, t => by
    rw [depthF]
    dsimp only
    have := deepK_le (F := depthF K n) (M := n + 1) (depthF_le K n) (K.getD t.toNat []) 0 (by omega)
    omega

set_option maxRecDepth 100000 in
set_option maxHeartbeats 3200000 in
theorem l2depth_any (a : Option Addr) (n c : Nat) (N : List Nd) (w0 : World) (hN : Nds w0 a n c N) (hOK : ∀ t, (h : t < N.length) → ∀ y ∈ N[t].kids, 0 ≤ y ∧ y < (t : Int)) :
    ∀ (fuel t : Nat) (w : World), fuel ≤ 4001 → t < n → t < fuel → Below w0.heap.size w0 w →
    Calls Tryz.prog 72 #[.slice a n c, .int .i64 t] w fun e w' => e = .returned (.int .i64 (depthF (N.map Nd.kids) fuel (t : Int))) ∧ Below w.heap.size w w' := by
  have HL := hide hN.len
  have HOK := hide hOK
  clear hOK
  intro fuel
  induction fuel with
  | zero => intro t w _ _ h; omega
  | succ fuel ih =>
    intro t w hfl htn htf hb
    have htl : t < N.length := by rw [unhide HL]; exact htn
    have itn : (t : Int) < (n : Int) := by omega
    have hk := unhide HOK t htl
    have HW := hide (show depthF (N.map Nd.kids) (fuel + 1) (t : Int) = deepK (depthF (N.map Nd.kids) fuel) N[t].kids + 1 by
      rw [depthF]
      dsimp only
      rw [Int.toNat_natCast, List.getD_eq_getElem?_getD, List.getElem?_map, List.getElem?_eq_getElem htl]
      rfl)
    have HWL := hide (depthF_le (N.map Nd.kids) fuel)
    obtain ⟨b, off, rfl, hbl, an, nn, cn, ak, nk, ck, c0, c1, c2, c3, c4, hNm, hKd⟩ := hN.cells t htl
    have c4 := (hb.cell (p := ⟨b, off + t * 5 + 4, none⟩) hbl).trans c4
    rw [unhide HW]
    clear HW c0 c1 c2 c3
    generalize N[t] = x at c4 hNm hKd hk ⊢
    generalize depthF (N.map Nd.kids) fuel = F at ih HWL ⊢
    have HKL := hide hKd.len
    have hnk := hKd.small
    have Hk := hide hk
    clear hk
    go_enter Tryz.func72, Tryz.ntmps72
    go_wp2_with fail
    go_loopw [5, 15] (fun d i wr => ∃ j : Nat, j ≤ nk ∧ i = .int .i64 j ∧ d = .int .i64 (deepK F (x.kids.take j)) ∧ deepK F (x.kids.take j) ≤ 4001 ∧ Below w.heap.size w wr) (fun _ i _ => nk - (intOf i).toNat)
    case atStart => exact ⟨0, by omega, rfl, rfl, by simp [deepK], Below.refl _ _⟩
    case round =>
      obtain ⟨j, hj, rfl, rfl, hd, B1⟩ := hrel
      have E0 := hb.trans (B1.mono hb.size)
      by_cases hjl : j < nk
      · have ijl : (j : Int) < (nk : Int) := by omega
        have hjk : j < x.kids.length := by rw [unhide HKL]; exact hjl
        obtain ⟨bk, ok, rfl, hbk, ck0⟩ := (hKd.below E0 (Nat.le_refl _)).cells j hjk
        obtain ⟨hy0, hyt⟩ := unhide Hk x.kids[j] (List.getElem_mem hjk)
        have HS := hide (show deepK F (x.kids.take (j + 1)) = max (deepK F (x.kids.take j)) (F x.kids[j]) by rw [List.take_succ_eq_append_getElem hjk, deepK_snoc])
        have Hjl := hide hjl
        generalize x.kids[j] = y at ck0 hy0 hyt HS
        obtain ⟨s, rfl⟩ : ∃ s : Nat, y = (s : Int) := ⟨y.toNat, by omega⟩
        have hF := unhide HWL (s : Int)
        generalize deepK F (x.kids.take j) = D at hd HS
        by_cases hgt : D < F (s : Int)
        · have igt : (D : Int) < (F (s : Int) : Int) := by omega
          have HM := hide (show deepK F (x.kids.take (j + 1)) = F (s : Int) by rw [unhide HS]; omega)
          go_wp2_with (go_at_call 72; refine (ih s wr (by omega) (by omega) (by omega) E0).mono ?_; rintro e w2 ⟨rfl, hb2⟩)
          go_roundw
          case rel => exact ⟨j + 1, unhide Hjl, by go_num, by rw [unhide HM], by rw [unhide HM]; omega, B1.trans (hb2.mono B1.size)⟩
          case measure => have := unhide Hjl; simp [intOf]; omega
        · have igt : ¬ ((D : Int) < (F (s : Int) : Int)) := by omega
          have HM := hide (show deepK F (x.kids.take (j + 1)) = D by rw [unhide HS]; omega)
          go_wp2_with (go_at_call 72; refine (ih s wr (by omega) (by omega) (by omega) E0).mono ?_; rintro e w2 ⟨rfl, hb2⟩)
          go_roundw
          case rel => exact ⟨j + 1, unhide Hjl, by go_num, by rw [unhide HM], by rw [unhide HM]; omega, B1.trans (hb2.mono B1.size)⟩
          case measure => have := unhide Hjl; simp [intOf]; omega
      · have e : j = nk := by omega
        subst e
        have HT := hide (show x.kids.take j = x.kids from List.take_of_length_le (by rw [unhide HKL]; exact Nat.le_refl _))
        rw [unhide HT] at hd ⊢
        generalize hD : deepK F x.kids = D at hd ⊢
        have HD := hide hD
        clear hD
        go_wp2_with fail
        go_ret
        exact ⟨by rw [unhide HD, Int.natCast_add]; rfl, B1⟩

end Go.Proofs.YtpbopjgmiaoomaaGreatDoor

namespace Go.Proofs.YtpbopjgmiaoomaaGreatDoor
open Go.RowKit
set_option linter.unusedVariables false

def stAtS (L : List St) (j : Nat) (h : j < L.length) : Bool := stmtS (decide (j + 1 = L.length)) L[j]

theorem stmtsS_iff : ∀ (L : List St), stmtsS L = true ↔ ∀ j, (h : j < L.length) → stAtS L j h = true
  | [] => by simp [stmtsS]
  | s :: r => by
    rw [stmtsS, Bool.and_eq_true, stmtsS_iff r]
    have e : r.isEmpty = decide (0 + 1 = (s :: r).length) := by cases r <;> simp
    constructor
    · rintro ⟨h1, h2⟩ j hj
      cases j with
      | zero => rw [e] at h1; exact h1
      | succ j =>
        have := h2 j (by simpa using hj)
        rw [stAtS] at this ⊢
        simp only [List.getElem_cons_succ, List.length_cons] at this ⊢
        rw [show decide (j + 1 + 1 = r.length + 1) = decide (j + 1 = r.length) by rw [decide_eq_decide]; omega]
        exact this
    · intro h
      refine ⟨by rw [e]; exact h 0 (by simp), fun j hj => ?_⟩
      have := h (j + 1) (by simpa using hj)
      rw [stAtS] at this ⊢
      simp only [List.getElem_cons_succ, List.length_cons] at this
      rw [show decide (j + 1 + 1 = r.length + 1) = decide (j + 1 = r.length) by rw [decide_eq_decide]; omega] at this
      exact this

theorem roots_succ (L : List St) (k : Nat) (h : k < L.length) : (L.take (k + 1)).flatMap rootsOf = (L.take k).flatMap rootsOf ++ rootsOf L[k] := by
  rw [List.take_succ_eq_append_getElem h, List.flatMap_append]
  simp

/-- the order that the walks over these tops give -/
def ordF (K : List (List Int)) (n : Nat) (rs : List Int) : List Int := rs.foldl (fun o r => walkF K n r o) []

theorem ordF_append (K : List (List Int)) (n : Nat) (rs qs : List Int) : ordF K n (rs ++ qs) = qs.foldl (fun o r => walkF K n r o) (ordF K n rs) := by rw [ordF, List.foldl_append, ordF]

theorem Forest.kids {K : List (List Int)} {a b : Nat} {fs : List (Nat × Nat)} (h : Forest K a fs b) : ∀ j, a ≤ j → j < b → ∃ ks, K[j]? = some (topsI ks) ∧ ∀ p ∈ ks, p.1 < j := by
  induction h with
  | nil a => intro j h1 h2; omega
  | cons hk ht hf i1 i2 =>
    rename_i a t b ks fs
    intro j h1 h2
    rcases Nat.lt_trichotomy j t with e | e | e
    · exact i1 j h1 e
    · subst e; exact ⟨ks, ht, fun p hp => (hk.lt p hp).2⟩
    · exact i2 j (by omega) h2

/-- where the walks give all nodes in order, all kids stand ahead -/
theorem kids_ahead {N : List Nd} {n : Nat} {rs : List Int} (hn : N.length = n) (hl : (ordF (N.map Nd.kids) n rs).length = n) (hg : good (ordF (N.map Nd.kids) n rs)) :
    (∀ t, (h : t < N.length) → ∀ y ∈ N[t].kids, 0 ≤ y ∧ y < (t : Int)) ∧ ∀ r ∈ rs, 0 ≤ r ∧ r < (n : Int) := by
  obtain ⟨fs, e1, hf⟩ := roots_good (K := N.map Nd.kids) (n := n) rs [] hg
  have hf' : Forest (N.map Nd.kids) 0 fs n := by
    have : (rs.foldl (fun o k => walkF (N.map Nd.kids) n k o) []).length = n := hl
    rw [this] at hf
    exact hf
  constructor
  · intro t h y hy
    obtain ⟨ks, h1, h2⟩ := hf'.kids t (Nat.zero_le _) (by omega)
    rw [List.getElem?_map, List.getElem?_eq_getElem h] at h1
    have h3 : N[t].kids = topsI ks := by simpa using h1
    rw [h3] at hy
    obtain ⟨p, hp, rfl⟩ := List.mem_map.1 hy
    have := h2 p hp
    omega
  · intro r hr
    rw [← e1] at hr
    obtain ⟨p, hp, rfl⟩ := List.mem_map.1 hr
    have := hf'.lt p hp
    omega

end Go.Proofs.YtpbopjgmiaoomaaGreatDoor
