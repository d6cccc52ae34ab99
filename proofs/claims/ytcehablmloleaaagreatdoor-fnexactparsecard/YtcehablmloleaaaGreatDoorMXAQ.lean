/-
  HA0, HS, IP, HO, HP. Own work.
-/
import Derived.Test.YtcehablmloleaaaGreatDoorGX
import Derived.Test.YtcehablmloleaaaGreatDoorMXAN
import Derived.Test.YtcehablmloleaaaGreatDoorMXAP
import Derived.Test.YtcehablmloleaaaGreatDoorMXAM
import Derived.Test.YtcehablmloleaaaGreatDoorMXAJ
import Derived.Test.YtcehablmloleaaaGreatDoorHN
namespace Go.Proofs.YtcehablmloleaaaGreatDoor
open Go.RowKit
set_option linter.unusedVariables false

/-- the first statement that is too deep -/
def shX : List Sx → Option Int
  | [] => none
  | x :: X => if 64 < mx (dpO x.cond) (dpO x.grant) then some x.at' else shX X

/-- the names of a set, sorted, each once -/
def srt (ss : List ByteArray) : List ByteArray := (sortL ss).map ofL

theorem srt_is {ss K : List ByteArray} (h : IsSorted ss K) : K = srt ss := h.unique (sortL_sorted ss)

/-- a tree that was read, as the program has it -/
def Pt.ex : Pt → Ex
  | .int i n => .int i n
  | .text i s => .text i s
  | .bool i b => .bool i b
  | .set i ss => .set i none 0 0 (srt ss)
  | .name i s => .name i s
  | .un i op k => .un i op k.ex
  | .bin i op l r => .bin i op l.ex r.ex
  | .ite i c t e => .ite i c.ex t.ex e.ex

def Ps.sx (s : Ps) : Sx := ⟨(s.at_ : Int), s.kind, s.name, s.cond.map Pt.ex, s.grant.map Pt.ex⟩

/-- the places of the sets that are too wide -/
def wsP (L : List (Nat × List ByteArray)) : List Int := L.filterMap fun q => if 64 < (srt q.2).length then some (q.1 : Int) else none

theorem wsP_app (A B : List (Nat × List ByteArray)) : wsP (A ++ B) = wsP A ++ wsP B := by simp [wsP]

/-- the whole of Parse -/
def psR (t : ByteArray) (x : QR) : List Nd × List St × List Int × Int × Int :=
  if (scanR t).code ≠ 0 then ([], [], [], (scanR t).code, ((scanR t).at_ : Int)) else match x with
  | .bad q => ([], [], [], 4, ((hdE t.size q).at_ : Int))
  | .ok S => match (wsP (S.flatMap Ps.sets)).head? with
    | some i => ([], [], [], 5, i)
    | none => match shX (S.map Ps.sx) with
      | some i => ([], [], [], 6, i)
      | none => (numN 0 (S.map Ps.sx), numT 0 (S.map Ps.sx), numP (S.map Ps.sx), 0, 0)

theorem psR_scan {t : ByteArray} {x : QR} (h : (scanR t).code ≠ 0) : psR t x = ([], [], [], (scanR t).code, ((scanR t).at_ : Int)) := by
  unfold psR; rw [if_pos h]

theorem psR_bad {t : ByteArray} {q : List Tok} (h : (scanR t).code = 0) : psR t (.bad q) = ([], [], [], 4, ((hdE t.size q).at_ : Int)) := by
  unfold psR; rw [if_neg (by omega)]

theorem psR_wide {t : ByteArray} {S : List Ps} {i : Int} (h : (scanR t).code = 0) (hw : (wsP (S.flatMap Ps.sets)).head? = some i) : psR t (.ok S) = ([], [], [], 5, i) := by
  unfold psR; rw [if_neg (by omega)]; simp only [hw]

theorem psR_deep {t : ByteArray} {S : List Ps} {i : Int} (h : (scanR t).code = 0) (hw : (wsP (S.flatMap Ps.sets)).head? = none) (hd : shX (S.map Ps.sx) = some i) : psR t (.ok S) = ([], [], [], 6, i) := by
  unfold psR; rw [if_neg (by omega)]; simp only [hw, hd]

theorem psR_ok {t : ByteArray} {S : List Ps} (h : (scanR t).code = 0) (hw : (wsP (S.flatMap Ps.sets)).head? = none) (hd : shX (S.map Ps.sx) = none) : psR t (.ok S) = (numN 0 (S.map Ps.sx), numT 0 (S.map Ps.sx), numP (S.map Ps.sx), 0, 0) := by
  unfold psR; rw [if_neg (by omega)]; simp only [hw, hd]

theorem scanF_len (n : Nat) : ∀ (f : Nat) (l : List UInt8) (out : List Tok), (scanF n f l out).toks.length ≤ out.length + l.length
  | 0, l, out => by simp [scanF]
  | f + 1, l, out => by
    rw [scanF]
    have hb := blk_le false l
    split
    · simp
    · rename_i c r hbl
      rw [hbl] at hb
      split
      · simp
      · rename_i k m s wd ho
        have h1 := oneF_ok (c :: r)
        rw [ho] at h1
        have h2 : 1 ≤ wd ∧ wd ≤ (c :: r).length := ⟨h1.1, h1.2.1⟩
        have ih := scanF_len n f ((c :: r).drop wd) (out ++ [⟨k, m, ofL s, n - (r.length + 1)⟩])
        rw [List.length_drop, List.length_append] at ih
        simp only [List.length_cons, List.length_nil] at *
        omega

theorem scan_len (t : ByteArray) : (scanR t).toks.length ≤ 4000 := by
  unfold scanR
  split
  · simp
  · have := scanF_len t.size (t.size + 1) (toL t) []
    rw [toL_size] at this
    simp only [List.length_nil] at this
    omega

theorem G.cnt {k : Nat} {c : List Tok} {p : Pt} (g : G k c p) : p.ex.cnt ≤ c.length := by
  induction g with
  | up hk g ih => exact ih
  | ite ht hu hv ga gb gd ia ib id => simp only [Pt.ex, Ex.cnt, List.length_cons, List.length_append]; omega
  | bin hk gl ht gr il ir => simp only [Pt.ex, Ex.cnt, List.length_cons, List.length_append]; omega
  | cmp gl ht gr il ir => simp only [Pt.ex, Ex.cnt, List.length_cons, List.length_append]; omega
  | not ht g ih => simp only [Pt.ex, Ex.cnt, List.length_cons]; omega
  | neg ht g ih => simp only [Pt.ex, Ex.cnt, List.length_cons]; omega
  | par ht g hu ih => simp only [List.length_cons, List.length_append]; omega
  | size ht hu g hv ih => simp only [Pt.ex, Ex.cnt, List.length_cons, List.length_append]; omega
  | set ht hc hu => simp only [Pt.ex, Ex.cnt, List.length_cons, List.length_append]; omega
  | num h | text h | name h | tru h | fls h => simp [Pt.ex, Ex.cnt]

theorem GC.cnt {c : List Tok} {g : Option Pt} (h : GC c g) : cntO (g.map Pt.ex) ≤ c.length := by
  cases h with
  | deny h => simp [cntO]
  | grant h g => have := g.cnt; simp only [Option.map_some, cntO, List.length_cons]; omega

theorem SC.cnt {c : List Tok} {s : Ps} (h : SC c s) : cntO s.sx.cond + cntO s.sx.grant ≤ c.length := by
  cases h with
  | let_ h hn he g => have := g.cnt; simp only [Ps.sx, Option.map_some, Option.map_none, cntO, List.length_cons]; omega
  | when h gc ha gd => have := gc.cnt; have := gd.cnt; simp only [Ps.sx, Option.map_some, cntO, List.length_cons, List.length_append] at *; omega
  | else_ h gd => have := gd.cnt; simp only [Ps.sx, Option.map_none, cntO, List.length_cons] at *; omega

theorem PC.cnt {ts : List Tok} {S : List Ps} (h : PC ts S) : cntX (S.map Ps.sx) + S.length ≤ ts.length := by
  induction h with
  | nil => simp [cntX]
  | cons sc hu pc ih =>
    have := sc.cnt
    rw [List.map_cons, cntX_cons, List.length_cons, List.length_append, List.length_cons]
    omega

theorem cntX_mem {X : List Sx} {x : Sx} (h : x ∈ X) : cntO x.cond + cntO x.grant ≤ cntX X := by
  induction X with
  | nil => cases h
  | cons y X ih =>
    rw [cntX_cons]
    rcases List.mem_cons.1 h with rfl | h
    · omega
    · have := ih h; omega

/-- names that a machine holds -/
def okNs (ss : List ByteArray) : Prop := (∀ x ∈ ss, x.size ≤ maxLen) ∧ ss.length ≤ 1048576

theorem nmU_ok : ∀ (ts : List Tok), (∀ t ∈ ts, t.text.size ≤ maxLen) → (∀ x ∈ nmU ts, x.size ≤ maxLen) ∧ (nmU ts).length ≤ ts.length
  | [], _ => ⟨fun x h => (by cases h), by simp [nmU]⟩
  | t :: r, h => by
    obtain ⟨i1, i2⟩ := nmU_ok r (fun u hu => h u (List.mem_cons_of_mem _ hu))
    rw [nmU]
    split
    · exact ⟨fun x h => (by cases h), by simp⟩
    · split
      · refine ⟨fun x hx => ?_, by simp; omega⟩
        rcases List.mem_cons.1 hx with rfl | hx
        · exact h t (List.mem_cons_self ..)
        · exact i1 x hx
      · exact ⟨i1, by simp; omega⟩

theorem setsT_ok : ∀ (ts : List Tok), (∀ t ∈ ts, t.text.size ≤ maxLen) → ts.length ≤ 1048576 → ∀ q ∈ setsT ts, okNs q.2
  | [], _, _, q, h => by cases h
  | t :: r, h, hl, q, hq => by
    have hr : ∀ u ∈ r, u.text.size ≤ maxLen := fun u hu => h u (List.mem_cons_of_mem _ hu)
    have hl' : r.length ≤ 1048576 := by simp at hl; omega
    rw [setsT] at hq
    split at hq
    · rcases List.mem_cons.1 hq with rfl | hq
      · have := nmU_ok r hr
        exact ⟨this.1, by show (nmU r).length ≤ _; omega⟩
      · exact setsT_ok r hr hl' q hq
    · exact setsT_ok r hr hl' q hq

theorem DP.ne {ts : List Tok} {x : QR} (d : DP ts x) : ∀ S, x = .ok S → S ≠ [] := by
  induction d with
  | bad => intro S h; cases h
  | over => intro S h; cases h
  | @more ts r s x d hk d2 ih =>
    intro S h
    cases x with
    | bad => cases h
    | ok T => cases h; simp
  | last => intro S h; cases h; simp

end Go.Proofs.YtcehablmloleaaaGreatDoor

namespace Go.Proofs.YtcehablmloleaaaGreatDoor
open Go.RowKit
set_option linter.unusedVariables false

theorem oneF_okTk (l : List UInt8) {k m : Int} {s : List UInt8} {wd a : Nat} (h : oneF l = .tok k m s wd) : okTk ⟨k, m, ofL s, a⟩ ∧ s.length ≤ l.length := by
  have hw : ∀ r, oneWord r = .tok k m s wd → okTk ⟨k, m, ofL s, a⟩ ∧ s.length ≤ r.length := by
    intro r h
    rw [oneWord] at h
    split at h
    · cases h
    · simp only [One.tok.injEq] at h
      obtain ⟨h1, _, h3, _⟩ := h
      refine ⟨?_, by rw [← h3, List.length_take]; omega⟩
      split at h1
      · rename_i hi
        refine .inr (.inr (.inr ⟨.inl h1.symm, ?_⟩))
        rw [toL_ofL, ← h3]
        refine List.mem_append_left _ (List.mem_append_left _ ?_)
        simpa [isWd] using hi
      · exact .inr (.inr (.inl h1.symm))
  have hn : ∀ r, oneNum r = .tok k m s wd → okTk ⟨k, m, ofL s, a⟩ ∧ s.length ≤ r.length := by
    intro r h
    rw [oneNum] at h
    split at h
    · cases h
    · simp only [One.tok.injEq] at h
      exact ⟨.inl h.1.symm, by rw [← h.2.2.1]; simp⟩
  have ht : ∀ r, oneText r = .tok k m s wd → okTk ⟨k, m, ofL s, a⟩ ∧ s.length ≤ r.length := by
    intro r h
    rw [oneText] at h
    split at h
    · cases h
    · simp only [One.tok.injEq] at h
      exact ⟨.inr (.inl h.1.symm), by rw [← h.2.2.1, List.length_take]; omega⟩
  have hs : ∀ c r, oneSign c (c :: r) = .tok k m s wd → okTk ⟨k, m, ofL s, a⟩ ∧ s.length ≤ (c :: r).length := by
    intro c r h
    rw [oneSign] at h
    split at h
    · rename_i h2
      simp only [One.tok.injEq] at h
      refine ⟨.inr (.inr (.inr ⟨.inr h.1.symm, ?_⟩)), by rw [← h.2.2.1, List.length_take]; omega⟩
      rw [toL_ofL, ← h.2.2.1]
      refine List.mem_append_left _ (List.mem_append_right _ ?_)
      simpa using h2
    · split at h
      · rename_i h2
        simp only [One.tok.injEq] at h
        refine ⟨.inr (.inr (.inr ⟨.inr h.1.symm, ?_⟩)), by rw [← h.2.2.1]; simp⟩
        rw [toL_ofL, ← h.2.2.1]
        refine List.mem_append_right _ (List.mem_map.2 ⟨c, ?_, rfl⟩)
        simpa using h2
      · cases h
  match l, h with
  | [], h => cases h
  | c :: r, h =>
    rw [oneF] at h
    split at h
    · exact hw _ h
    · split at h
      · exact hn _ h
      · split at h
        · obtain ⟨h1, h2⟩ := ht _ h
          exact ⟨h1, by simp; omega⟩
        · exact hs _ _ h

theorem scanF_okTk (n : Nat) : ∀ (f : Nat) (l : List UInt8) (out : List Tok), l.length ≤ 4000 → (∀ t ∈ out, okTk t ∧ t.text.size ≤ 4000) → ∀ t ∈ (scanF n f l out).toks, okTk t ∧ t.text.size ≤ 4000
  | 0, l, out, _, h => h
  | f + 1, l, out, hl, h => by
    rw [scanF]
    have hb := blk_le false l
    split
    · exact h
    · rename_i c r hbl
      rw [hbl] at hb
      split
      · intro t ht; cases ht
      · rename_i k m s wd ho
        refine scanF_okTk n f _ _ (by rw [List.length_drop]; omega) ?_
        intro t ht
        rcases List.mem_append.1 ht with ht | ht
        · exact h t ht
        · rw [List.mem_singleton.1 ht]
          obtain ⟨h1, h2⟩ := oneF_okTk (c :: r) (a := n - (r.length + 1)) ho
          refine ⟨h1, ?_⟩
          show (ofL s).size ≤ 4000
          have e : (ofL s).size = s.length := by simp [ofL, ByteArray.size]
          rw [e]; omega

theorem scan_okT4 (t : ByteArray) : ∀ u ∈ (scanR t).toks, okTk u ∧ u.text.size ≤ 4000 := by
  unfold scanR
  split
  · intro u hu; cases hu
  · exact scanF_okTk t.size (t.size + 1) (toL t) [] (by rw [toL_size]; omega) (fun u hu => by cases hu)

theorem scan_okTk (t : ByteArray) : ∀ u ∈ (scanR t).toks, okTk u ∧ u.text.size ≤ maxLen := fun u hu => ⟨(scan_okT4 t u hu).1, by have := (scan_okT4 t u hu).2; unfold maxLen; omega⟩

end Go.Proofs.YtcehablmloleaaaGreatDoor

namespace Go.Proofs.YtcehablmloleaaaGreatDoor
open Go.RowKit
set_option linter.unusedVariables false

/-- a node that is small -/
def ndS (x : Nd) : Prop := okN x ∧ x.text.size ≤ 1048576 ∧ x.names.length + x.kids.length ≤ 65535

theorem nms_mem : ∀ (c : List Tok) (s : ByteArray), s ∈ nms c → ∃ t ∈ c, t.text = s
  | [], s, h => by cases h
  | t :: r, s, h => by
    rw [nms] at h
    split at h
    · rcases List.mem_cons.1 h with rfl | h
      · exact ⟨t, List.mem_cons_self .., rfl⟩
      · obtain ⟨u, hu, e⟩ := nms_mem r s h
        exact ⟨u, List.mem_cons_of_mem _ hu, e⟩
    · obtain ⟨u, hu, e⟩ := nms_mem r s h
      exact ⟨u, List.mem_cons_of_mem _ hu, e⟩

theorem nms_len : ∀ (c : List Tok), (nms c).length ≤ c.length
  | [] => by simp [nms]
  | t :: r => by
    have := nms_len r
    rw [nms]
    split <;> simp <;> omega

theorem ndS_leaf (op num : Int) (s : ByteArray) (h : s.size ≤ 4000) : ndS ⟨op, num, s, [], []⟩ :=
  ⟨⟨by simp, by simp, fun x hx => by cases hx⟩, by show s.size ≤ 1048576; omega, by simp⟩

theorem ndS_kids (op : Int) (ks : List Int) (h : ks.length ≤ 3) : ndS ⟨op, 0, ⟨#[]⟩, [], ks⟩ :=
  ⟨⟨by simp, by show ks.length ≤ 1048576; omega, fun x hx => by cases hx⟩, by show (⟨#[]⟩ : ByteArray).size ≤ 1048576; decide, by show 0 + ks.length ≤ 65535; omega⟩

theorem ndS_set (c : List Tok) (hl : c.length ≤ 4000) (hc : ∀ t ∈ c, t.text.size ≤ 4000) : ndS ⟨4, 0, ⟨#[]⟩, srt (nms c), []⟩ := by
  have hs : IsSorted (nms c) (srt (nms c)) := sortL_sorted (nms c)
  have h1 := hs.len
  have h2 := nms_len c
  refine ⟨⟨by show (srt (nms c)).length ≤ 1048576; omega, by simp, fun x hx => ?_⟩, by show (⟨#[]⟩ : ByteArray).size ≤ 1048576; decide, by show (srt (nms c)).length + 0 ≤ 65535; omega⟩
  obtain ⟨t, ht, e⟩ := nms_mem c x ((hs.mem x).1 hx)
  have := hc t ht
  rw [← e]
  unfold maxLen
  omega

theorem G.small {k : Nat} {c : List Tok} {p : Pt} (g : G k c p) : c.length ≤ 4000 → (∀ t ∈ c, t.text.size ≤ 4000) → ∀ b, ∀ x ∈ flE p.ex b, ndS x := by
  have e0 : (⟨#[]⟩ : ByteArray).size ≤ 4000 := by decide
  induction g with
  | up hk g ih => exact ih
  | @ite t u v a b d pa pb pd ht hu hv ga gb gd ia ib id =>
    intro hl hc b' x hx
    simp only [List.length_cons, List.length_append] at hl
    rw [Pt.ex, flE] at hx
    rcases List.mem_append.1 hx with hx | hx
    · rcases List.mem_append.1 hx with hx | hx
      · rcases List.mem_append.1 hx with hx | hx
        · exact ia (by omega) (fun z hz => hc z (by simp [hz])) _ x hx
        · exact ib (by omega) (fun z hz => hc z (by simp [hz])) _ x hx
      · exact id (by omega) (fun z hz => hc z (by simp [hz])) _ x hx
    · rw [List.mem_singleton.1 hx]; exact ndS_kids _ _ (by simp)
  | @bin k l r t op pl pr hk gl ht gr il ir =>
    intro hl hc b' x hx
    simp only [List.length_cons, List.length_append] at hl
    rw [Pt.ex, flE] at hx
    rcases List.mem_append.1 hx with hx | hx
    · rcases List.mem_append.1 hx with hx | hx
      · exact il (by omega) (fun z hz => hc z (by simp [hz])) _ x hx
      · exact ir (by omega) (fun z hz => hc z (by simp [hz])) _ x hx
    · rw [List.mem_singleton.1 hx]; exact ndS_kids _ _ (by simp)
  | @cmp l r t op pl pr gl ht gr il ir =>
    intro hl hc b' x hx
    simp only [List.length_cons, List.length_append] at hl
    rw [Pt.ex, flE] at hx
    rcases List.mem_append.1 hx with hx | hx
    · rcases List.mem_append.1 hx with hx | hx
      · exact il (by omega) (fun z hz => hc z (by simp [hz])) _ x hx
      · exact ir (by omega) (fun z hz => hc z (by simp [hz])) _ x hx
    · rw [List.mem_singleton.1 hx]; exact ndS_kids _ _ (by simp)
  | @not t r p ht g ih | @neg t r p ht g ih =>
    intro hl hc b' x hx
    simp only [List.length_cons] at hl
    rw [Pt.ex, flE] at hx
    rcases List.mem_append.1 hx with hx | hx
    · exact ih (by omega) (fun z hz => hc z (by simp [hz])) _ x hx
    · rw [List.mem_singleton.1 hx]; exact ndS_kids _ _ (by simp)
  | @size t u v r p ht hu g hv ih =>
    intro hl hc b' x hx
    simp only [List.length_cons, List.length_append] at hl
    rw [Pt.ex, flE] at hx
    rcases List.mem_append.1 hx with hx | hx
    · exact ih (by omega) (fun z hz => hc z (by simp [hz])) _ x hx
    · rw [List.mem_singleton.1 hx]; exact ndS_kids _ _ (by simp)
  | @par t u r p ht g hu ih =>
    intro hl hc
    simp only [List.length_cons, List.length_append] at hl
    exact ih (by omega) (fun z hz => hc z (by simp [hz]))
  | @set t u c ht hc hu =>
    intro hl hcs b' x hx
    simp only [List.length_cons, List.length_append] at hl
    have hx' : x ∈ [(⟨4, 0, ⟨#[]⟩, srt (nms c), []⟩ : Nd)] := hx
    rw [List.mem_singleton.1 hx']
    exact ndS_set c (by omega) (fun z hz => hcs z (by simp [hz]))
  | @num t h =>
    intro hl hc b' x hx
    have hx' : x ∈ [(⟨1, t.num, ⟨#[]⟩, [], []⟩ : Nd)] := hx
    rw [List.mem_singleton.1 hx']; exact ndS_leaf _ _ _ e0
  | @text t h =>
    intro hl hc b' x hx
    have hx' : x ∈ [(⟨2, 0, t.text, [], []⟩ : Nd)] := hx
    rw [List.mem_singleton.1 hx']; exact ndS_leaf _ _ _ (hc t (by simp))
  | @name t h =>
    intro hl hc b' x hx
    have hx' : x ∈ [(⟨5, 0, t.text, [], []⟩ : Nd)] := hx
    rw [List.mem_singleton.1 hx']; exact ndS_leaf _ _ _ (hc t (by simp))
  | @tru t h =>
    intro hl hc b' x hx
    have hx' : x ∈ [(⟨3, 1, ⟨#[]⟩, [], []⟩ : Nd)] := hx
    rw [List.mem_singleton.1 hx']; exact ndS_leaf _ _ _ e0
  | @fls t h =>
    intro hl hc b' x hx
    have hx' : x ∈ [(⟨3, 0, ⟨#[]⟩, [], []⟩ : Nd)] := hx
    rw [List.mem_singleton.1 hx']; exact ndS_leaf _ _ _ e0

theorem GC.small {c : List Tok} {g : Option Pt} (h : GC c g) (hl : c.length ≤ 4000) (hc : ∀ t ∈ c, t.text.size ≤ 4000) : ∀ b, ∀ x ∈ flO (g.map Pt.ex) b, ndS x := by
  cases h with
  | deny h => intro b x hx; cases hx
  | grant h g =>
    simp only [List.length_cons] at hl
    exact g.small (by omega) (fun z hz => hc z (by simp [hz]))

theorem SC.small {c : List Tok} {s : Ps} (h : SC c s) (hl : c.length ≤ 4000) (hc : ∀ t ∈ c, t.text.size ≤ 4000) : (∀ b, ∀ x ∈ flO s.sx.cond b, ndS x) ∧ (∀ b, ∀ x ∈ flO s.sx.grant b, ndS x) ∧ s.sx.name.size ≤ 1048576 := by
  cases h with
  | @let_ t n e c p h hn he g =>
    simp only [List.length_cons] at hl
    exact ⟨g.small (by omega) (fun z hz => hc z (by simp [hz])), (fun b x hx => by cases hx), by have := hc n (by simp); show n.text.size ≤ 1048576; omega⟩
  | when h gc ha gd =>
    simp only [List.length_cons, List.length_append] at hl
    exact ⟨gc.small (by omega) (fun z hz => hc z (by simp [hz])), gd.small (by omega) (fun z hz => hc z (by simp [hz])), by show (ofL []).size ≤ 1048576; decide⟩
  | else_ h gd =>
    simp only [List.length_cons] at hl
    exact ⟨(fun b x hx => by cases hx), gd.small (by omega) (fun z hz => hc z (by simp [hz])), by show (ofL []).size ≤ 1048576; decide⟩

theorem PC.small {ts : List Tok} {S : List Ps} (h : PC ts S) : ts.length ≤ 4000 → (∀ t ∈ ts, t.text.size ≤ 4000) → ∀ b, (∀ x ∈ numN b (S.map Ps.sx), ndS x) ∧ ∀ s ∈ numT b (S.map Ps.sx), s.name.size ≤ 1048576 := by
  induction h with
  | nil => intro _ _ b; exact ⟨fun x hx => (by cases hx), fun s hs => (by cases hs)⟩
  | @cons c r u s S sc hu pc ih =>
    intro hl hc b
    simp only [List.length_cons, List.length_append] at hl
    obtain ⟨h1, h2, h3⟩ := sc.small (by omega) (fun z hz => hc z (by simp [hz]))
    have ih := ih (by omega) (fun z hz => hc z (by simp [hz]))
    rw [List.map_cons, numN, numT]
    refine ⟨fun x hx => ?_, fun y hy => ?_⟩
    · rcases List.mem_append.1 hx with hx | hx
      · rcases List.mem_append.1 hx with hx | hx
        · exact h1 _ x hx
        · exact h2 _ x hx
      · exact (ih _).1 x hx
    · rcases List.mem_cons.1 hy with rfl | hy
      · exact h3
      · exact (ih _).2 y hy

/-- what Parse answers is small -/
theorem psR_small (t : ByteArray) (x : QR) (d : DP (scanR t).toks x) : okTP (psR t x).1 (psR t x).2.1 (psR t x).2.2.1 := by
  have e0 : okTP [] [] [] := ⟨⟨by simp, fun x hx => by cases hx⟩, ⟨by simp, fun x hx => by cases hx⟩, by simp⟩
  by_cases hc : (scanR t).code = 0
  · cases x with
    | bad q => rw [psR_bad hc]; exact e0
    | ok S =>
      cases hw : (wsP (S.flatMap Ps.sets)).head? with
      | some i => rw [psR_wide hc hw]; exact e0
      | none =>
        cases hd : shX (S.map Ps.sx) with
        | some i => rw [psR_deep hc hw hd]; exact e0
        | none =>
          rw [psR_ok hc hw hd]
          have hpc := d.cut S rfl
          have h4 := scan_len t
          have hcn := hpc.cnt
          obtain ⟨h1, h2⟩ := hpc.small h4 (fun u hu => (scan_okT4 t u hu).2) 0
          refine ⟨⟨by show (numN 0 _).length ≤ 65535; rw [numN_len]; omega, h1⟩, ⟨by show (numT 0 _).length ≤ 65535; rw [numT_len, List.length_map]; omega, h2⟩, by show (numP _).length ≤ 65535; rw [numP_len]; omega⟩
  · rw [psR_scan hc]; exact e0

end Go.Proofs.YtcehablmloleaaaGreatDoor

namespace Go.Proofs.YtcehablmloleaaaGreatDoor
open Go.RowKit
set_option linter.unusedVariables false

/-- the tokens from one place to another -/
def spn (T : List Tok) (lo hi : Nat) : List Tok := (T.take hi).drop lo

theorem spn_len {T : List Tok} {lo hi : Nat} (h : hi ≤ T.length) : (spn T lo hi).length = hi - lo := by simp [spn]; omega

/-- a span that begins with a token -/
theorem spn_cons {T : List Tok} {lo hi : Nat} {t : Tok} {r : List Tok} (hh : hi ≤ T.length) (h : spn T lo hi = t :: r) : ∃ hlt : lo < T.length, T[lo] = t ∧ spn T (lo + 1) hi = r ∧ lo < hi := by
  have hl := spn_len (lo := lo) hh
  rw [h, List.length_cons] at hl
  have h1 : lo < T.length := by omega
  have e : spn T lo hi = T[lo] :: spn T (lo + 1) hi := by
    rw [spn, List.drop_eq_getElem_cons (by simp; omega)]
    simp [spn]
  rw [e] at h
  injection h with h2 h3
  exact ⟨h1, h2, h3, by omega⟩

/-- a span in two -/
theorem spn_app {T : List Tok} {lo hi : Nat} {l r : List Tok} (hh : hi ≤ T.length) (h : spn T lo hi = l ++ r) (hlo : lo ≤ hi) : spn T lo (lo + l.length) = l ∧ spn T (lo + l.length) hi = r ∧ lo + l.length ≤ hi := by
  have hl := spn_len (lo := lo) hh
  rw [h, List.length_append] at hl
  refine ⟨?_, ?_, by omega⟩
  · have h2 : (spn T lo hi).take l.length = l := by rw [h]; simp
    rw [spn, List.drop_take, List.take_take, Nat.min_eq_left (by omega)] at h2
    rw [spn, List.drop_take, show lo + l.length - lo = l.length by omega]
    exact h2
  · have : (spn T lo hi).drop l.length = r := by rw [h]; simp
    rw [← this]
    simp only [spn]
    rw [List.drop_drop]

/-- where an if's words come, in a span -/
theorem spn_drop {T : List Tok} {lo hi : Nat} (hh : hi ≤ T.length) (hlo : lo ≤ hi) : T.drop lo = spn T lo hi ++ T.drop hi := by
  have e : T = T.take hi ++ T.drop hi := (List.take_append_drop hi T).symm
  conv => lhs; rw [e]
  rw [List.drop_append_of_le_length (by simp; omega)]
  rfl

/-- an operator's number, by its token -/
theorem op_lit {k : Nat} {t : Tok} {op : Int} (h : opOf k t = some op) : ∃ (s : List UInt8) (p : Nat), t.text = ofL s ∧ opLits[p]? = some s ∧ (∀ j, j < p → opLits[j]? ≠ some s) ∧ op = 11 + (p : Int) := by
  obtain ⟨s, h1, h2⟩ := opOf_see h
  have ht : t.text = ofL s := by simp [see] at h2; exact h2.2
  have key : ∃ p : Nat, opLits[p]? = some s ∧ (∀ j, j < p → opLits[j]? ≠ some s) ∧ op = 11 + (p : Int) := by
    match k, h1 with
    | 0, h | 3, h => cases h
    | 1, h => revert h; simp only [opsOf, List.mem_cons, List.mem_nil_iff, Prod.mk.injEq, or_false]; rintro ⟨rfl, rfl⟩; exact ⟨15, by decide, by decide, rfl⟩
    | 2, h => revert h; simp only [opsOf, List.mem_cons, List.mem_nil_iff, Prod.mk.injEq, or_false]; rintro ⟨rfl, rfl⟩; exact ⟨14, by decide, by decide, rfl⟩
    | 4, h =>
      revert h; simp only [opsOf, List.mem_cons, List.mem_nil_iff, Prod.mk.injEq, or_false]
      rintro (⟨rfl, rfl⟩ | ⟨rfl, rfl⟩ | ⟨rfl, rfl⟩ | ⟨rfl, rfl⟩ | ⟨rfl, rfl⟩ | ⟨rfl, rfl⟩)
      · exact ⟨8, by decide, by decide, rfl⟩
      · exact ⟨9, by decide, by decide, rfl⟩
      · exact ⟨10, by decide, by decide, rfl⟩
      · exact ⟨11, by decide, by decide, rfl⟩
      · exact ⟨12, by decide, by decide, rfl⟩
      · exact ⟨13, by decide, by decide, rfl⟩
    | 5, h =>
      revert h; simp only [opsOf, List.mem_cons, List.mem_nil_iff, Prod.mk.injEq, or_false]
      rintro (⟨rfl, rfl⟩ | ⟨rfl, rfl⟩ | ⟨rfl, rfl⟩ | ⟨rfl, rfl⟩)
      · exact ⟨0, by decide, by decide, rfl⟩
      · exact ⟨1, by decide, by decide, rfl⟩
      · exact ⟨5, by decide, by decide, rfl⟩
      · exact ⟨7, by decide, by decide, rfl⟩
    | 6, h =>
      revert h; simp only [opsOf, List.mem_cons, List.mem_nil_iff, Prod.mk.injEq, or_false]
      rintro (⟨rfl, rfl⟩ | ⟨rfl, rfl⟩ | ⟨rfl, rfl⟩ | ⟨rfl, rfl⟩)
      · exact ⟨2, by decide, by decide, rfl⟩
      · exact ⟨3, by decide, by decide, rfl⟩
      · exact ⟨4, by decide, by decide, rfl⟩
      · exact ⟨6, by decide, by decide, rfl⟩
    | k + 7, h => cases h
  obtain ⟨p, e1, e2, e3⟩ := key
  exact ⟨s, p, ht, e1, e2, e3⟩

/-- a tree is written down -/
def TrS (B nb ga c : Nat) (T : List Tok) (lo hi : Nat) (p : Pt) : Prop :=
  ∀ (N : List Nd) (P : List Int) (nd pl : Value) (nv kv : List Value) (w : World), TkM w nb ga c T → LuO w B nb (.slice (some ⟨ga, 0, none⟩) T.length c) N P nd pl nv kv → N.length + p.ex.cnt ≤ 65535 → P.length + p.ex.cnt ≤ 65535 → Calls Tryz.prog 32 #[.pointer (some ⟨nb, 0, none⟩), .int .i64 (lo : Int), .int .i64 (hi : Int)] w (L2A B nb (.slice (some ⟨ga, 0, none⟩) T.length c) N (flE p.ex N.length) P (plE p.ex) nd pl nv kv w)

end Go.Proofs.YtcehablmloleaaaGreatDoor

namespace Go.Proofs.YtcehablmloleaaaGreatDoor
open Go.RowKit
set_option linter.unusedVariables false

/-- three kids -/
theorem own_ints (w : World) (ks : List Int) (vs : Array Value) (n : Nat) (hv : vs.toList = intsV ks) (h : vs.size = n) (hm : n ≤ maxLen) : (w.alloc (.cells vs 3)).ownsRow w.heap.size 3 1 (.slice (some ⟨w.heap.size, 0, none⟩) n n) n (intsV ks) := by
  refine ⟨by rw [← hv]; simp [h], .inr ⟨w.heap.size, n, vs, rfl, Nat.le_refl _, heap_alloc_new w _, Nat.le_refl _, hm, by omega, ?_⟩⟩
  rw [Nat.mul_one, List.take_of_length_le (by simp; omega), hv]

theorem add_kids {w : World} {B nb ga c : Nat} {T : List Tok} {N : List Nd} {P : List Int} {nd pl : Value} {nv kv : List Value} (hT : TkM w nb ga c T) (hg : ga < B) (hC : LuO w B nb (.slice (some ⟨ga, 0, none⟩) T.length c) N P nd pl nv kv) (hn : N.length + 1 ≤ 65535) (hpn : P.length + 1 ≤ 65535)
    (ks : List Int) (vs : Array Value) (n : Nat) (hv : vs.toList = intsV ks) (h : vs.size = n) (hm : n ≤ maxLen) (op : Int) (i : Nat) (hi : i < T.length) :
    Calls Tryz.prog 56 #[.pointer (some ⟨nb, 0, none⟩), .agg #[.int .i64 op, .int .i64 0, .string ⟨#[]⟩, .slice none 0 0, .slice (some ⟨w.heap.size, 0, none⟩) n n], .int .i64 (i : Int)] (w.alloc (.cells vs 3)) fun r w' => r = .returned (.int .i64 (N.length : Int)) ∧ ∃ nd' pl', LuO w' B nb (.slice (some ⟨ga, 0, none⟩) T.length c) (N ++ [⟨op, 0, ⟨#[]⟩, [], ks⟩]) (P ++ [(T[i].at_ : Int)]) nd' pl' (nv ++ [.slice none 0 0]) (kv ++ [.slice (some ⟨w.heap.size, 0, none⟩) n n]) ∧ Nk B nb nd pl w nd' pl' w' := by
  have hb := (Below.refl w.heap.size w).alloc (Nat.le_refl _) (.cells vs 3)
  have hkl : ks.length = n := by
    have := congrArg List.length hv
    simp [intsV] at this
    omega
  have hB : B ≤ w.heap.size := by have := hC.row.lt; have := hC.low; omega
  subst hkl
  refine (l2add_any (hT.below hb) hg (hC.below hb) hn hpn ⟨op, 0, ⟨#[]⟩, [], ks⟩ none 0 (some ⟨w.heap.size, 0, none⟩) ks.length w.heap.size hB (World.ownsRow_nil _ _ _ _) (own_ints w ks vs ks.length hv h hm) (fun j hj q hq e => by cases e) (fun j hj q hq e => ?_) (fun q hq e => ?_) i hi).mono ?_
  · have h1 : w.heap.size = q := by simpa [Value.ownBlock] using e
    have := (hC.nodes.lts.2.2 j hj q hq).2
    omega
  · have h1 : w.heap.size = q := by simpa [Value.ownBlock] using hq
    have := (hC.places.lt q e).2
    omega
  · rintro r w' ⟨h1, nd', pl', C', K'⟩
    exact ⟨h1, nd', pl', C', (Nk.of_all hb hB).trans K'⟩

set_option maxRecDepth 100000 in
set_option maxHeartbeats 6400000 in
theorem tree_ite {B nb ga c : Nat} {T : List Tok} (hg : ga < B) (hl : T.length ≤ 4000) {lo hi : Nat} (hh : hi ≤ T.length) (hlo : lo ≤ hi) {t u v : Tok} {a b d : List Tok} {pa pb pd : Pt} (hs : spn T lo hi = t :: (a ++ u :: (b ++ v :: d))) (ht : see kIf t = true) (hu : see kThen u = true) (hv : see kElse v = true) (ga' : G 0 a pa) (gb : G 0 b pb) (gd : G 0 d pd)
    (ih : ∀ lo' hi' p, hi' ≤ T.length → lo' ≤ hi' → hi' - lo' < hi - lo → G 0 (spn T lo' hi') p → TrS B nb ga c T lo' hi' p) : TrS B nb ga c T lo hi (.ite t.at_ pa pb pd) := by
  intro N P nd pl nv kv w hT hC hn hp
  obtain ⟨hlt, e1, hs2, hlh⟩ := spn_cons hh hs
  obtain ⟨f1, f2, f3⟩ := spn_app hh hs2 (by omega)
  obtain ⟨f4, f5, f6, f7⟩ := spn_cons hh f2
  obtain ⟨g1, g2, g3⟩ := spn_app hh f6 (by omega)
  obtain ⟨g4, g5, g6, g7⟩ := spn_cons hh g2
  have m1 : matR kThen (T.drop (lo + 1)) 1 0 ((lo + 1 : Nat) : Int) = ((lo + 1 + a.length : Nat) : Int) := by
    rw [spn_drop hh (by omega), hs2, List.append_assoc, ga'.mat (.inl rfl) _ _ _ _ (by omega) (by omega), List.cons_append, mat_hit hu (by decide)]
    omega
  have m2 : matR kElse (T.drop (lo + 1 + a.length + 1)) 1 0 ((lo + 1 + a.length + 1 : Nat) : Int) = ((lo + 1 + a.length + 1 + b.length : Nat) : Int) := by
    rw [spn_drop hh (by omega), f6, List.append_assoc, gb.mat (.inr rfl) _ _ _ _ (by omega) (by omega), List.cons_append, mat_hit hv (by decide)]
    omega
  have HI := hide (is_any hT lo hlt kIf (ofL kIf) rfl)
  rw [e1, ht] at HI
  have HM1 := hide (fun (w' : World) (hb : Below w.heap.size w w') => sMatch_any (hT.below hb) hl (lo + 1) (by omega) kThen (ofL kThen) rfl)
  have HM2 := hide (fun (w' : World) (hb : Below w.heap.size w w') => sMatch_any (hT.below hb) hl (lo + 1 + a.length + 1) (by omega) kElse (ofL kElse) rfl)
  rw [m1] at HM1
  rw [m2] at HM2
  have HA := hide (ih (lo + 1) (lo + 1 + a.length) pa (by omega) (by omega) (by omega) (by rw [f1]; exact ga'))
  have HB := hide (ih (lo + 1 + a.length + 1) (lo + 1 + a.length + 1 + b.length) pb (by omega) (by omega) (by omega) (by rw [g1]; exact gb))
  have HD := hide (ih (lo + 1 + a.length + 1 + b.length + 1) hi pd (by omega) (by omega) (by omega) (by rw [g6]; exact gd))
  have HTT := hide hT
  have HLT := hide (And.intro hlt e1)
  have hn2 : N.length + (pa.ex.cnt + pb.ex.cnt + pd.ex.cnt + 1) ≤ 65535 := hn
  have hp2 : P.length + (pa.ex.cnt + pb.ex.cnt + pd.ex.cnt + 1) ≤ 65535 := hp
  have k1 : lo + 1 + a.length ≤ 4000 := by omega
  have k2 : lo + 1 + a.length + 1 + b.length + 1 ≤ 4001 := by omega
  obtain ⟨th, hth⟩ : ∃ th, th = lo + 1 + a.length := ⟨_, rfl⟩
  rw [← hth] at HM1 HM2 HA HB HD k1 k2
  obtain ⟨ot, hot⟩ : ∃ ot, ot = th + 1 + b.length := ⟨_, rfl⟩
  rw [← hot] at HM2 HB HD k2
  unfold TrS at HA HB HD
  simp only [Int.natCast_add, Int.natCast_one] at HM1 HM2 HA HB HD
  have hn' := hn
  clear hn hp hs hs2 f1 f2 f3 f5 f6 g1 g2 g3 g5 g6 m1 m2 hth hot ht hu hv ih hT e1
  have B0 := Below.refl w.heap.size w
  go_enter Tryz.func32, Tryz.ntmps32
  go_wp2_with fail
  refine (unhide HI).mono ?_
  rintro r w1 ⟨rfl, hb1⟩
  have C1 := hC.below hb1
  dsimp only
  go_wp2_with fail
  refine (unhide HM1 _ hb1).mono ?_
  rintro r w2 ⟨rfl, hb2⟩
  have Bb2 := hb1.trans (hb2.mono hb1.size)
  dsimp only
  go_wp2_with fail
  refine (unhide HM2 _ Bb2).mono ?_
  rintro r w3 ⟨rfl, hb3⟩
  have Bb3 := Bb2.trans (hb3.mono Bb2.size)
  have C3 := hC.below Bb3
  have T3 := (unhide HTT).below Bb3
  have K3 : Nk B nb nd pl w nd pl w3 := Nk.of_all Bb3 (by have := hC.row.lt; have := hC.low; omega)
  clear hb1 hb2 hb3 Bb2 C1
  dsimp only
  go_wp2_with fail
  refine (unhide HA N P nd pl nv kv w3 T3 C3 (by omega) (by omega)).mono ?_
  rintro r w4 ⟨rfl, nd4, pl4, nv4, kv4, C4, K4, F4⟩
  have K5 := K3.trans K4
  have T4 := (unhide HTT).of C4 K5.low hg
  obtain ⟨a1, ha1⟩ : ∃ a1 : Int, a1 = ((N.length + (flE pa.ex N.length).length - 1 : Nat) : Int) := ⟨_, rfl⟩
  obtain ⟨N1, hN1⟩ : ∃ M, M = N ++ flE pa.ex N.length := ⟨_, rfl⟩
  obtain ⟨P1, hP1⟩ : ∃ M, M = P ++ plE pa.ex := ⟨_, rfl⟩
  obtain ⟨nx1, hnx1⟩ : ∃ M, M = nv ++ nv4 := ⟨_, rfl⟩
  obtain ⟨kx1, hkx1⟩ : ∃ M, M = kv ++ kv4 := ⟨_, rfl⟩
  rw [← hN1, ← hP1, ← hnx1, ← hkx1] at C4
  rw [← ha1]
  have l1 : N1.length = N.length + pa.ex.cnt := by rw [hN1, List.length_append, flE_len]
  have l2 : P1.length = P.length + pa.ex.cnt := by rw [hP1, List.length_append, plE_len]
  have hn3 : N1.length + (pb.ex.cnt + pd.ex.cnt + 1) ≤ 65535 := by omega
  have hp3 : P1.length + (pb.ex.cnt + pd.ex.cnt + 1) ≤ 65535 := by omega
  have HE1 := hide (And.intro ha1 (And.intro hN1 (And.intro hP1 (And.intro hnx1 (And.intro hkx1 (And.intro l1 (And.intro l2 F4)))))))
  clear ha1 hN1 hP1 hnx1 hkx1 l1 l2 F4 K3 K4 C3 T3
  dsimp only
  go_wp2_with fail
  refine (unhide HB N1 P1 nd4 pl4 nx1 kx1 w4 T4 C4 (by omega) (by omega)).mono ?_
  rintro r w5 ⟨rfl, nd5, pl5, nv5, kv5, C5, K6, F5⟩
  have K7 := K5.trans K6
  have T5 := (unhide HTT).of C5 K7.low hg
  obtain ⟨a2, ha2⟩ : ∃ a2 : Int, a2 = ((N1.length + (flE pb.ex N1.length).length - 1 : Nat) : Int) := ⟨_, rfl⟩
  obtain ⟨N2, hN2⟩ : ∃ M, M = N1 ++ flE pb.ex N1.length := ⟨_, rfl⟩
  obtain ⟨P2, hP2⟩ : ∃ M, M = P1 ++ plE pb.ex := ⟨_, rfl⟩
  obtain ⟨nx2, hnx2⟩ : ∃ M, M = nx1 ++ nv5 := ⟨_, rfl⟩
  obtain ⟨kx2, hkx2⟩ : ∃ M, M = kx1 ++ kv5 := ⟨_, rfl⟩
  rw [← hN2, ← hP2, ← hnx2, ← hkx2] at C5
  rw [← ha2]
  have l1 : N2.length = N1.length + pb.ex.cnt := by rw [hN2, List.length_append, flE_len]
  have l2 : P2.length = P1.length + pb.ex.cnt := by rw [hP2, List.length_append, plE_len]
  have hn4 : N2.length + (pd.ex.cnt + 1) ≤ 65535 := by omega
  have hp4 : P2.length + (pd.ex.cnt + 1) ≤ 65535 := by omega
  have HE2 := hide (And.intro ha2 (And.intro hN2 (And.intro hP2 (And.intro hnx2 (And.intro hkx2 (And.intro l1 (And.intro l2 (And.intro F5 K5.low.size))))))))
  clear ha2 hN2 hP2 hnx2 hkx2 l1 l2 F5 K5 K6 C4 T4 hn3 hp3
  dsimp only
  go_wp2_with fail
  refine (unhide HD N2 P2 nd5 pl5 nx2 kx2 w5 T5 C5 (by omega) (by omega)).mono ?_
  rintro r w6 ⟨rfl, nd6, pl6, nv6, kv6, C6, K8, F6⟩
  have K9 := K7.trans K8
  have T6 := (unhide HTT).of C6 K9.low hg
  obtain ⟨a3, ha3⟩ : ∃ a3 : Int, a3 = ((N2.length + (flE pd.ex N2.length).length - 1 : Nat) : Int) := ⟨_, rfl⟩
  obtain ⟨N3, hN3⟩ : ∃ M, M = N2 ++ flE pd.ex N2.length := ⟨_, rfl⟩
  obtain ⟨P3, hP3⟩ : ∃ M, M = P2 ++ plE pd.ex := ⟨_, rfl⟩
  obtain ⟨nx3, hnx3⟩ : ∃ M, M = nx2 ++ nv6 := ⟨_, rfl⟩
  obtain ⟨kx3, hkx3⟩ : ∃ M, M = kx2 ++ kv6 := ⟨_, rfl⟩
  rw [← hN3, ← hP3, ← hnx3, ← hkx3] at C6
  rw [← ha3]
  have l1 : N3.length = N2.length + pd.ex.cnt := by rw [hN3, List.length_append, flE_len]
  have l2 : P3.length = P2.length + pd.ex.cnt := by rw [hP3, List.length_append, plE_len]
  have hn5 : N3.length + 1 ≤ 65535 := by omega
  have hp5 : P3.length + 1 ≤ 65535 := by omega
  have HE3 := hide (And.intro ha3 (And.intro hN3 (And.intro hP3 (And.intro hnx3 (And.intro hkx3 (And.intro l1 (And.intro l2 (And.intro F6 K7.low.size))))))))
  clear ha3 hN3 hP3 hnx3 hkx3 l1 l2 F6 K7 K8 C5 T5 hn4 hp4
  dsimp only
  go_wp2_with fail
  obtain ⟨hlt, hat⟩ := unhide HLT
  refine (add_kids T6 hg C6 hn5 hp5 [a1, a2, a3] _ 3 rfl rfl (by unfold maxLen; omega) 27 lo hlt).mono ?_
  rintro r w7 ⟨rfl, nd7, pl7, C7, K10⟩
  have K11 := K9.trans K10
  rw [hat] at C7
  obtain ⟨ha1, hN1, hP1, hnx1, hkx1, l1, l2, F1⟩ := unhide HE1
  obtain ⟨ha2, hN2, hP2, hnx2, hkx2, l3, l4, F2, z2⟩ := unhide HE2
  obtain ⟨ha3, hN3, hP3, hnx3, hkx3, l5, l6, F3, z3⟩ := unhide HE3
  have z4 := K9.low.size
  have HX := hide (show L2A B nb (.slice (some ⟨ga, 0, none⟩) T.length c) N (flE (Pt.ite t.at_ pa pb pd).ex N.length) P (plE (Pt.ite t.at_ pa pb pd).ex) nd pl nv kv w (.returned (.int .i64 (N3.length : Int))) w7 from by
    have eN : N3 ++ [⟨27, 0, ⟨#[]⟩, [], [a1, a2, a3]⟩] = N ++ flE (Pt.ite t.at_ pa pb pd).ex N.length := by
      have e1 : a1 = ((N.length + pa.ex.cnt - 1 : Nat) : Int) := by rw [ha1, flE_len]
      have e2 : a2 = ((N.length + pa.ex.cnt + pb.ex.cnt - 1 : Nat) : Int) := by rw [ha2, flE_len, l1]
      have e3 : a3 = ((N.length + pa.ex.cnt + pb.ex.cnt + pd.ex.cnt - 1 : Nat) : Int) := by rw [ha3, flE_len, l3, l1]
      rw [e1, e2, e3, hN3, l3, l1, hN2, l1, hN1, Pt.ex, flE]
      simp only [List.append_assoc]
    have eP : P3 ++ [(t.at_ : Int)] = P ++ plE (Pt.ite t.at_ pa pb pd).ex := by
      rw [hP3, hP2, hP1, Pt.ex, plE]
      simp only [List.append_assoc]
    refine ⟨by rw [flE_len, Pt.ex, Ex.cnt, l5, l3, l1]; congr 2; omega, nd7, pl7, nv4 ++ nv5 ++ nv6 ++ [.slice none 0 0], kv4 ++ kv5 ++ kv6 ++ [.slice (some ⟨w6.heap.size, 0, none⟩) 3 3], ?_, K11, ?_⟩
    · rw [← eN, ← eP]
      have e1 : nv ++ (nv4 ++ nv5 ++ nv6 ++ [.slice none 0 0]) = nx3 ++ [.slice none 0 0] := by rw [hnx3, hnx2, hnx1]; simp
      have e2 : kv ++ (kv4 ++ kv5 ++ kv6 ++ [.slice (some ⟨w6.heap.size, 0, none⟩) 3 3]) = kx3 ++ [.slice (some ⟨w6.heap.size, 0, none⟩) 3 3] := by rw [hkx3, hkx2, hkx1]; simp
      rw [e1, e2]
      exact C7
    · exact lowV_app (lowV_app (lowV_app (lowV_mono F1 Bb3.size) (lowV_mono F2 z2)) (lowV_mono F3 z3)) (lowV_one (fun q hq => by
        have : w6.heap.size = q := by simpa [Value.ownBlock] using hq
        omega)))
  clear C7 K10 K11 ha1 hN1 hP1 hnx1 hkx1 l1 l2 F1 ha2 hN2 hP2 hnx2 hkx2 l3 l4 F2 z2 ha3 hN3 hP3 hnx3 hkx3 l5 l6 F3 z3 z4
  dsimp only
  go_wp2_with fail
  go_ret
  exact unhide HX

end Go.Proofs.YtcehablmloleaaaGreatDoor
