/-
  GA, GB, Sorted, Comp. Own work.
-/
import Derived.Test.YtcehablmloleaaaGreatDoorMXAB
import Derived.Test.YtcehablmloleaaaGreatDoorMXAC
import Derived.Test.YtcehablmloleaaaGreatDoorMXAA
import Derived.Lib.SlicesCompact
namespace Go.Proofs.YtcehablmloleaaaGreatDoor
open Go.RowKit
set_option linter.unusedVariables false

/-- a word or a sign with this text -/
def see (s : List UInt8) (t : Tok) : Bool := (decide (t.kind = 4) || decide (t.kind = 5)) && decide (t.text = ofL s)

def sees (s : List UInt8) : List Tok → Bool
  | [] => false
  | t :: _ => see s t

theorem ofL_injG {a b : List UInt8} (h : ofL a = ofL b) : a = b := by
  rw [← toL_ofL a, ← toL_ofL b, h]

theorem see_ne {s s' : List UInt8} {t : Tok} (h : see s t = true) (hne : s ≠ s') : see s' t = false := by
  rw [see, Bool.and_eq_true, decide_eq_true_eq] at h
  rw [see, h.2]
  have : decide (ofL s = ofL s') = false := decide_eq_false (fun e => hne (ofL_injG e))
  rw [this, Bool.and_false]

theorem see_kind {s : List UInt8} {t : Tok} (h : see s t = true) : t.kind = 4 ∨ t.kind = 5 := by
  rw [see, Bool.and_eq_true, Bool.or_eq_true, decide_eq_true_eq, decide_eq_true_eq] at h
  exact h.1

theorem see_text {s : List UInt8} {t : Tok} (h : see s t = true) : t.text = ofL s := by
  rw [see, Bool.and_eq_true, decide_eq_true_eq] at h
  exact h.2

def kLet : List UInt8 := [108, 101, 116]
def kWhen : List UInt8 := [119, 104, 101, 110]
def kElse : List UInt8 := [101, 108, 115, 101]
def kDeny : List UInt8 := [100, 101, 110, 121]
def kGrant : List UInt8 := [103, 114, 97, 110, 116]
def kIf : List UInt8 := [105, 102]
def kThen : List UInt8 := [116, 104, 101, 110]
def kNot : List UInt8 := [110, 111, 116]
def kAnd : List UInt8 := [97, 110, 100]
def kOr : List UInt8 := [111, 114]
def kIn : List UInt8 := [105, 110]
def kWithin : List UInt8 := [119, 105, 116, 104, 105, 110]
def kSize : List UInt8 := [115, 105, 122, 101]
def kTrue : List UInt8 := [116, 114, 117, 101]
def kFalse : List UInt8 := [102, 97, 108, 115, 101]
def kArrow : List UInt8 := [61, 62]
def kEq : List UInt8 := [61]
def kSemi : List UInt8 := [59]
def kMinus : List UInt8 := [45]
def kLpar : List UInt8 := [40]
def kRpar : List UInt8 := [41]
def kLbr : List UInt8 := [123]
def kRbr : List UInt8 := [125]
def kComma : List UInt8 := [44]

/-- the operators of a level -/
def opsOf : Nat → List (List UInt8 × Int)
  | 1 => [(kOr, 26)]
  | 2 => [(kAnd, 25)]
  | 4 => [([61, 61], 19), ([33, 61], 20), ([60], 21), ([60, 61], 22), (kIn, 23), (kWithin, 24)]
  | 5 => [([43], 11), (kMinus, 12), ([124], 16), ([92], 18)]
  | 6 => [([42], 13), ([47], 14), ([37], 15), ([38], 17)]
  | _ => []

def opOf (k : Nat) (t : Tok) : Option Int := ((opsOf k).find? (fun p => see p.1 t)).map Prod.snd

def opHd (k : Nat) : List Tok → Option Int
  | [] => none
  | t :: _ => opOf k t

theorem opOf_see {k : Nat} {t : Tok} {op : Int} (h : opOf k t = some op) : ∃ s, (s, op) ∈ opsOf k ∧ see s t = true := by
  rw [opOf, Option.map_eq_some_iff] at h
  obtain ⟨⟨s, o⟩, h1, h2⟩ := h
  have h3 := List.mem_of_find?_eq_some h1
  have h4 := List.find?_some h1
  exact ⟨s, by rw [← h2]; exact h3, h4⟩

/-- a tree as it is read; a set bears the names as they are written -/
inductive Pt where
  | int (i : Nat) (n : Int)
  | text (i : Nat) (s : ByteArray)
  | bool (i : Nat) (b : Bool)
  | set (i : Nat) (ss : List ByteArray)
  | name (i : Nat) (s : ByteArray)
  | un (i : Nat) (op : Int) (k : Pt)
  | bin (i : Nat) (op : Int) (l r : Pt)
  | ite (i : Nat) (c t e : Pt)

/-- a name of a set -/
def okSc (t : Tok) : Prop := t.kind = 2 ∧ t.text ≠ ofL []

instance (t : Tok) : Decidable (okSc t) := inferInstanceAs (Decidable (_ ∧ _))

/-- names as they are read behind a bracket: the names, whether all is well, what is left -/
def scI : List Tok → List ByteArray → List ByteArray × Bool × List Tok
  | [], a => (a, false, [])
  | [t], a => if okSc t then (a ++ [t.text], true, []) else (a, false, [t])
  | t :: c :: q, a => if okSc t then (if see kComma c then scI q (a ++ [t.text]) else (a ++ [t.text], true, c :: q)) else (a, false, t :: c :: q)

def scR (ts : List Tok) : List ByteArray × Bool × List Tok := if sees kRbr ts then ([], true, ts) else scI ts []

inductive PR where
  | ok (e : Pt) (r : List Tok)
  | bad (r : List Tok)

def PR.rest : PR → List Tok
  | .ok _ r => r
  | .bad r => r

inductive NT where
  | expr
  | chain (k : Nat)
  | more (k : Nat) (e : Pt)
  | opd (k : Nat)
  | neg
  | cmp
  | una
  | prim
  | encl
  | beh (s : List UInt8)

/-- how a rule goes -/
inductive D : NT → List Tok → PR → Prop
  | beh_no {s : List UInt8} {ts : List Tok} (h : sees s ts = false) : D (.beh s) ts (.bad ts)
  | beh {s : List UInt8} {t : Tok} {r : List Tok} {x : PR} (h : see s t = true) (d : D .expr r x) : D (.beh s) (t :: r) x
  | expr_no {ts : List Tok} {x : PR} (h : sees kIf ts = false) (d : D (.chain 1) ts x) : D .expr ts x
  | expr_if1 {t : Tok} {r q : List Tok} (h : see kIf t = true) (d1 : D (.beh kIf) (t :: r) (.bad q)) : D .expr (t :: r) (.bad q)
  | expr_if2 {t : Tok} {r q p : List Tok} {a : Pt} (h : see kIf t = true) (d1 : D (.beh kIf) (t :: r) (.ok a q)) (d2 : D (.beh kThen) q (.bad p)) : D .expr (t :: r) (.bad p)
  | expr_if3 {t : Tok} {r q p o : List Tok} {a b : Pt} (h : see kIf t = true) (d1 : D (.beh kIf) (t :: r) (.ok a q)) (d2 : D (.beh kThen) q (.ok b p)) (d3 : D (.beh kElse) p (.bad o)) : D .expr (t :: r) (.bad o)
  | expr_if {t : Tok} {r q p o : List Tok} {a b c : Pt} (h : see kIf t = true) (d1 : D (.beh kIf) (t :: r) (.ok a q)) (d2 : D (.beh kThen) q (.ok b p)) (d3 : D (.beh kElse) p (.ok c o)) : D .expr (t :: r) (.ok (.ite t.at_ a b c) o)
  | chain_bad {k : Nat} {ts r : List Tok} (d : D (.opd k) ts (.bad r)) : D (.chain k) ts (.bad r)
  | chain {k : Nat} {ts r : List Tok} {e : Pt} {x : PR} (d : D (.opd k) ts (.ok e r)) (d2 : D (.more k e) r x) : D (.chain k) ts x
  | more_no {k : Nat} {e : Pt} {ts : List Tok} (h : opHd k ts = none) : D (.more k e) ts (.ok e ts)
  | more_bad {k : Nat} {e : Pt} {t : Tok} {r q : List Tok} {op : Int} (h : opOf k t = some op) (d : D (.opd k) r (.bad q)) : D (.more k e) (t :: r) (.bad q)
  | more {k : Nat} {e f : Pt} {t : Tok} {r q : List Tok} {op : Int} {x : PR} (h : opOf k t = some op) (d : D (.opd k) r (.ok f q)) (d2 : D (.more k (.bin t.at_ op e f)) q x) : D (.more k e) (t :: r) x
  | opd1 {ts : List Tok} {x : PR} (d : D (.chain 2) ts x) : D (.opd 1) ts x
  | opd2 {ts : List Tok} {x : PR} (d : D .neg ts x) : D (.opd 2) ts x
  | opd4 {ts : List Tok} {x : PR} (d : D (.chain 5) ts x) : D (.opd 4) ts x
  | opd5 {ts : List Tok} {x : PR} (d : D (.chain 6) ts x) : D (.opd 5) ts x
  | opd6 {ts : List Tok} {x : PR} (d : D .una ts x) : D (.opd 6) ts x
  | neg_no {ts : List Tok} {x : PR} (h : sees kNot ts = false) (d : D .cmp ts x) : D .neg ts x
  | neg_bad {t : Tok} {r q : List Tok} (h : see kNot t = true) (d : D .neg r (.bad q)) : D .neg (t :: r) (.bad q)
  | neg {t : Tok} {r q : List Tok} {e : Pt} (h : see kNot t = true) (d : D .neg r (.ok e q)) : D .neg (t :: r) (.ok (.un t.at_ 9 e) q)
  | cmp_bad {ts r : List Tok} (d : D (.opd 4) ts (.bad r)) : D .cmp ts (.bad r)
  | cmp_one {ts r : List Tok} {e : Pt} (d : D (.opd 4) ts (.ok e r)) (h : opHd 4 r = none) : D .cmp ts (.ok e r)
  | cmp_two_bad {ts r q : List Tok} {e : Pt} {t : Tok} {op : Int} (d : D (.opd 4) ts (.ok e (t :: r))) (h : opOf 4 t = some op) (d2 : D (.opd 4) r (.bad q)) : D .cmp ts (.bad q)
  | cmp_two {ts r q : List Tok} {e f : Pt} {t : Tok} {op : Int} (d : D (.opd 4) ts (.ok e (t :: r))) (h : opOf 4 t = some op) (d2 : D (.opd 4) r (.ok f q)) : D .cmp ts (.ok (.bin t.at_ op e f) q)
  | una_no {ts : List Tok} {x : PR} (h : sees kMinus ts = false) (d : D .prim ts x) : D .una ts x
  | una_bad {t : Tok} {r q : List Tok} (h : see kMinus t = true) (d : D .una r (.bad q)) : D .una (t :: r) (.bad q)
  | una {t : Tok} {r q : List Tok} {e : Pt} (h : see kMinus t = true) (d : D .una r (.ok e q)) : D .una (t :: r) (.ok (.un t.at_ 8 e) q)
  | num {t : Tok} {r : List Tok} (h : t.kind = 1) : D .prim (t :: r) (.ok (.int t.at_ t.num) r)
  | text {t : Tok} {r : List Tok} (h : t.kind = 2) : D .prim (t :: r) (.ok (.text t.at_ t.text) r)
  | name {t : Tok} {r : List Tok} (h : t.kind = 3) : D .prim (t :: r) (.ok (.name t.at_ t.text) r)
  | tru {t : Tok} {r : List Tok} (h : see kTrue t = true) : D .prim (t :: r) (.ok (.bool t.at_ true) r)
  | fls {t : Tok} {r : List Tok} (h : see kFalse t = true) : D .prim (t :: r) (.ok (.bool t.at_ false) r)
  | size_bad {t : Tok} {r q : List Tok} (h : see kSize t = true) (d : D .encl r (.bad q)) : D .prim (t :: r) (.bad q)
  | size {t : Tok} {r q : List Tok} {e : Pt} (h : see kSize t = true) (d : D .encl r (.ok e q)) : D .prim (t :: r) (.ok (.un t.at_ 10 e) q)
  | par {t : Tok} {r : List Tok} {x : PR} (h : see kLpar t = true) (d : D .encl (t :: r) x) : D .prim (t :: r) x
  | set_bad {t : Tok} {r q : List Tok} {ss : List ByteArray} (h : see kLbr t = true) (hs : scR r = (ss, false, q)) : D .prim (t :: r) (.bad q)
  | set_end {t : Tok} {r q : List Tok} {ss : List ByteArray} (h : see kLbr t = true) (hs : scR r = (ss, true, q)) (hq : sees kRbr q = false) : D .prim (t :: r) (.bad q)
  | set {t u : Tok} {r q : List Tok} {ss : List ByteArray} (h : see kLbr t = true) (hs : scR r = (ss, true, u :: q)) (hq : see kRbr u = true) : D .prim (t :: r) (.ok (.set t.at_ ss) q)
  | prim_nil : D .prim [] (.bad [])
  | prim_no {t : Tok} {r : List Tok} (h1 : t.kind ≠ 1) (h2 : t.kind ≠ 2) (h3 : t.kind ≠ 3) (h4 : see kTrue t = false) (h5 : see kFalse t = false) (h6 : see kSize t = false) (h7 : see kLpar t = false) (h8 : see kLbr t = false) : D .prim (t :: r) (.bad (t :: r))
  | encl_bad {ts r : List Tok} (d : D (.beh kLpar) ts (.bad r)) : D .encl ts (.bad r)
  | encl_end {ts r : List Tok} {e : Pt} (d : D (.beh kLpar) ts (.ok e r)) (h : sees kRpar r = false) : D .encl ts (.bad r)
  | encl {ts r : List Tok} {e : Pt} {t : Tok} (d : D (.beh kLpar) ts (.ok e (t :: r))) (h : see kRpar t = true) : D .encl ts (.ok e r)

theorem scI_suf : ∀ (ts : List Tok) (a : List ByteArray), ∃ c, ts = c ++ (scI ts a).2.2
  | [], a => ⟨[], by simp [scI]⟩
  | [t], a => by
    rw [scI]
    split
    · exact ⟨[t], rfl⟩
    · exact ⟨[], rfl⟩
  | t :: c :: q, a => by
    rw [scI]
    split
    · split
      · obtain ⟨d, hd⟩ := scI_suf q (a ++ [t.text])
        exact ⟨t :: c :: d, by rw [List.cons_append, List.cons_append, ← hd]⟩
      · exact ⟨[t], rfl⟩
    · exact ⟨[], rfl⟩

theorem scR_suf (ts : List Tok) : ∃ c, ts = c ++ (scR ts).2.2 := by
  rw [scR]
  split
  · exact ⟨[], rfl⟩
  · exact scI_suf ts []

def NT.slow : NT → Bool
  | .more _ _ => true
  | _ => false

/-- what is left is a part of what was there -/
theorem D.suf {nt : NT} {ts : List Tok} {x : PR} (h : D nt ts x) : ∃ c, ts = c ++ x.rest ∧ (∀ e r, x = .ok e r → nt.slow = false → c ≠ []) := by
  induction h with
  | beh_no => exact ⟨[], rfl, fun e r h => by cases h⟩
  | @beh s t r x h d ih => obtain ⟨c, hc, _⟩ := ih; exact ⟨t :: c, by rw [List.cons_append, ← hc], fun _ _ _ _ => by simp⟩
  | expr_no h d ih => obtain ⟨c, hc, h2⟩ := ih; exact ⟨c, hc, fun e r h3 _ => h2 e r h3 rfl⟩
  | expr_if1 h d ih => obtain ⟨c, hc, _⟩ := ih; exact ⟨c, hc, fun _ _ h => by cases h⟩
  | expr_if2 h d1 d2 i1 i2 => obtain ⟨c, hc, _⟩ := i1; obtain ⟨d, hd, _⟩ := i2; exact ⟨c ++ d, by rw [List.append_assoc, ← hd]; exact hc, fun _ _ h => by cases h⟩
  | expr_if3 h d1 d2 d3 i1 i2 i3 => obtain ⟨c, hc, _⟩ := i1; obtain ⟨d, hd, _⟩ := i2; obtain ⟨e, he, _⟩ := i3; dsimp only [PR.rest] at *; exact ⟨c ++ (d ++ e), by rw [List.append_assoc, List.append_assoc, ← he, ← hd]; exact hc, fun _ _ h => by cases h⟩
  | expr_if h d1 d2 d3 i1 i2 i3 => obtain ⟨c, hc, hn⟩ := i1; obtain ⟨d, hd, _⟩ := i2; obtain ⟨e, he, _⟩ := i3; dsimp only [PR.rest] at *; exact ⟨c ++ (d ++ e), by rw [List.append_assoc, List.append_assoc, ← he, ← hd]; exact hc, fun _ _ _ _ h => hn _ _ rfl rfl (List.append_eq_nil_iff.1 h).1⟩
  | chain_bad d ih => obtain ⟨c, hc, _⟩ := ih; exact ⟨c, hc, fun _ _ h => by cases h⟩
  | chain d d2 i1 i2 => obtain ⟨c, hc, hn⟩ := i1; obtain ⟨d, hd, _⟩ := i2; exact ⟨c ++ d, by rw [List.append_assoc, ← hd]; exact hc, fun _ _ _ _ h => hn _ _ rfl rfl (List.append_eq_nil_iff.1 h).1⟩
  | more_no => exact ⟨[], rfl, fun _ _ _ h => by cases h⟩
  | @more_bad k e t r q op h d ih => obtain ⟨c, hc, _⟩ := ih; exact ⟨t :: c, by rw [List.cons_append, ← hc], fun _ _ h => by cases h⟩
  | @more k e f t r q op x h d d2 i1 i2 => obtain ⟨c, hc, _⟩ := i1; obtain ⟨d, hd, _⟩ := i2; exact ⟨t :: (c ++ d), by rw [List.cons_append, List.append_assoc, ← hd]; exact congrArg _ hc, fun _ _ _ h => by cases h⟩
  | opd1 d ih => obtain ⟨c, hc, h2⟩ := ih; exact ⟨c, hc, fun e r h3 _ => h2 e r h3 rfl⟩
  | opd2 d ih => obtain ⟨c, hc, h2⟩ := ih; exact ⟨c, hc, fun e r h3 _ => h2 e r h3 rfl⟩
  | opd4 d ih => obtain ⟨c, hc, h2⟩ := ih; exact ⟨c, hc, fun e r h3 _ => h2 e r h3 rfl⟩
  | opd5 d ih => obtain ⟨c, hc, h2⟩ := ih; exact ⟨c, hc, fun e r h3 _ => h2 e r h3 rfl⟩
  | opd6 d ih => obtain ⟨c, hc, h2⟩ := ih; exact ⟨c, hc, fun e r h3 _ => h2 e r h3 rfl⟩
  | neg_no h d ih => obtain ⟨c, hc, h2⟩ := ih; exact ⟨c, hc, fun e r h3 _ => h2 e r h3 rfl⟩
  | @neg_bad t r q h d ih => obtain ⟨c, hc, _⟩ := ih; exact ⟨t :: c, by rw [List.cons_append, ← hc], fun _ _ h => by cases h⟩
  | @neg t r q e h d ih => obtain ⟨c, hc, _⟩ := ih; exact ⟨t :: c, by rw [List.cons_append]; exact congrArg _ hc, fun _ _ _ _ => by simp⟩
  | cmp_bad d ih => obtain ⟨c, hc, _⟩ := ih; exact ⟨c, hc, fun _ _ h => by cases h⟩
  | cmp_one d h ih => obtain ⟨c, hc, h2⟩ := ih; exact ⟨c, hc, fun _ _ _ _ => h2 _ _ rfl rfl⟩
  | @cmp_two_bad ts r q e t op d h d2 i1 i2 => obtain ⟨c, hc, _⟩ := i1; obtain ⟨b, hb, _⟩ := i2; exact ⟨c ++ t :: b, by rw [List.append_assoc, List.cons_append, ← hb]; exact hc, fun _ _ h => by cases h⟩
  | @cmp_two ts r q e f t op d h d2 i1 i2 => obtain ⟨c, hc, _⟩ := i1; obtain ⟨b, hb, _⟩ := i2; exact ⟨c ++ t :: b, by rw [List.append_assoc, List.cons_append]; exact hc.trans (by rw [show r = b ++ _ from hb]; rfl), fun _ _ _ _ h => by simp at h⟩
  | una_no h d ih => obtain ⟨c, hc, h2⟩ := ih; exact ⟨c, hc, fun e r h3 _ => h2 e r h3 rfl⟩
  | @una_bad t r q h d ih => obtain ⟨c, hc, _⟩ := ih; exact ⟨t :: c, by rw [List.cons_append, ← hc], fun _ _ h => by cases h⟩
  | @una t r q e h d ih => obtain ⟨c, hc, _⟩ := ih; exact ⟨t :: c, by rw [List.cons_append]; exact congrArg _ hc, fun _ _ _ _ => by simp⟩
  | @num t r h => exact ⟨[t], rfl, fun _ _ _ _ => by simp⟩
  | @text t r h => exact ⟨[t], rfl, fun _ _ _ _ => by simp⟩
  | @name t r h => exact ⟨[t], rfl, fun _ _ _ _ => by simp⟩
  | @tru t r h => exact ⟨[t], rfl, fun _ _ _ _ => by simp⟩
  | @fls t r h => exact ⟨[t], rfl, fun _ _ _ _ => by simp⟩
  | @size_bad t r q h d ih => obtain ⟨c, hc, _⟩ := ih; exact ⟨t :: c, by rw [List.cons_append, ← hc], fun _ _ h => by cases h⟩
  | @size t r q e h d ih => obtain ⟨c, hc, _⟩ := ih; exact ⟨t :: c, by rw [List.cons_append]; exact congrArg _ hc, fun _ _ _ _ => by simp⟩
  | par h d ih => obtain ⟨c, hc, h2⟩ := ih; exact ⟨c, hc, fun e r h3 _ => h2 e r h3 rfl⟩
  | @set_bad t r q ss h hs => obtain ⟨c, hc⟩ := scR_suf r; rw [hs] at hc; exact ⟨t :: c, by rw [List.cons_append]; exact congrArg _ hc, fun _ _ h => by cases h⟩
  | @set_end t r q ss h hs hq => obtain ⟨c, hc⟩ := scR_suf r; rw [hs] at hc; exact ⟨t :: c, by rw [List.cons_append]; exact congrArg _ hc, fun _ _ h => by cases h⟩
  | @set t u r q ss h hs hq => obtain ⟨c, hc⟩ := scR_suf r; rw [hs] at hc; exact ⟨t :: (c ++ [u]), by rw [List.cons_append, List.append_assoc]; exact congrArg _ hc, fun _ _ _ _ => by simp⟩
  | prim_nil => exact ⟨[], rfl, fun _ _ h => by cases h⟩
  | prim_no => exact ⟨[], rfl, fun _ _ h => by cases h⟩
  | encl_bad d ih => obtain ⟨c, hc, _⟩ := ih; exact ⟨c, hc, fun _ _ h => by cases h⟩
  | encl_end d h ih => obtain ⟨c, hc, _⟩ := ih; exact ⟨c, hc, fun _ _ h => by cases h⟩
  | @encl ts r e t d h ih => obtain ⟨c, hc, _⟩ := ih; exact ⟨c ++ [t], by rw [List.append_assoc]; exact hc, fun _ _ _ _ => by simp⟩

theorem D.len {nt : NT} {ts : List Tok} {x : PR} (h : D nt ts x) : x.rest.length ≤ ts.length := by
  obtain ⟨c, hc, _⟩ := h.suf
  rw [hc, List.length_append]; omega

theorem D.less {nt : NT} {ts r : List Tok} {e : Pt} (h : D nt ts (.ok e r)) (hs : nt.slow = false) : r.length < ts.length := by
  obtain ⟨c, hc, hn⟩ := h.suf
  have h1 := hn e r rfl hs
  have h2 : 0 < c.length := List.length_pos_iff.2 h1
  rw [hc, List.length_append, PR.rest]; omega

def NT.rank : NT → Nat
  | .beh _ => 0 | .encl => 1 | .prim => 2 | .una => 3
  | .opd k => if k = 6 then 4 else if k = 5 then 6 else if k = 4 then 8 else if k = 2 then 11 else 13
  | .chain k => if k = 6 then 5 else if k = 5 then 7 else if k = 2 then 12 else 14
  | .cmp => 9 | .neg => 10 | .expr => 15 | .more .. => 16

def NT.good : NT → Prop
  | .opd k => k = 1 ∨ k = 2 ∨ k = 4 ∨ k = 5 ∨ k = 6
  | .chain k => k = 1 ∨ k = 2 ∨ k = 5 ∨ k = 6
  | .more k _ => k = 1 ∨ k = 2 ∨ k = 5 ∨ k = 6
  | _ => True

theorem D.total : ∀ (n : Nat) (nt : NT) (ts : List Tok), nt.good → ts.length * 17 + nt.rank ≤ n → ∃ x, D nt ts x := by
  intro n
  induction n with
  | zero =>
    intro nt ts hg hm
    cases nt with
    | beh s => cases ts with
      | nil => exact ⟨_, .beh_no rfl⟩
      | cons t r => simp at hm
    | opd k => exfalso; revert hm; simp only [NT.rank]; split <;> (try split) <;> (try split) <;> (try split) <;> omega
    | chain k => exfalso; revert hm; simp only [NT.rank]; split <;> (try split) <;> (try split) <;> omega
    | _ => simp [NT.rank] at hm
  | succ n ih =>
    intro nt ts hg hm
    cases nt with
    | beh s =>
      cases ts with
      | nil => exact ⟨_, .beh_no rfl⟩
      | cons t r =>
        cases h : see s t
        · exact ⟨_, .beh_no h⟩
        · obtain ⟨x, d⟩ := ih .expr r trivial (by simp [NT.rank] at hm ⊢; omega)
          exact ⟨x, .beh h d⟩
    | expr =>
      cases h : sees kIf ts
      · obtain ⟨x, d⟩ := ih (.chain 1) ts (.inl rfl) (by simp [NT.rank] at hm ⊢; omega)
        exact ⟨x, .expr_no h d⟩
      · cases ts with
        | nil => cases h
        | cons t r =>
          have h' : see kIf t = true := h
          obtain ⟨x, d⟩ := ih (.beh kIf) (t :: r) trivial (by simp [NT.rank] at hm ⊢; omega)
          cases x with
          | bad q => exact ⟨_, .expr_if1 h' d⟩
          | ok a q =>
            have l1 := d.less rfl
            obtain ⟨y, d2⟩ := ih (.beh kThen) q trivial (by simp [NT.rank] at hm l1 ⊢; omega)
            cases y with
            | bad p => exact ⟨_, .expr_if2 h' d d2⟩
            | ok b p =>
              have l2 := d2.less rfl
              obtain ⟨z, d3⟩ := ih (.beh kElse) p trivial (by simp [NT.rank] at hm l1 ⊢; omega)
              cases z with
              | bad o => exact ⟨_, .expr_if3 h' d d2 d3⟩
              | ok c o => exact ⟨_, .expr_if h' d d2 d3⟩
    | chain k =>
      have hk : (k = 1 ∨ k = 2 ∨ k = 4 ∨ k = 5 ∨ k = 6) := by simp [NT.good] at hg; omega
      have hr : (NT.opd k).rank + 1 = (NT.chain k).rank := by simp [NT.good] at hg; rcases hg with rfl | rfl | rfl | rfl <;> rfl
      obtain ⟨x, d⟩ := ih (.opd k) ts hk (by omega)
      cases x with
      | bad q => exact ⟨_, .chain_bad d⟩
      | ok e q =>
        have l1 := d.less rfl
        obtain ⟨y, d2⟩ := ih (.more k e) q hg (by simp only [NT.rank] at hm l1 ⊢; omega)
        exact ⟨y, .chain d d2⟩
    | more k e =>
      have hk : (k = 1 ∨ k = 2 ∨ k = 4 ∨ k = 5 ∨ k = 6) := by simp [NT.good] at hg; omega
      cases h : opHd k ts with
      | none => exact ⟨_, .more_no h⟩
      | some op =>
        cases ts with
        | nil => cases h
        | cons t r =>
          have hr : (NT.opd k).rank ≤ 13 := by simp only [NT.rank]; split <;> (try split) <;> (try split) <;> (try split) <;> omega
          have hm' : (r.length + 1) * 17 + 16 ≤ n + 1 := by simpa [NT.rank] using hm
          obtain ⟨x, d⟩ := ih (.opd k) r hk (by omega)
          cases x with
          | bad q => exact ⟨_, .more_bad h d⟩
          | ok f q =>
            have l1 := d.less rfl
            obtain ⟨y, d2⟩ := ih (.more k (.bin t.at_ op e f)) q hg (by simp only [NT.rank]; omega)
            exact ⟨y, .more h d d2⟩
    | opd k =>
      simp only [NT.good] at hg
      rcases hg with rfl | rfl | rfl | rfl | rfl
      · obtain ⟨x, d⟩ := ih (.chain 2) ts (.inr (.inl rfl)) (by simp [NT.rank] at hm ⊢; omega); exact ⟨x, .opd1 d⟩
      · obtain ⟨x, d⟩ := ih .neg ts trivial (by simp [NT.rank] at hm ⊢; omega); exact ⟨x, .opd2 d⟩
      · obtain ⟨x, d⟩ := ih (.chain 5) ts (.inr (.inr (.inl rfl))) (by simp [NT.rank] at hm ⊢; omega); exact ⟨x, .opd4 d⟩
      · obtain ⟨x, d⟩ := ih (.chain 6) ts (.inr (.inr (.inr rfl))) (by simp [NT.rank] at hm ⊢; omega); exact ⟨x, .opd5 d⟩
      · obtain ⟨x, d⟩ := ih .una ts trivial (by simp [NT.rank] at hm ⊢; omega); exact ⟨x, .opd6 d⟩
    | neg =>
      cases h : sees kNot ts
      · obtain ⟨x, d⟩ := ih .cmp ts trivial (by simp [NT.rank] at hm ⊢; omega)
        exact ⟨x, .neg_no h d⟩
      · cases ts with
        | nil => cases h
        | cons t r =>
          obtain ⟨x, d⟩ := ih .neg r trivial (by simp [NT.rank] at hm ⊢; omega)
          cases x with
          | bad q => exact ⟨_, .neg_bad h d⟩
          | ok e q => exact ⟨_, .neg h d⟩
    | cmp =>
      obtain ⟨x, d⟩ := ih (.opd 4) ts (.inr (.inr (.inl rfl))) (by simp [NT.rank] at hm ⊢; omega)
      cases x with
      | bad q => exact ⟨_, .cmp_bad d⟩
      | ok e q =>
        have l1 := d.less rfl
        cases h : opHd 4 q with
        | none => exact ⟨_, .cmp_one d h⟩
        | some op =>
          cases q with
          | nil => cases h
          | cons t r =>
            obtain ⟨y, d2⟩ := ih (.opd 4) r (.inr (.inr (.inl rfl))) (by simp [NT.rank] at hm l1 ⊢; omega)
            cases y with
            | bad q => exact ⟨_, .cmp_two_bad d h d2⟩
            | ok f q => exact ⟨_, .cmp_two d h d2⟩
    | una =>
      cases h : sees kMinus ts
      · obtain ⟨x, d⟩ := ih .prim ts trivial (by simp [NT.rank] at hm ⊢; omega)
        exact ⟨x, .una_no h d⟩
      · cases ts with
        | nil => cases h
        | cons t r =>
          obtain ⟨x, d⟩ := ih .una r trivial (by simp [NT.rank] at hm ⊢; omega)
          cases x with
          | bad q => exact ⟨_, .una_bad h d⟩
          | ok e q => exact ⟨_, .una h d⟩
    | prim =>
      cases ts with
      | nil => exact ⟨_, .prim_nil⟩
      | cons t r =>
        by_cases h1 : t.kind = 1
        · exact ⟨_, .num h1⟩
        by_cases h2 : t.kind = 2
        · exact ⟨_, .text h2⟩
        by_cases h3 : t.kind = 3
        · exact ⟨_, .name h3⟩
        cases h4 : see kTrue t
        case true => exact ⟨_, .tru h4⟩
        cases h5 : see kFalse t
        case true => exact ⟨_, .fls h5⟩
        cases h6 : see kSize t
        case true =>
          obtain ⟨x, d⟩ := ih .encl r trivial (by simp [NT.rank] at hm ⊢; omega)
          cases x with
          | bad q => exact ⟨_, .size_bad h6 d⟩
          | ok e q => exact ⟨_, .size h6 d⟩
        cases h7 : see kLpar t
        case true =>
          obtain ⟨x, d⟩ := ih .encl (t :: r) trivial (by simp [NT.rank] at hm ⊢; omega)
          exact ⟨x, .par h7 d⟩
        cases h8 : see kLbr t
        case true =>
          rcases hs : scR r with ⟨ss, b, q⟩
          cases b
          · exact ⟨_, .set_bad h8 hs⟩
          · cases hq : sees kRbr q
            · exact ⟨_, .set_end h8 hs hq⟩
            · cases q with
              | nil => cases hq
              | cons u q => exact ⟨_, .set h8 hs hq⟩
        exact ⟨_, .prim_no h1 h2 h3 h4 h5 h6 h7 h8⟩
    | encl =>
      obtain ⟨x, d⟩ := ih (.beh kLpar) ts trivial (by simp [NT.rank] at hm ⊢; omega)
      cases x with
      | bad q => exact ⟨_, .encl_bad d⟩
      | ok e q =>
        cases h : sees kRpar q
        · exact ⟨_, .encl_end d h⟩
        · cases q with
          | nil => cases h
          | cons t r => exact ⟨_, .encl d h⟩

end Go.Proofs.YtcehablmloleaaaGreatDoor

namespace Go.Proofs.YtcehablmloleaaaGreatDoor
open Go.RowKit
set_option linter.unusedVariables false

def kNUM : List UInt8 := [78, 85, 77]
def kTEXT : List UInt8 := [84, 69, 88, 84]
def kNAME : List UInt8 := [78, 65, 77, 69]

/-- the terminal that a token is -/
def tk (t : Tok) : List UInt8 := if t.kind = 1 then kNUM else if t.kind = 2 then kTEXT else if t.kind = 3 then kNAME else toL t.text

def tkh : List Tok → List UInt8
  | [] => []
  | t :: _ => tk t

def allW : List (List UInt8) := wordsL ++ signs2 ++ signs1.map (fun c => [c])

/-- a token as a scanner makes it -/
def okTk (t : Tok) : Prop := t.kind = 1 ∨ t.kind = 2 ∨ t.kind = 3 ∨ ((t.kind = 4 ∨ t.kind = 5) ∧ toL t.text ∈ allW)

theorem tk_word {t : Tok} {s : List UInt8} (h : okTk t) (hs : s ∈ allW) : see s t = decide (tk t = s) := by
  have n1 : kNUM ≠ s := fun e => by rw [← e] at hs; revert hs; decide
  have n2 : kTEXT ≠ s := fun e => by rw [← e] at hs; revert hs; decide
  have n3 : kNAME ≠ s := fun e => by rw [← e] at hs; revert hs; decide
  rcases h with h | h | h | ⟨h, h'⟩
  · simp [see, tk, h, n1]
  · simp [see, tk, h, n2]
  · simp [see, tk, h, n3]
  · have e : decide (t.text = ofL s) = decide (toL t.text = s) := by
      by_cases hh : toL t.text = s
      · rw [decide_eq_true hh, decide_eq_true]; rw [← hh, ofL_toL]
      · rw [decide_eq_false hh, decide_eq_false]; intro e; exact hh (by rw [e, toL_ofL])
    rcases h with h | h <;> simp [see, tk, h, e]

theorem tkh_word {ts : List Tok} {s : List UInt8} (h : ∀ t ∈ ts, okTk t) (hs : s ∈ allW) : sees s ts = decide (tkh ts = s) := by
  cases ts with
  | nil =>
    have : tkh [] ≠ s := fun e => by rw [← e] at hs; revert hs; decide
    rw [decide_eq_false this]; rfl
  | cons t r => exact tk_word (h t (List.mem_cons_self ..)) hs

/-- symbols of the grammar -/
inductive Sy where
  | policy | decision | expr | orMore | and_ | andMore | not_ | compared | sum | sumMore | term | termMore | unary | primary | scopes | scopesMore
  | scope
  | t (s : List UInt8)

def opsL (k : Nat) : List (List UInt8) := (opsOf k).map Prod.fst

/-- what a symbol becomes ahead of a terminal -/
def expandS (x : Sy) (t : List UInt8) : Option (List Sy) := match x with
  | .policy => if t = kLet then some [.t kLet, .t kNAME, .t kEq, .expr, .t kSemi, .policy] else if t = kWhen then some [.t kWhen, .expr, .t kArrow, .decision, .t kSemi, .policy] else some [.t kElse, .decision, .t kSemi]
  | .decision => if t = kGrant then some [.t kGrant, .expr] else some [.t kDeny]
  | .expr => if t = kIf then some [.t kIf, .expr, .t kThen, .expr, .t kElse, .expr] else some [.and_, .orMore]
  | .orMore => if t = kOr then some [.t kOr, .and_, .orMore] else some []
  | .and_ => some [.not_, .andMore]
  | .andMore => if t = kAnd then some [.t kAnd, .not_, .andMore] else some []
  | .not_ => if t = kNot then some [.t kNot, .not_] else some [.sum, .compared]
  | .compared => if t ∈ opsL 4 then some [.t t, .sum] else some []
  | .sum => some [.term, .sumMore]
  | .sumMore => if t ∈ opsL 5 then some [.t t, .term, .sumMore] else some []
  | .term => some [.unary, .termMore]
  | .termMore => if t ∈ opsL 6 then some [.t t, .unary, .termMore] else some []
  | .unary => if t = kMinus then some [.t kMinus, .unary] else some [.primary]
  | .primary => if t = kLpar then some [.t kLpar, .expr, .t kRpar] else if t = kSize then some [.t kSize, .t kLpar, .expr, .t kRpar] else if t = kLbr then some [.t kLbr, .scopes] else if t = kTEXT ∨ t = kNAME ∨ t = kTrue ∨ t = kFalse then some [.t t] else some [.t kNUM]
  | .scopes => if t = kRbr then some [.t kRbr] else some [.scope, .scopesMore]
  | .scopesMore => if t = kComma then some [.t kComma, .scope, .scopesMore] else some [.t kRbr]
  | .scope => none
  | .t _ => none

/-- how the stack goes, in so many steps: where it is stuck, or nowhere -/
inductive Run : Nat → List Sy → List Tok → Option (List Tok) → Prop
  | fin : Run 0 [] [] none
  | over {t : Tok} {r : List Tok} : Run 0 [] (t :: r) (some (t :: r))
  | exp {n : Nat} {x : Sy} {m st : List Sy} {ts : List Tok} {res : Option (List Tok)} (h : expandS x (tkh ts) = some m) (d : Run n (m ++ st) ts res) : Run (n + 1) (x :: st) ts res
  | scope {n : Nat} {st : List Sy} {t : Tok} {r : List Tok} {res : Option (List Tok)} (h : okSc t) (d : Run n st r res) : Run (n + 1) (.scope :: st) (t :: r) res
  | scope_nil {st : List Sy} : Run 1 (.scope :: st) [] (some [])
  | scope_no {st : List Sy} {t : Tok} {r : List Tok} (h : ¬ okSc t) : Run 1 (.scope :: st) (t :: r) (some (t :: r))
  | term {n : Nat} {s : List UInt8} {st : List Sy} {t : Tok} {r : List Tok} {res : Option (List Tok)} (h : tk t = s) (d : Run n st r res) : Run (n + 1) (.t s :: st) (t :: r) res
  | term_nil {s : List UInt8} {st : List Sy} : Run 1 (.t s :: st) [] (some [])
  | term_no {s : List UInt8} {st : List Sy} {t : Tok} {r : List Tok} (h : tk t ≠ s) : Run 1 (.t s :: st) (t :: r) (some (t :: r))

def Ru (st : List Sy) (ts : List Tok) (res : Option (List Tok)) : Prop := ∃ n, Run n st ts res

theorem Ru.exp {x : Sy} {m st : List Sy} {ts : List Tok} {res : Option (List Tok)} (h : expandS x (tkh ts) = some m) (d : Ru (m ++ st) ts res) : Ru (x :: st) ts res := by
  obtain ⟨n, d⟩ := d; exact ⟨n + 1, .exp h d⟩

theorem Ru.scope {st : List Sy} {t : Tok} {r : List Tok} {res : Option (List Tok)} (h : okSc t) (d : Ru st r res) : Ru (.scope :: st) (t :: r) res := by
  obtain ⟨n, d⟩ := d; exact ⟨n + 1, .scope h d⟩

theorem Ru.term {s : List UInt8} {st : List Sy} {t : Tok} {r : List Tok} {res : Option (List Tok)} (h : tk t = s) (d : Ru st r res) : Ru (.t s :: st) (t :: r) res := by
  obtain ⟨n, d⟩ := d; exact ⟨n + 1, .term h d⟩

theorem Ru.term_no {s : List UInt8} {st : List Sy} {ts : List Tok} (h : tkh ts ≠ s) : Ru (.t s :: st) ts (some ts) := by
  cases ts with
  | nil => exact ⟨1, .term_nil⟩
  | cons t r => exact ⟨1, .term_no h⟩

/-- what comes behind -/
def PR.aft (x : PR) (st : List Sy) (res : Option (List Tok)) : Prop := match x with
  | .ok _ r => Ru st r res
  | .bad r => res = some r

def NT.sym : NT → List Sy
  | .expr => [.expr]
  | .chain k => if k = 1 then [.and_, .orMore] else if k = 2 then [.not_, .andMore] else if k = 5 then [.term, .sumMore] else [.unary, .termMore]
  | .more k _ => if k = 1 then [.orMore] else if k = 2 then [.andMore] else if k = 5 then [.sumMore] else [.termMore]
  | .opd k => if k = 1 then [.and_] else if k = 2 then [.not_] else if k = 4 then [.sum] else if k = 5 then [.term] else [.unary]
  | .neg => [.not_]
  | .cmp => [.sum, .compared]
  | .una => [.unary]
  | .prim => [.primary]
  | .encl => [.t kLpar, .expr, .t kRpar]
  | .beh s => [.t s, .expr]

/-- the rules' own words -/
def NT.fair : NT → Prop
  | .beh s => s ∈ allW
  | n => n.good

theorem opsL_all {k : Nat} {s : List UInt8} (h : s ∈ opsL k) : s ∈ allW := by
  have a1 : ∀ s ∈ opsL 1, s ∈ allW := by decide
  have a2 : ∀ s ∈ opsL 2, s ∈ allW := by decide
  have a4 : ∀ s ∈ opsL 4, s ∈ allW := by decide
  have a5 : ∀ s ∈ opsL 5, s ∈ allW := by decide
  have a6 : ∀ s ∈ opsL 6, s ∈ allW := by decide
  match k, h with
  | 0, h | 3, h => cases h
  | 1, h => exact a1 s h
  | 2, h => exact a2 s h
  | 4, h => exact a4 s h
  | 5, h => exact a5 s h
  | 6, h => exact a6 s h
  | k + 7, h => cases h

theorem opHd_none {k : Nat} {ts : List Tok} (ho : ∀ t ∈ ts, okTk t) (h : opHd k ts = none) : tkh ts ∉ opsL k := by
  intro hm
  cases ts with
  | nil => exact absurd (opsL_all hm) (by decide)
  | cons t r =>
    obtain ⟨p, hp, hp2⟩ := List.mem_map.1 hm
    rw [opHd, opOf, Option.map_eq_none_iff, List.find?_eq_none] at h
    refine h p hp ?_
    rw [tk_word (ho t (List.mem_cons_self ..)) (by rw [hp2]; exact opsL_all hm), decide_eq_true_eq, hp2]
    rfl

theorem opOf_some {k : Nat} {t : Tok} {op : Int} (ho : okTk t) (h : opOf k t = some op) : tk t ∈ opsL k := by
  obtain ⟨s, h1, h2⟩ := opOf_see h
  have h3 : s ∈ opsL k := List.mem_map.2 ⟨_, h1, rfl⟩
  rw [tk_word ho (opsL_all h3), decide_eq_true_eq] at h2
  rw [h2]; exact h3

theorem tk_see {s : List UInt8} {t : Tok} (ho : okTk t) (hs : s ∈ allW) (h : see s t = true) : tk t = s := by
  rw [tk_word ho hs, decide_eq_true_eq] at h; exact h

theorem tk_no {s : List UInt8} {t : Tok} (ho : okTk t) (hs : s ∈ allW) (h : see s t = false) : tk t ≠ s := by
  rw [tk_word ho hs, decide_eq_false_iff_not] at h; exact h

theorem tkh_no {s : List UInt8} {ts : List Tok} (ho : ∀ t ∈ ts, okTk t) (hs : s ∈ allW) (h : sees s ts = false) : tkh ts ≠ s := by
  rw [tkh_word ho hs, decide_eq_false_iff_not] at h; exact h

/-- the names behind a bracket -/
theorem scI_run : ∀ (ts : List Tok) (a : List ByteArray), (∀ t ∈ ts, okTk t) → ∀ st res, ((scI ts a).2.1 = false → res = some (scI ts a).2.2) → ((scI ts a).2.1 = true → Ru (.t kRbr :: st) (scI ts a).2.2 res) → Ru (.scope :: .scopesMore :: st) ts res
  | [], a, ho, st, res, h1, h2 => by
    have e : res = some [] := h1 rfl
    rw [e]; exact ⟨1, .scope_nil⟩
  | [t], a, ho, st, res, h1, h2 => by
    rw [scI] at h1 h2
    by_cases hc : okSc t
    · rw [if_pos hc] at h2
      refine .scope hc (.exp (m := [.t kRbr]) rfl (h2 rfl))
    · rw [if_neg hc] at h1
      have e : res = some [t] := h1 rfl
      rw [e]; exact ⟨1, .scope_no hc⟩
  | t :: c :: q, a, ho, st, res, h1, h2 => by
    rw [scI] at h1 h2
    by_cases hc : okSc t
    · rw [if_pos hc] at h1 h2
      have hoc := ho c (by simp)
      cases hk : see kComma c
      · rw [hk, if_neg (by decide)] at h2
        have n1 := tk_no hoc (by decide) hk
        exact .scope hc (.exp (m := [.t kRbr]) (if_neg n1) (h2 rfl))
      · rw [hk, if_pos rfl] at h1 h2
        have n1 := tk_see hoc (by decide) hk
        exact .scope hc (.exp (m := [.t kComma, .scope, .scopesMore]) (if_pos n1) (.term n1 (scI_run q _ (fun u hu => ho u (by simp [hu])) st res h1 h2)))
    · rw [if_neg hc] at h1
      have e : res = some (t :: c :: q) := h1 rfl
      rw [e]; exact ⟨1, .scope_no hc⟩

theorem scR_run (ts : List Tok) (ho : ∀ t ∈ ts, okTk t) (st : List Sy) (res : Option (List Tok)) (h1 : (scR ts).2.1 = false → res = some (scR ts).2.2) (h2 : (scR ts).2.1 = true → Ru (.t kRbr :: st) (scR ts).2.2 res) : Ru (.scopes :: st) ts res := by
  rw [scR] at h1 h2
  cases h : sees kRbr ts
  · rw [h, if_neg (by decide)] at h1 h2
    exact .exp (m := [.scope, .scopesMore]) (if_neg (tkh_no ho (by decide) h)) (scI_run ts [] ho st res h1 h2)
  · rw [h, if_pos rfl] at h2
    rw [tkh_word ho (by decide), decide_eq_true_eq] at h
    exact .exp (m := [.t kRbr]) (if_pos h) (h2 rfl)

theorem okTk_suf {nt : NT} {ts : List Tok} {x : PR} (d : D nt ts x) (ho : ∀ t ∈ ts, okTk t) : ∀ t ∈ x.rest, okTk t := by
  obtain ⟨c, hc, _⟩ := d.suf
  intro t ht
  exact ho t (by rw [hc]; exact List.mem_append_right _ ht)

theorem Ru.prim_t {s : List UInt8} {st : List Sy} {t : Tok} {r : List Tok} {res : Option (List Tok)} (h : tk t = s) (he : expandS .primary s = some [.t s]) (d : Ru st r res) : Ru (.primary :: st) (t :: r) res :=
  .exp (m := [.t s]) (by show expandS .primary (tk t) = _; rw [h]; exact he) (.term h d)

theorem D.run {nt : NT} {ts : List Tok} {x : PR} (d : D nt ts x) : nt.fair → (∀ t ∈ ts, okTk t) → ∀ st res, x.aft st res → Ru (nt.sym ++ st) ts res := by
  induction d with
  | @beh_no s ts h =>
    intro hf ho st res ha
    have e : res = some ts := ha
    rw [e]; exact .term_no (tkh_no ho hf h)
  | @beh s t r x h d ih =>
    intro hf ho st res ha
    exact .term (tk_see (ho t (by simp)) hf h) (ih trivial (fun u hu => ho u (by simp [hu])) st res ha)
  | @expr_no ts x h d ih =>
    intro hf ho st res ha
    exact .exp (m := [.and_, .orMore]) (if_neg (tkh_no ho (by decide) h)) (ih (.inl rfl) ho st res ha)
  | @expr_if1 t r q h d ih =>
    intro hf ho st res ha
    have := tk_see (ho t (by simp)) (by decide) h
    exact .exp (m := [.t kIf, .expr, .t kThen, .expr, .t kElse, .expr]) (if_pos this) (ih (show kIf ∈ allW by decide) ho ([Sy.t kThen, Sy.expr, Sy.t kElse, Sy.expr] ++ st) res ha)
  | @expr_if2 t r q p a h d d2 i1 i2 =>
    intro hf ho st res ha
    have e1 := tk_see (ho t (by simp)) (by decide) h
    have ho2 := okTk_suf d ho
    have h2 : Ru ([.t kThen, .expr, .t kElse, .expr] ++ st) q res := i2 (show kThen ∈ allW by decide) ho2 ([Sy.t kElse, Sy.expr] ++ st) res ha
    exact .exp (m := [.t kIf, .expr, .t kThen, .expr, .t kElse, .expr]) (if_pos e1) (i1 (show kIf ∈ allW by decide) ho ([Sy.t kThen, Sy.expr, Sy.t kElse, Sy.expr] ++ st) res h2)
  | @expr_if3 t r q p o a b h d d2 d3 i1 i2 i3 =>
    intro hf ho st res ha
    have e1 := tk_see (ho t (by simp)) (by decide) h
    have ho2 := okTk_suf d ho
    have h3 : Ru ([.t kElse, .expr] ++ st) p res := i3 (show kElse ∈ allW by decide) (okTk_suf d2 ho2) st res ha
    have h2 : Ru ([.t kThen, .expr, .t kElse, .expr] ++ st) q res := i2 (show kThen ∈ allW by decide) ho2 ([Sy.t kElse, Sy.expr] ++ st) res h3
    exact .exp (m := [.t kIf, .expr, .t kThen, .expr, .t kElse, .expr]) (if_pos e1) (i1 (show kIf ∈ allW by decide) ho ([Sy.t kThen, Sy.expr, Sy.t kElse, Sy.expr] ++ st) res h2)
  | @expr_if t r q p o a b c h d d2 d3 i1 i2 i3 =>
    intro hf ho st res ha
    have e1 := tk_see (ho t (by simp)) (by decide) h
    have ho2 := okTk_suf d ho
    have h3 : Ru ([.t kElse, .expr] ++ st) p res := i3 (show kElse ∈ allW by decide) (okTk_suf d2 ho2) st res ha
    have h2 : Ru ([.t kThen, .expr, .t kElse, .expr] ++ st) q res := i2 (show kThen ∈ allW by decide) ho2 ([Sy.t kElse, Sy.expr] ++ st) res h3
    exact .exp (m := [.t kIf, .expr, .t kThen, .expr, .t kElse, .expr]) (if_pos e1) (i1 (show kIf ∈ allW by decide) ho ([Sy.t kThen, Sy.expr, Sy.t kElse, Sy.expr] ++ st) res h2)
  | @chain_bad k ts r d ih =>
    intro hf ho st res ha
    rcases hf with rfl | rfl | rfl | rfl
    · exact ih (.inl rfl) ho (.orMore :: st) res ha
    · exact ih (.inr (.inl rfl)) ho (.andMore :: st) res ha
    · exact ih (.inr (.inr (.inr (.inl rfl)))) ho (.sumMore :: st) res ha
    · exact ih (.inr (.inr (.inr (.inr rfl)))) ho (.termMore :: st) res ha
  | @chain k ts r e x d d2 i1 i2 =>
    intro hf ho st res ha
    have h2 := i2 hf (okTk_suf d ho) st res ha
    rcases hf with rfl | rfl | rfl | rfl
    · exact i1 (.inl rfl) ho (.orMore :: st) res h2
    · exact i1 (.inr (.inl rfl)) ho (.andMore :: st) res h2
    · exact i1 (.inr (.inr (.inr (.inl rfl)))) ho (.sumMore :: st) res h2
    · exact i1 (.inr (.inr (.inr (.inr rfl)))) ho (.termMore :: st) res h2
  | @more_no k e ts h =>
    intro hf ho st res ha
    have hn := opHd_none ho h
    rcases hf with rfl | rfl | rfl | rfl
    · exact .exp (m := []) (if_neg (fun e => hn (by rw [e]; decide))) ha
    · exact .exp (m := []) (if_neg (fun e => hn (by rw [e]; decide))) ha
    · exact .exp (m := []) (if_neg hn) ha
    · exact .exp (m := []) (if_neg hn) ha
  | @more_bad k e t r q op h d ih =>
    intro hf ho st res ha
    have hn := opOf_some (ho t (by simp)) h
    have hr : ∀ u ∈ r, okTk u := fun u hu => ho u (by simp [hu])
    rcases hf with rfl | rfl | rfl | rfl
    · have e1 : tk t = kOr := List.mem_singleton.1 hn
      exact .exp (m := [.t kOr, .and_, .orMore]) (if_pos e1) (.term e1 (ih (.inl rfl) hr (.orMore :: st) res ha))
    · have e1 : tk t = kAnd := List.mem_singleton.1 hn
      exact .exp (m := [.t kAnd, .not_, .andMore]) (if_pos e1) (.term e1 (ih (.inr (.inl rfl)) hr (.andMore :: st) res ha))
    · exact .exp (m := [.t (tk t), .term, .sumMore]) (if_pos hn) (.term rfl (ih (.inr (.inr (.inr (.inl rfl)))) hr (.sumMore :: st) res ha))
    · exact .exp (m := [.t (tk t), .unary, .termMore]) (if_pos hn) (.term rfl (ih (.inr (.inr (.inr (.inr rfl)))) hr (.termMore :: st) res ha))
  | @more k e f t r q op x h d d2 i1 i2 =>
    intro hf ho st res ha
    have hn := opOf_some (ho t (by simp)) h
    have hr : ∀ u ∈ r, okTk u := fun u hu => ho u (by simp [hu])
    have h2 := i2 hf (okTk_suf d hr) st res ha
    rcases hf with rfl | rfl | rfl | rfl
    · have e1 : tk t = kOr := List.mem_singleton.1 hn
      exact .exp (m := [.t kOr, .and_, .orMore]) (if_pos e1) (.term e1 (i1 (.inl rfl) hr (.orMore :: st) res h2))
    · have e1 : tk t = kAnd := List.mem_singleton.1 hn
      exact .exp (m := [.t kAnd, .not_, .andMore]) (if_pos e1) (.term e1 (i1 (.inr (.inl rfl)) hr (.andMore :: st) res h2))
    · exact .exp (m := [.t (tk t), .term, .sumMore]) (if_pos hn) (.term rfl (i1 (.inr (.inr (.inr (.inl rfl)))) hr (.sumMore :: st) res h2))
    · exact .exp (m := [.t (tk t), .unary, .termMore]) (if_pos hn) (.term rfl (i1 (.inr (.inr (.inr (.inr rfl)))) hr (.termMore :: st) res h2))
  | opd1 d ih => intro hf ho st res ha; exact .exp (m := [.not_, .andMore]) rfl (ih (.inr (.inl rfl)) ho st res ha)
  | opd2 d ih => intro hf ho st res ha; exact ih trivial ho st res ha
  | opd4 d ih => intro hf ho st res ha; exact .exp (m := [.term, .sumMore]) rfl (ih (.inr (.inr (.inl rfl))) ho st res ha)
  | opd5 d ih => intro hf ho st res ha; exact .exp (m := [.unary, .termMore]) rfl (ih (.inr (.inr (.inr rfl))) ho st res ha)
  | opd6 d ih => intro hf ho st res ha; exact ih trivial ho st res ha
  | @neg_no ts x h d ih =>
    intro hf ho st res ha
    exact .exp (m := [.sum, .compared]) (if_neg (tkh_no ho (by decide) h)) (ih trivial ho st res ha)
  | @neg_bad t r q h d ih =>
    intro hf ho st res ha
    have e1 := tk_see (ho t (by simp)) (by decide) h
    exact .exp (m := [.t kNot, .not_]) (if_pos e1) (.term e1 (ih trivial (fun u hu => ho u (by simp [hu])) st res ha))
  | @neg t r q e h d ih =>
    intro hf ho st res ha
    have e1 := tk_see (ho t (by simp)) (by decide) h
    exact .exp (m := [.t kNot, .not_]) (if_pos e1) (.term e1 (ih trivial (fun u hu => ho u (by simp [hu])) st res ha))
  | cmp_bad d ih => intro hf ho st res ha; exact ih (.inr (.inr (.inl rfl))) ho (.compared :: st) res ha
  | cmp_one d h ih =>
    intro hf ho st res ha
    exact ih (.inr (.inr (.inl rfl))) ho (.compared :: st) res (.exp (m := []) (if_neg (opHd_none (okTk_suf d ho) h)) ha)
  | @cmp_two_bad ts r q e t op d h d2 i1 i2 =>
    intro hf ho st res ha
    have ho2 : ∀ u ∈ t :: r, okTk u := okTk_suf d ho
    have hn := opOf_some (ho2 t (by simp)) h
    exact i1 (.inr (.inr (.inl rfl))) ho (.compared :: st) res (.exp (m := [.t (tk t), .sum]) (if_pos hn) (.term rfl (i2 (.inr (.inr (.inl rfl))) (fun u hu => ho2 u (by simp [hu])) st res ha)))
  | @cmp_two ts r q e f t op d h d2 i1 i2 =>
    intro hf ho st res ha
    have ho2 : ∀ u ∈ t :: r, okTk u := okTk_suf d ho
    have hn := opOf_some (ho2 t (by simp)) h
    exact i1 (.inr (.inr (.inl rfl))) ho (.compared :: st) res (.exp (m := [.t (tk t), .sum]) (if_pos hn) (.term rfl (i2 (.inr (.inr (.inl rfl))) (fun u hu => ho2 u (by simp [hu])) st res ha)))
  | @una_no ts x h d ih =>
    intro hf ho st res ha
    exact .exp (m := [.primary]) (if_neg (tkh_no ho (by decide) h)) (ih trivial ho st res ha)
  | @una_bad t r q h d ih =>
    intro hf ho st res ha
    have e1 := tk_see (ho t (by simp)) (by decide) h
    exact .exp (m := [.t kMinus, .unary]) (if_pos e1) (.term e1 (ih trivial (fun u hu => ho u (by simp [hu])) st res ha))
  | @una t r q e h d ih =>
    intro hf ho st res ha
    have e1 := tk_see (ho t (by simp)) (by decide) h
    exact .exp (m := [.t kMinus, .unary]) (if_pos e1) (.term e1 (ih trivial (fun u hu => ho u (by simp [hu])) st res ha))
  | @num t r h => intro hf ho st res ha; exact .prim_t (s := kNUM) (by rw [tk, if_pos h]) rfl ha
  | @text t r h => intro hf ho st res ha; exact .prim_t (s := kTEXT) (by rw [tk, h]; rfl) rfl ha
  | @name t r h => intro hf ho st res ha; exact .prim_t (s := kNAME) (by rw [tk, h]; rfl) rfl ha
  | @tru t r h => intro hf ho st res ha; exact .prim_t (tk_see (ho t (by simp)) (by decide) h) rfl ha
  | @fls t r h => intro hf ho st res ha; exact .prim_t (tk_see (ho t (by simp)) (by decide) h) rfl ha
  | @size_bad t r q h d ih =>
    intro hf ho st res ha
    have e1 := tk_see (ho t (by simp)) (by decide) h
    exact .exp (m := [.t kSize, .t kLpar, .expr, .t kRpar]) (by show expandS .primary (tk t) = _; rw [e1]; rfl) (.term e1 (ih trivial (fun u hu => ho u (by simp [hu])) st res ha))
  | @size t r q e h d ih =>
    intro hf ho st res ha
    have e1 := tk_see (ho t (by simp)) (by decide) h
    exact .exp (m := [.t kSize, .t kLpar, .expr, .t kRpar]) (by show expandS .primary (tk t) = _; rw [e1]; rfl) (.term e1 (ih trivial (fun u hu => ho u (by simp [hu])) st res ha))
  | @par t r x h d ih =>
    intro hf ho st res ha
    have e1 := tk_see (ho t (by simp)) (by decide) h
    exact .exp (m := [.t kLpar, .expr, .t kRpar]) (by show expandS .primary (tk t) = _; rw [e1]; rfl) (ih trivial ho st res ha)
  | @set_bad t r q ss h hs =>
    intro hf ho st res ha
    have e1 := tk_see (ho t (by simp)) (by decide) h
    have e : res = some q := ha
    exact .exp (m := [.t kLbr, .scopes]) (by show expandS .primary (tk t) = _; rw [e1]; rfl) (.term e1 (scR_run r (fun u hu => ho u (by simp [hu])) st res (fun _ => by rw [hs]; exact e) (fun h => by rw [hs] at h; cases h)))
  | @set_end t r q ss h hs hq =>
    intro hf ho st res ha
    have e1 := tk_see (ho t (by simp)) (by decide) h
    have e : res = some q := ha
    have hr : ∀ u ∈ r, okTk u := fun u hu => ho u (by simp [hu])
    have hoq : ∀ u ∈ q, okTk u := fun u hu => by
      obtain ⟨c, hc⟩ := scR_suf r
      rw [hs] at hc
      exact hr u (by rw [hc]; exact List.mem_append_right _ hu)
    exact .exp (m := [.t kLbr, .scopes]) (by show expandS .primary (tk t) = _; rw [e1]; rfl) (.term e1 (scR_run r hr st res (fun h => by rw [hs] at h; cases h) (fun _ => by rw [hs, e]; exact .term_no (tkh_no hoq (by decide) hq))))
  | @set t u r q ss h hs hq =>
    intro hf ho st res ha
    have e1 := tk_see (ho t (by simp)) (by decide) h
    have hr : ∀ u ∈ r, okTk u := fun u hu => ho u (by simp [hu])
    have hou : okTk u := by
      obtain ⟨c, hc⟩ := scR_suf r
      rw [hs] at hc
      exact hr u (by rw [hc]; simp)
    exact .exp (m := [.t kLbr, .scopes]) (by show expandS .primary (tk t) = _; rw [e1]; rfl) (.term e1 (scR_run r hr st res (fun h => by rw [hs] at h; cases h) (fun _ => by rw [hs]; exact .term (tk_see hou (by decide) hq) ha)))
  | prim_nil =>
    intro hf ho st res ha
    have e : res = some [] := ha
    rw [e]
    exact .exp (m := [.t kNUM]) rfl (.term_no (by decide))
  | @prim_no t r h1 h2 h3 h4 h5 h6 h7 h8 =>
    intro hf ho st res ha
    have e : res = some (t :: r) := ha
    rw [e]
    have hot := ho t (by simp)
    have n0 : t.kind = 4 ∨ t.kind = 5 := by rcases hot with h | h | h | h <;> first | contradiction | exact h.1
    have n1 : tk t = toL t.text ∧ toL t.text ∈ allW := by
      rcases hot with h | h | h | h
      · contradiction
      · contradiction
      · contradiction
      · exact ⟨by rw [tk, if_neg h1, if_neg h2, if_neg h3], h.2⟩
    have nx : ∀ s, s ∉ allW → tk t ≠ s := fun s hs e => hs (by rw [← e, n1.1]; exact n1.2)
    have m4 := tk_no hot (by decide) h4
    have m5 := tk_no hot (by decide) h5
    have m6 := tk_no hot (by decide) h6
    have m7 := tk_no hot (by decide) h7
    have m8 := tk_no hot (by decide) h8
    refine .exp (m := [.t kNUM]) ?_ (.term_no (show tk t ≠ _ from nx _ (by decide)))
    show expandS .primary (tk t) = _
    rw [expandS, if_neg m7, if_neg m6, if_neg m8, if_neg (by
      rintro (h | h | h | h)
      · exact nx _ (by decide) h
      · exact nx _ (by decide) h
      · exact m4 h
      · exact m5 h)]
  | encl_bad d ih => intro hf ho st res ha; exact ih (show kLpar ∈ allW by decide) ho (.t kRpar :: st) res ha
  | encl_end d h ih =>
    intro hf ho st res ha
    refine ih (show kLpar ∈ allW by decide) ho (.t kRpar :: st) res ?_
    have e : res = _ := ha
    rw [e]
    exact .term_no (tkh_no (okTk_suf d ho) (by decide) h)
  | @encl ts r e t d h ih =>
    intro hf ho st res ha
    have ho2 : ∀ u ∈ t :: r, okTk u := okTk_suf d ho
    exact ih (show kLpar ∈ allW by decide) ho (.t kRpar :: st) res (.term (tk_see (ho2 t (by simp)) (by decide) h) ha)

end Go.Proofs.YtcehablmloleaaaGreatDoor

namespace Go.Proofs.YtcehablmloleaaaGreatDoor
open Go.RowKit

/-- is it asked for? -/
def okB (first : Bool) (s x : ByteArray) : Bool := first || sl s x

/-- the least one that is asked for, or none -/
structure IsNext (names : List ByteArray) (first : Bool) (s best : ByteArray) (found : Bool) : Prop where
  yes : found = true → best ∈ names ∧ okB first s best = true ∧ ∀ x ∈ names, okB first s x = true → sl x best = false
  no : found = false → ∀ x ∈ names, okB first s x = false

theorem IsNext.start (first : Bool) (s best : ByteArray) : IsNext [] first s best false := ⟨(fun h => by cases h), (fun _ x hx => by cases hx)⟩

theorem IsNext.skip {names : List ByteArray} {first : Bool} {s best x : ByteArray} {found : Bool} (h : IsNext names first s best found) (hx : okB first s x = false) : IsNext (names ++ [x]) first s best found := by
  refine ⟨fun hf => ?_, fun hf y hy => ?_⟩
  · obtain ⟨h1, h2, h3⟩ := h.yes hf
    refine ⟨List.mem_append_left _ h1, h2, fun y hy hyo => ?_⟩
    rcases List.mem_append.1 hy with hy | hy
    · exact h3 y hy hyo
    · simp only [List.mem_singleton] at hy; subst hy; rw [hx] at hyo; cases hyo
  · rcases List.mem_append.1 hy with hy | hy
    · exact h.no hf y hy
    · simp only [List.mem_singleton] at hy; subst hy; exact hx

theorem IsNext.keep {names : List ByteArray} {first : Bool} {s best x : ByteArray} (h : IsNext names first s best true) (hx : sl x best = false) : IsNext (names ++ [x]) first s best true := by
  obtain ⟨h1, h2, h3⟩ := h.yes rfl
  refine ⟨fun _ => ⟨List.mem_append_left _ h1, h2, fun y hy hyo => ?_⟩, fun hf => by cases hf⟩
  rcases List.mem_append.1 hy with hy | hy
  · exact h3 y hy hyo
  · simp only [List.mem_singleton] at hy; subst hy; exact hx

theorem IsNext.take {names : List ByteArray} {first : Bool} {s best x : ByteArray} {found : Bool} (h : IsNext names first s best found) (hx : okB first s x = true) (hl : found = true → sl x best = true) : IsNext (names ++ [x]) first s x true := by
  refine ⟨fun _ => ⟨by simp, hx, fun y hy hyo => ?_⟩, fun hf => by cases hf⟩
  rcases List.mem_append.1 hy with hy | hy
  · cases found with
    | false => rw [h.no rfl y hy] at hyo; cases hyo
    | true =>
      have h3 := (h.yes rfl).2.2 y hy hyo
      rw [Bool.eq_false_iff] at h3 ⊢
      intro hk
      exact h3 (sl_trans hk (hl rfl))
  · simp only [List.mem_singleton] at hy; subst hy; exact sl_irrefl _

/-- what the walk's test on order says -/
theorem leq_not (first : Bool) (s x : ByteArray) (hf : first = false) (h : (Op.bytesLess x.toList s.toList || x.toList == s.toList) = true) : okB first s x = false := by
  subst hf
  simp only [okB, Bool.false_or]
  rw [Bool.or_eq_true] at h
  rcases h with h | h
  · exact sl_asymm h
  · have : x = s := (eqS_iff x s).1 h
    subst this; exact sl_irrefl _

theorem leq_ok (first : Bool) (s x : ByteArray) (h : (Op.bytesLess x.toList s.toList || x.toList == s.toList) = false) : okB first s x = true := by
  rw [Bool.or_eq_false_iff] at h
  have h1 : sl x s = false := h.1
  have h2 : eqS x s = false := h.2
  have : sl s x = true := by
    cases hk : sl s x with
    | true => rfl
    | false =>
      have := sl_tri _ _ h1 hk
      rw [(eqS_iff _ _).2 this] at h2; cases h2
  simp [okB, this]

/-- what l1next answers -/
def NextAns (ss : List ByteArray) (first : Bool) (s : ByteArray) (e : Ending) : Prop := ∃ best found, e = .returned (.tuple #[.string best, .bool found]) ∧ IsNext ss first s best found

set_option maxHeartbeats 1600000 in
theorem l1next_any (a : Option Addr) (n c : Nat) (ss : List ByteArray) (s : ByteArray) (first : Bool) (w : World) (h : Strs w a n c ss) :
    Calls Tryz.prog 31 #[.slice a n c, .string s, .bool first] w fun e w' => NextAns ss first s e ∧ w' = w := by
  have hn : n ≤ 9223372036854775807 := by have := h.cap; have := h.small; unfold maxLen at this; omega
  have Hl := hide h.len
  go_enter Tryz.func31, Tryz.ntmps31
  go_wp2
  go_loop [8, 9, 11, 14] (fun b f _ i => ∃ (k : Nat) (best : ByteArray) (found : Bool), k ≤ n ∧ i = .int .i64 k ∧ b = .string best ∧ f = .bool found ∧ IsNext (ss.take k) first s best found) (fun _ _ _ i => n - (intOf i).toNat)
  case atStart => exact ⟨0, _, false, Nat.zero_le _, rfl, rfl, rfl, IsNext.start _ _ _⟩
  case round =>
    obtain ⟨k, best, found, hk, rfl, rfl, rfl, hi⟩ := hrel
    by_cases hlt : k < n
    · obtain ⟨b, off, ha', _, hc⟩ := h.cells k hlt
      subst ha'
      have Ht := hide (take_succ_nth ss k (by have := unhide Hl; omega))
      cases hlq : (Op.bytesLess (nth ss k).toList s.toList || (nth ss k).toList == s.toList)
      · have ho := leq_ok first s (nth ss k) hlq
        have Ho := hide ho
        clear ho
        cases found
        · cases first
          all_goals
            go_wp2
            go_round
            case rel => exact ⟨k + 1, _, true, by omega, by go_num, rfl, rfl, by rw [unhide Ht]; exact hi.take (unhide Ho) (fun h => by cases h)⟩
            case measure => simp [intOf]; omega
        · cases hb : Op.bytesLess (nth ss k).toList best.toList
          · cases first
            all_goals
              go_wp2
              go_round
              case rel => exact ⟨k + 1, _, true, by omega, by go_num, rfl, rfl, by rw [unhide Ht]; exact hi.keep hb⟩
              case measure => simp [intOf]; omega
          · cases first
            all_goals
              go_wp2
              go_round
              case rel => exact ⟨k + 1, _, true, by omega, by go_num, rfl, rfl, by rw [unhide Ht]; exact hi.take (unhide Ho) (fun _ => hb)⟩
              case measure => simp [intOf]; omega
      · cases first
        · have Ho := hide (leq_not false s (nth ss k) rfl hlq)
          go_wp2
          go_round
          case rel => exact ⟨k + 1, _, found, by omega, by go_num, rfl, rfl, by rw [unhide Ht]; exact hi.skip (unhide Ho)⟩
          case measure => simp [intOf]; omega
        · have ho : okB true s (nth ss k) = true := rfl
          have Ho := hide ho
          clear ho
          cases found
          · go_wp2
            go_round
            case rel => exact ⟨k + 1, _, true, by omega, by go_num, rfl, rfl, by rw [unhide Ht]; exact hi.take (unhide Ho) (fun h => by cases h)⟩
            case measure => simp [intOf]; omega
          · cases hb : Op.bytesLess (nth ss k).toList best.toList
            · go_wp2
              go_round
              case rel => exact ⟨k + 1, _, true, by omega, by go_num, rfl, rfl, by rw [unhide Ht]; exact hi.keep hb⟩
              case measure => simp [intOf]; omega
            · go_wp2
              go_round
              case rel => exact ⟨k + 1, _, true, by omega, by go_num, rfl, rfl, by rw [unhide Ht]; exact hi.take (unhide Ho) (fun _ => hb)⟩
              case measure => simp [intOf]; omega
    · have e1 : ss.take k = ss := List.take_of_length_le (by have := unhide Hl; omega)
      rw [e1] at hi
      go_wp2
      go_ret2
      exact ⟨⟨best, found, rfl, hi⟩, rfl⟩

theorem rise_nodup {K : List ByteArray} (h : risB K = true) : K.Nodup := by
  rw [risB, decide_eq_true_eq] at h
  exact h.imp (fun {a b} hab e => by subst e; rw [sl_irrefl] at hab; cases hab)

theorem nodup_le : ∀ (K l : List ByteArray), K.Nodup → (∀ x ∈ K, x ∈ l) → K.length ≤ l.length
  | [], _, _, _ => Nat.zero_le _
  | x :: K, l, hn, hs => by
    obtain ⟨l1, l2, rfl⟩ := List.append_of_mem (hs x (by simp))
    rw [List.nodup_cons] at hn
    have := nodup_le K (l1 ++ l2) hn.2 (fun y hy => by
      have hne : y ≠ x := fun e => hn.1 (by rw [← e]; exact hy)
      have hm := hs y (by simp [hy])
      simp only [List.mem_append, List.mem_cons] at hm ⊢
      rcases hm with h | h | h
      · exact .inl h
      · exact absurd h hne
      · exact .inr h)
    simp only [List.length_append, List.length_cons] at this ⊢
    omega

/-- two rising lists with the same members are one -/
theorem rise_unique : ∀ (K M : List ByteArray), risB K = true → risB M = true → (∀ x, x ∈ K ↔ x ∈ M) → K = M
  | [], [], _, _, _ => rfl
  | [], y :: M, _, _, h => by have := (h y).2 (by simp); cases this
  | x :: K, [], _, _, h => by have := (h x).1 (by simp); cases this
  | x :: K, y :: M, hK, hM, h => by
    rw [risB, decide_eq_true_eq, List.pairwise_cons] at hK hM
    have exy : x = y := by
      rcases List.mem_cons.1 ((h x).1 (by simp)) with e | hx
      · exact e
      · rcases List.mem_cons.1 ((h y).2 (by simp)) with e | hy
        · exact e.symm
        · have h1 := hM.1 x hx
          have h2 := hK.1 y hy
          rw [sl_asymm h1] at h2; cases h2
    subst exy
    congr 1
    refine rise_unique K M (by rw [risB, decide_eq_true_eq]; exact hK.2) (by rw [risB, decide_eq_true_eq]; exact hM.2) fun z => ?_
    constructor
    · intro hz
      rcases List.mem_cons.1 ((h z).1 (by simp [hz])) with e | hz'
      · subst e; have := hK.1 z hz; rw [sl_irrefl] at this; cases this
      · exact hz'
    · intro hz
      rcases List.mem_cons.1 ((h z).2 (by simp [hz])) with e | hz'
      · subst e; have := hM.1 z hz; rw [sl_irrefl] at this; cases this
      · exact hz'

/-- the names of a list, rising -/
structure IsSorted (l K : List ByteArray) : Prop where
  rise : risB K = true
  mem : ∀ x, x ∈ K ↔ x ∈ l

theorem IsSorted.unique {l K M : List ByteArray} (h : IsSorted l K) (k : IsSorted l M) : K = M := rise_unique K M h.rise k.rise fun x => (h.mem x).trans (k.mem x).symm

theorem IsSorted.len {l K : List ByteArray} (h : IsSorted l K) : K.length ≤ l.length := nodup_le K l (rise_nodup h.rise) fun x hx => (h.mem x).1 hx

/-- how far l1sorted is: all that is less than s has been taken -/
structure Upto (l K : List ByteArray) (s : ByteArray) (ok : Bool) : Prop where
  rise : risB K = true
  yes : ok = true → s ∈ l ∧ ∀ x, x ∈ K ↔ x ∈ l ∧ sl x s = true
  no : ok = false → ∀ x, x ∈ K ↔ x ∈ l

theorem Upto.start {l : List ByteArray} {t s : ByteArray} {ok : Bool} (h : IsNext l true t s ok) : Upto l [] s ok := by
  refine ⟨rfl, fun hk => ⟨(h.yes hk).1, fun x => ⟨(fun hx => by cases hx), fun ⟨hx, hl⟩ => ?_⟩⟩, fun hk x => ⟨(fun hx => by cases hx), fun hx => ?_⟩⟩
  · have := (h.yes hk).2.2 x hx rfl
    rw [this] at hl; cases hl
  · have := h.no hk x hx
    cases this

theorem sl_cases (x s : ByteArray) : sl x s = true ∨ x = s ∨ sl s x = true := by
  cases h1 : sl x s with
  | true => exact .inl rfl
  | false => cases h2 : sl s x with
    | true => exact .inr (.inr rfl)
    | false => exact .inr (.inl (sl_tri _ _ h1 h2))

theorem Upto.step {l K : List ByteArray} {s s' : ByteArray} {ok : Bool} (h : Upto l K s true) (k : IsNext l false s s' ok) : Upto l (K ++ [s]) s' ok := by
  obtain ⟨hs, hm⟩ := h.yes rfl
  have rise : risB (K ++ [s]) = true := by
    rw [risB, decide_eq_true_eq, List.pairwise_append]
    refine ⟨by have := h.rise; rwa [risB, decide_eq_true_eq] at this, by simp, fun x hx y hy => ?_⟩
    simp only [List.mem_singleton] at hy; subst hy
    exact ((hm x).1 hx).2
  refine ⟨rise, fun hk => ?_, fun hk => ?_⟩
  · obtain ⟨h1, h2, h3⟩ := k.yes hk
    have hss : sl s s' = true := by simpa [okB] using h2
    refine ⟨h1, fun x => ⟨fun hx => ?_, fun ⟨hx, hl⟩ => ?_⟩⟩
    · rcases List.mem_append.1 hx with hx | hx
      · exact ⟨((hm x).1 hx).1, sl_trans ((hm x).1 hx).2 hss⟩
      · simp only [List.mem_singleton] at hx; subst hx; exact ⟨hs, hss⟩
    · rcases sl_cases x s with hc | hc | hc
      · exact List.mem_append_left _ ((hm x).2 ⟨hx, hc⟩)
      · subst hc; simp
      · have := h3 x hx (by simpa [okB] using hc)
        rw [this] at hl; cases hl
  · intro x
    constructor
    · intro hx
      rcases List.mem_append.1 hx with hx | hx
      · exact ((hm x).1 hx).1
      · simp only [List.mem_singleton] at hx; subst hx; exact hs
    · intro hx
      rcases sl_cases x s with hc | hc | hc
      · exact List.mem_append_left _ ((hm x).2 ⟨hx, hc⟩)
      · subst hc; simp
      · have := k.no hk x hx
        simp [okB, hc] at this

theorem Upto.lt {l K : List ByteArray} {s : ByteArray} (h : Upto l K s true) : K.length < l.length := by
  obtain ⟨hs, hm⟩ := h.yes rfl
  have hn : s ∉ K := fun hk => by have := ((hm s).1 hk).2; rw [sl_irrefl] at this; cases this
  have := nodup_le (s :: K) l (List.nodup_cons.2 ⟨hn, rise_nodup h.rise⟩) (fun x hx => by
    rcases List.mem_cons.1 hx with e | hx
    · subst e; exact hs
    · exact ((hm x).1 hx).1)
  simp only [List.length_cons] at this
  omega

def lenOf : Value → Nat | .slice _ n _ => n | _ => 0

/-- what l1sorted answers -/
def SortAns (w : World) (ss : List ByteArray) (e : Ending) (w' : World) : Prop :=
  ∃ x cx K, e = .returned (.slice x K.length cx) ∧ w'.ownsRow w.heap.size 9 1 (.slice x K.length cx) K.length (K.map Value.string) ∧ Below w.heap.size w w' ∧ IsSorted ss K

set_option maxHeartbeats 1600000 in
theorem l1sorted_any (a : Option Addr) (n c : Nat) (ss : List ByteArray) (w : World) (h : Strs w a n c ss) (hsm : n ≤ 1048576) :
    Calls Tryz.prog 16 #[.slice a n c] w fun e w' => SortAns w ss e w' := by
  obtain ⟨i, hi, hz0, hz1, hz2⟩ := info_parts infoS
  have Hl := hide h.len
  go_enter Tryz.func16, Tryz.ntmps16
  go_wp2_with fail
  refine (l1next_any _ _ _ _ _ _ _ h).mono ?_
  rintro e w1 ⟨⟨best, found, rfl, hnx⟩, hw1⟩
  rw [hw1]
  clear hw1
  have hst := Upto.start hnx
  clear hnx
  go_wp2_with fail
  go_loopw [3, 4, 5] (fun v s ok wr => ∃ (K : List ByteArray) (t : ByteArray) (q : Bool) (x : Option Addr) (cx : Nat), s = .string t ∧ ok = .bool q ∧ v = .slice x K.length cx ∧ wr.ownsRow w.heap.size 9 1 (.slice x K.length cx) K.length (K.map Value.string) ∧ Upto ss K t q ∧ Below w.heap.size w wr) (fun v _ _ _ => n - lenOf v)
  case atStart => exact ⟨[], best, found, none, 0, rfl, rfl, rfl, World.ownsRow_nil _ _ _ _, hst, Below.refl _ _⟩
  case round =>
    obtain ⟨K, t, q, x, cx, rfl, rfl, rfl, hown, hu, hb⟩ := hrel
    cases q
    · go_wp2
      go_ret
      exact ⟨x, cx, K, rfl, hown, hb, ⟨hu.rise, hu.no rfl⟩⟩
    · have hlt : K.length < n := by have := hu.lt; have := unhide Hl; omega
      have hbs := hb.size
      go_wp2_with (at_builtin; refine wpList_append_own _ rfl _ _ 47 rfl w.heap.size 9 i (.string ByteArray.empty) 1 16 Tryz.underlying47 hi hz0 hz1 hz2 rfl (by decide) _ _ _ rfl (hown.alloc _) ⟨wr.heap.size, 0, none⟩ 1 1 [.string t] rfl rfl ?c1 ?c2 ?c3 ?c4 ?c5 ?_)
      case c1 => exact cell_one_new _ _ _
      case c2 => intro u hu; simp at hu; subst hu; rfl
      case c3 => unfold maxLen; omega
      case c4 => omega
      case c5 => simp; omega
      intro v' w1 hown' hgrow _
      have hb1 : Below w.heap.size w w1 := (hb.alloc hbs _).grown hgrow (by simp; omega) (fun k hk => (hown.lt k hk).1)
      obtain ⟨x', cx', hf⟩ := owns_form hown'
      rw [hf] at hown' ⊢
      clear hgrow hown hf
      go_wp2_with fail
      refine (l1next_any _ _ _ _ _ _ _ (h.below hb1 (Nat.le_refl _))).mono ?_
      rintro e w2 ⟨⟨best', found', rfl, hnx⟩, hw2⟩
      rw [hw2]
      clear hw2
      have hu' := hu.step hnx
      clear hnx hu
      go_wp2
      go_roundw
      case rel => exact ⟨K ++ [t], best', found', x', cx', rfl, rfl, by rw [List.length_append]; rfl, by rw [List.map_append, List.length_append]; exact hown', hu', hb1⟩
      case measure => simp [lenOf]; omega

end Go.Proofs.YtcehablmloleaaaGreatDoor

namespace Go.Proofs.YtcehablmloleaaaGreatDoor
open Go.RowKit Go.Lib

theorem ofL_inj {x y : List UInt8} (h : ofL x = ofL y) : x = y := by rw [← toL_ofL x, h, toL_ofL]

theorem sl_ofL (x y : List UInt8) : sl (ofL x) (ofL y) = true ↔ x < y := by rw [sl_iff]; simp [ofL]

theorem le_ofL (x y : List UInt8) : x ≤ y ↔ sl (ofL y) (ofL x) = false := by
  rw [Bool.eq_false_iff, Ne, sl_ofL]
  exact List.not_lt.symm

theorem le_trans3 {x y z : ByteArray} (h : sl y x = false) (k : sl z y = false) : sl z x = false := by
  rw [Bool.eq_false_iff]
  intro hc
  rcases sl_cases y z with h1 | h1 | h1
  · rw [sl_trans h1 hc] at h; cases h
  · subst h1; rw [hc] at h; cases h
  · rw [h1] at k; cases k

theorem sort_rise (zs : List (List UInt8)) : (zs.mergeSort fun x y => decide (x ≤ y)).Pairwise fun x y => sl (ofL y) (ofL x) = false := by
  have := List.pairwise_mergeSort (le := fun x y : List UInt8 => decide (x ≤ y)) (fun a b c h k => by
    rw [decide_eq_true_eq, le_ofL] at h k ⊢
    exact le_trans3 h k) (fun a b => by
    rw [Bool.or_eq_true, decide_eq_true_eq, decide_eq_true_eq, le_ofL, le_ofL]
    cases h : sl (ofL b) (ofL a) with
    | false => exact .inl rfl
    | true => exact .inr (sl_asymm h)) zs
  exact this.imp fun {a b} h => by rwa [decide_eq_true_eq, le_ofL] at h

theorem compact_to (d : Array (List UInt8)) (hd : ∀ i j, i ≤ j → j < d.size → sl (ofL d[j]!) (ofL d[i]!) = false) :
    ∀ m, m ≤ d.size → risB ((compactUpTo d m).map ofL) = true ∧ ∀ x, x ∈ compactUpTo d m ↔ ∃ j, j < m ∧ d[j]! = x
  | 0, _ => ⟨rfl, fun x => ⟨fun h => by simp [compactUpTo] at h, fun ⟨j, hj, _⟩ => by omega⟩⟩
  | m + 1, hm => by
    obtain ⟨h1, h2⟩ := compact_to d hd m (by omega)
    rw [compactUpTo_succ]
    cases hk : keeps d m with
    | true =>
      rw [if_pos rfl]
      refine ⟨?_, fun x => ?_⟩
      · rw [risB, decide_eq_true_eq] at h1 ⊢
        rw [List.map_append, List.pairwise_append]
        refine ⟨h1, by simp, fun a ha b hb => ?_⟩
        simp only [List.map_cons, List.map_nil, List.mem_singleton] at hb
        subst hb
        obtain ⟨x, hx, rfl⟩ := List.mem_map.1 ha
        obtain ⟨j, hj, rfl⟩ := (h2 x).1 hx
        simp only [keeps, decide_eq_true_eq] at hk
        have hne : d[m]! ≠ d[m - 1]! := by
          rcases hk with hk | hk
          · omega
          · exact hk
        rcases sl_cases (ofL d[j]!) (ofL d[m]!) with h | h | h
        · exact h
        · exfalso
          have a1 := hd j (m - 1) (by omega) (by omega)
          rw [h] at a1
          have a2 := hd (m - 1) m (by omega) (by omega)
          exact hne (ofL_inj (sl_tri _ _ a2 a1))
        · have := hd j m (by omega) (by omega)
          rw [h] at this; cases this
      · rw [List.mem_append, h2, List.mem_singleton]
        constructor
        · rintro (⟨j, hj, e⟩ | e)
          · exact ⟨j, by omega, e⟩
          · exact ⟨m, by omega, e.symm⟩
        · rintro ⟨j, hj, e⟩
          by_cases hjm : j = m
          · subst hjm; exact .inr e.symm
          · exact .inl ⟨j, by omega, e⟩
    | false =>
      rw [if_neg (by simp), List.append_nil]
      refine ⟨h1, fun x => ?_⟩
      rw [h2]
      simp only [keeps, decide_eq_false_iff_not, not_or, Classical.not_not] at hk
      constructor
      · rintro ⟨j, hj, e⟩
        exact ⟨j, by omega, e⟩
      · rintro ⟨j, hj, e⟩
        by_cases hjm : j = m
        · subst hjm; exact ⟨j - 1, by omega, by rw [← hk.2]; exact e⟩
        · exact ⟨j, by omega, e⟩

/-- sorted, and of equal ones one -/
def sortL (ss : List ByteArray) : List (List UInt8) := Lib.compact ((ss.map toL).mergeSort fun x y => decide (x ≤ y))

theorem sortL_sorted (ss : List ByteArray) : IsSorted ss ((sortL ss).map ofL) := by
  unfold sortL Lib.compact
  generalize hz : ((ss.map toL).mergeSort fun x y => decide (x ≤ y)) = zs
  have hr := sort_rise (ss.map toL)
  rw [hz] at hr
  obtain ⟨h1, h2⟩ := compact_to zs.toArray (fun i j hij hj => by
    have hj' : j < zs.length := by simpa using hj
    have hi' : i < zs.length := by omega
    rw [getElem!_pos _ j hj, getElem!_pos _ i (by simpa using hi')]
    simp only [List.getElem_toArray]
    by_cases e : i = j
    · subst e; exact sl_irrefl _
    · exact List.pairwise_iff_getElem.1 hr i j hi' hj' (by omega)) zs.length (by simp)
  refine ⟨h1, fun x => ?_⟩
  rw [List.mem_map]
  have hm : ∀ y, y ∈ zs ↔ y ∈ ss.map toL := fun y => by rw [← hz, List.mem_mergeSort]
  constructor
  · rintro ⟨y, hy, rfl⟩
    obtain ⟨j, hj, e⟩ := (h2 y).1 hy
    rw [getElem!_pos _ j (by simpa using hj)] at e
    simp only [List.getElem_toArray] at e
    have : y ∈ zs := by rw [← e]; exact List.getElem_mem hj
    obtain ⟨s, hs, rfl⟩ := List.mem_map.1 ((hm y).1 this)
    rw [ofL_toL]; exact hs
  · intro hx
    have : toL x ∈ zs := (hm _).2 (List.mem_map.2 ⟨x, hx, rfl⟩)
    obtain ⟨j, hj, e⟩ := List.getElem_of_mem this
    refine ⟨toL x, (h2 _).2 ⟨j, hj, ?_⟩, ofL_toL x⟩
    rw [getElem!_pos _ j (by simpa using hj)]
    simpa using e

theorem enc_toL (ss : List ByteArray) : ((ss.map toL).map fun l => Value.string ⟨l.toArray⟩) = ss.map Value.string := by
  rw [List.map_map]
  apply List.map_congr_left
  intro s _
  cases s
  simp [toL]

theorem enc_ofL (ts : List (List UInt8)) : (ts.map ofL).map Value.string = ts.map fun l => Value.string ⟨l.toArray⟩ := by
  rw [List.map_map]; rfl

end Go.Proofs.YtcehablmloleaaaGreatDoor
