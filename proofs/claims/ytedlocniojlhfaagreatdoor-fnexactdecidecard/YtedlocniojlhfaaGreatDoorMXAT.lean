/-
  JK, JL, ZJ, JN, ZK. Own work.
-/
import Derived.Test.YtedlocniojlhfaaGreatDoorJR
import Derived.Test.YtedlocniojlhfaaGreatDoorMXAS
import Derived.Test.YtedlocniojlhfaaGreatDoorMXAP
import Derived.Test.YtedlocniojlhfaaGreatDoorMXAF
namespace Go.Proofs.YtedlocniojlhfaaGreatDoor
open Go.RowKit
set_option linter.unusedVariables false

abbrev CkS:=List ByteArray × List Int × List Int

open Classical in
noncomputable def ckE (kd:Int) (nm:ByteArray) (st:CkS) (ot:Option Int) (ys:List Int):Option CkS :=
 if kd=1 then (match ot with | some t=>if nm∈st.1 then none else some (st.1++[nm],st.2.1++[t],st.2.2++ys) | none=>none)
 else (match ot with | some t=>if t=1 then some (st.1,st.2.1,st.2.2++ys) else none | none=>none)

def ckG (st:CkS) (ot:Option Int) (ys:List Int):Option CkS:=match ot with | some t=>if t=4 then some (st.1,st.2.1,st.2.2++ys) else none | none=>none

noncomputable def ckCond (Es:List Ex) (st:CkS) (s:St):Option CkS:=if s.cond=-1 then some st else match Es[s.cond.toNat]? with
 | some e=>ckE s.kind s.name st (tyE st.2.1 e) (tysE st.2.1 e)
 | none=>none

def ckGrant (Es:List Ex) (st:CkS) (s:St):Option CkS:=if s.grant=-1 then some st else match Es[s.grant.toNat]? with
 | some e=>ckG st (tyE st.2.1 e) (tysE st.2.1 e)
 | none=>none

def okP (Es:List Ex) (k:Int):Prop:=k=-1∨∃ (m:Nat) (e:Ex),k=m∧Es[m]?=some e∧e.typed∧e.cnt≤4000

theorem formV_opt (Es:List Ex) (k:Int):formV (optV Es k):=by
 rw [optV]
 split
 ·exact .inl rfl
 ·split
  ·exact .inr (Ex.form _)
  ·exact .inl rfl

theorem condition_tree (B cb mb:Nat) (st:CkS) (lv tv:Value) (w0:World) (aT aN aA:Addr) (hV:Vok w0 aT) (hE:Eok w0 aN aA) (hB:w0.heap.size≤B) (hts:∀ t∈st.2.1,1≤t∧t≤4) (hl:st.2.1.length≤1000) (j:Nat) (kd:Int) (nm:ByteArray) (gv:Value) (hg:formV gv) (e:Ex) (he:e.typed) (w:World) (hw:Below B w0 w) (h:Cm B cb mb st.1 st.2.1 st.2.2 lv tv w) (hz:st.2.2.length+e.cnt≤4000) :
  Calls Tryz.prog 80 #[.pointer (some ⟨cb,0,none⟩),.agg #[.int .i64 j,.int .i64 kd,.string nm,e.val,gv]] w (GoAns B cb mb lv tv (ckE kd nm st (tyE st.2.1 e) (tysE st.2.1 e)) w):=by
 have V:=hide (typeOf_any B cb st.2.1 (.map (some mb)) lv w0 aT aN aA hV hE hB hts (by omega) e he)
 rw [← tysE_len st.2.1 e] at hz
 generalize tysE st.2.1 e=ys at V hz ⊢
 generalize tyE st.2.1 e=ot at V ⊢
 by_cases hk:kd=1
 ·subst hk
  unfold ckE
  rw [if_pos rfl]
  cases e with
  | int i n=>cases ot <;> exact condition_let_leaf B cb mb st.1 st.2.1 st.2.2 lv tv w0 aT aN aA hV hE hB j nm _ _ i (place_int i n) gv hg _ _ V w hw h hz hl
  | text i s=>cases ot <;> exact condition_let_leaf B cb mb st.1 st.2.1 st.2.2 lv tv w0 aT aN aA hV hE hB j nm _ _ i (place_text i s) gv hg _ _ V w hw h hz hl
  | bool i b=>cases ot <;> exact condition_let_leaf B cb mb st.1 st.2.1 st.2.2 lv tv w0 aT aN aA hV hE hB j nm _ _ i (place_bool i b) gv hg _ _ V w hw h hz hl
  | set i a n c ss=>cases ot <;> exact condition_let_leaf B cb mb st.1 st.2.1 st.2.2 lv tv w0 aT aN aA hV hE hB j nm _ _ i (place_set i a n c) gv hg _ _ V w hw h hz hl
  | attr i n=>cases ot <;> exact condition_let_leaf B cb mb st.1 st.2.1 st.2.2 lv tv w0 aT aN aA hV hE hB j nm _ _ i (place_attr i n) gv hg _ _ V w hw h hz hl
  | lett i n=>cases ot <;> exact condition_let_leaf B cb mb st.1 st.2.1 st.2.2 lv tv w0 aT aN aA hV hE hB j nm _ _ i (place_lett i n) gv hg _ _ V w hw h hz hl
  | name i s=>exact absurd he id
  | un i op k =>
   obtain ⟨tk,uk,vk⟩:=k.form
   simp only [Ex.val,vk] at V ⊢
   cases ot <;> exact condition_let_un B cb mb st.1 st.2.1 st.2.2 lv tv w0 aT aN aA hV hE hB j nm i op tk uk gv hg _ _ V w hw h hz hl
  | bin i op k l =>
   obtain ⟨tk,uk,vk⟩:=k.form
   obtain ⟨tl,ul,vl⟩:=l.form
   simp only [Ex.val,vk,vl] at V ⊢
   cases ot <;> exact condition_let_bin B cb mb st.1 st.2.1 st.2.2 lv tv w0 aT aN aA hV hE hB j nm i op tk uk tl ul gv hg _ _ V w hw h hz hl
  | ite i k l m =>
   obtain ⟨tk,uk,vk⟩:=k.form
   obtain ⟨tl,ul,vl⟩:=l.form
   obtain ⟨tm,um,vm⟩:=m.form
   simp only [Ex.val,vk,vl,vm] at V ⊢
   cases ot <;> exact condition_let_ite B cb mb st.1 st.2.1 st.2.2 lv tv w0 aT aN aA hV hE hB j nm i tk uk tl ul tm um gv hg _ _ V w hw h hz hl
 ·unfold ckE
  rw [if_neg hk]
  have hk2:(kd == 1)=false:=beq_eq_false_iff_ne.2 hk
  cases e with
  | int i n=>cases ot <;> exact condition_when_leaf B cb mb st.1 st.2.1 st.2.2 lv tv w0 aT aN aA hV hE hB j kd hk2 nm _ _ i (place_int i n) gv hg _ _ V w hw h hz hl
  | text i s=>cases ot <;> exact condition_when_leaf B cb mb st.1 st.2.1 st.2.2 lv tv w0 aT aN aA hV hE hB j kd hk2 nm _ _ i (place_text i s) gv hg _ _ V w hw h hz hl
  | bool i b=>cases ot <;> exact condition_when_leaf B cb mb st.1 st.2.1 st.2.2 lv tv w0 aT aN aA hV hE hB j kd hk2 nm _ _ i (place_bool i b) gv hg _ _ V w hw h hz hl
  | set i a n c ss=>cases ot <;> exact condition_when_leaf B cb mb st.1 st.2.1 st.2.2 lv tv w0 aT aN aA hV hE hB j kd hk2 nm _ _ i (place_set i a n c) gv hg _ _ V w hw h hz hl
  | attr i n=>cases ot <;> exact condition_when_leaf B cb mb st.1 st.2.1 st.2.2 lv tv w0 aT aN aA hV hE hB j kd hk2 nm _ _ i (place_attr i n) gv hg _ _ V w hw h hz hl
  | lett i n=>cases ot <;> exact condition_when_leaf B cb mb st.1 st.2.1 st.2.2 lv tv w0 aT aN aA hV hE hB j kd hk2 nm _ _ i (place_lett i n) gv hg _ _ V w hw h hz hl
  | name i s=>exact absurd he id
  | un i op k =>
   obtain ⟨tk,uk,vk⟩:=k.form
   simp only [Ex.val,vk] at V ⊢
   cases ot <;> exact condition_when_un B cb mb st.1 st.2.1 st.2.2 lv tv w0 aT aN aA hV hE hB j kd hk2 nm i op tk uk gv hg _ _ V w hw h hz hl
  | bin i op k l =>
   obtain ⟨tk,uk,vk⟩:=k.form
   obtain ⟨tl,ul,vl⟩:=l.form
   simp only [Ex.val,vk,vl] at V ⊢
   cases ot <;> exact condition_when_bin B cb mb st.1 st.2.1 st.2.2 lv tv w0 aT aN aA hV hE hB j kd hk2 nm i op tk uk tl ul gv hg _ _ V w hw h hz hl
  | ite i k l m =>
   obtain ⟨tk,uk,vk⟩:=k.form
   obtain ⟨tl,ul,vl⟩:=l.form
   obtain ⟨tm,um,vm⟩:=m.form
   simp only [Ex.val,vk,vl,vm] at V ⊢
   cases ot <;> exact condition_when_ite B cb mb st.1 st.2.1 st.2.2 lv tv w0 aT aN aA hV hE hB j kd hk2 nm i tk uk tl ul tm um gv hg _ _ V w hw h hz hl

theorem grant_tree (B cb mb:Nat) (st:CkS) (lv tv:Value) (w0:World) (aT aN aA:Addr) (hV:Vok w0 aT) (hE:Eok w0 aN aA) (hB:w0.heap.size≤B) (hts:∀ t∈st.2.1,1≤t∧t≤4) (hl:st.2.1.length≤1000) (j:Nat) (kd:Int) (nm:ByteArray) (gv:Value) (hg:formV gv) (e:Ex) (he:e.typed) (w:World) (hw:Below B w0 w) (h:Cm B cb mb st.1 st.2.1 st.2.2 lv tv w) (hz:st.2.2.length+e.cnt≤4000) :
  Calls Tryz.prog 81 #[.pointer (some ⟨cb,0,none⟩),.agg #[.int .i64 j,.int .i64 kd,.string nm,gv,e.val]] w (GoAns B cb mb lv tv (ckG st (tyE st.2.1 e) (tysE st.2.1 e)) w):=by
 have V:=hide (typeOf_any B cb st.2.1 (.map (some mb)) lv w0 aT aN aA hV hE hB hts (by omega) e he)
 rw [← tysE_len st.2.1 e] at hz
 generalize tysE st.2.1 e=ys at V hz ⊢
 generalize tyE st.2.1 e=ot at V ⊢
 unfold ckG
 cases e with
 | int i n=>cases ot <;> exact grant_leaf B cb mb st.1 st.2.1 st.2.2 lv tv w0 aT aN aA hV hE hB j kd nm _ _ i (place_int i n) gv hg _ _ V w hw h hz
 | text i s=>cases ot <;> exact grant_leaf B cb mb st.1 st.2.1 st.2.2 lv tv w0 aT aN aA hV hE hB j kd nm _ _ i (place_text i s) gv hg _ _ V w hw h hz
 | bool i b=>cases ot <;> exact grant_leaf B cb mb st.1 st.2.1 st.2.2 lv tv w0 aT aN aA hV hE hB j kd nm _ _ i (place_bool i b) gv hg _ _ V w hw h hz
 | set i a n c ss=>cases ot <;> exact grant_leaf B cb mb st.1 st.2.1 st.2.2 lv tv w0 aT aN aA hV hE hB j kd nm _ _ i (place_set i a n c) gv hg _ _ V w hw h hz
 | attr i n=>cases ot <;> exact grant_leaf B cb mb st.1 st.2.1 st.2.2 lv tv w0 aT aN aA hV hE hB j kd nm _ _ i (place_attr i n) gv hg _ _ V w hw h hz
 | lett i n=>cases ot <;> exact grant_leaf B cb mb st.1 st.2.1 st.2.2 lv tv w0 aT aN aA hV hE hB j kd nm _ _ i (place_lett i n) gv hg _ _ V w hw h hz
 | name i s=>exact absurd he id
 | un i op k =>
  obtain ⟨tk,uk,vk⟩:=k.form
  simp only [Ex.val,vk] at V ⊢
  cases ot <;> exact grant_un B cb mb st.1 st.2.1 st.2.2 lv tv w0 aT aN aA hV hE hB j kd nm i op tk uk gv hg _ _ V w hw h hz
 | bin i op k l =>
  obtain ⟨tk,uk,vk⟩:=k.form
  obtain ⟨tl,ul,vl⟩:=l.form
  simp only [Ex.val,vk,vl] at V ⊢
  cases ot <;> exact grant_bin B cb mb st.1 st.2.1 st.2.2 lv tv w0 aT aN aA hV hE hB j kd nm i op tk uk tl ul gv hg _ _ V w hw h hz
 | ite i k l m =>
  obtain ⟨tk,uk,vk⟩:=k.form
  obtain ⟨tl,ul,vl⟩:=l.form
  obtain ⟨tm,um,vm⟩:=m.form
  simp only [Ex.val,vk,vl,vm] at V ⊢
  cases ot <;> exact grant_ite B cb mb st.1 st.2.1 st.2.2 lv tv w0 aT aN aA hV hE hB j kd nm i tk uk tl ul tm um gv hg _ _ V w hw h hz

theorem condition_any (B cb mb:Nat) (st:CkS) (lv tv:Value) (w0:World) (aT aN aA:Addr) (hV:Vok w0 aT) (hE:Eok w0 aN aA) (hB:w0.heap.size≤B) (hts:∀ t∈st.2.1,1≤t∧t≤4) (hl:st.2.1.length≤1000) (Es:List Ex) (j:Nat) (s:St) (hs:okP Es s.cond) (w:World) (hw:Below B w0 w) (h:Cm B cb mb st.1 st.2.1 st.2.2 lv tv w) (hz:∀ m e,s.cond=(m:Nat)→Es[m]?=some e→st.2.2.length+e.cnt≤4000) :
  Calls Tryz.prog 80 #[.pointer (some ⟨cb,0,none⟩),.agg #[.int .i64 j,.int .i64 s.kind,.string s.name,optV Es s.cond,optV Es s.grant]] w (GoAns B cb mb lv tv (ckCond Es st s) w):=by
 have hg:=formV_opt Es s.grant
 rcases hs with e1 | ⟨m,e,e1,e2,e3,_⟩
 ·rw [ckCond,if_pos e1,e1,optV_none]
  exact condition_none B cb mb st.1 st.2.1 st.2.2 lv tv j s.kind s.name _ hg w h
 ·have z:=hz m e e1 e2
  have eo:optV Es s.cond=e.val:=by rw [e1,optV,if_neg (by omega),Int.toNat_natCast,e2]
  rw [ckCond,if_neg (by omega),e1,Int.toNat_natCast,e2,← e1,eo]
  exact condition_tree B cb mb st lv tv w0 aT aN aA hV hE hB hts hl j s.kind s.name _ hg e e3 w hw h z

theorem grant_any (B cb mb:Nat) (st:CkS) (lv tv:Value) (w0:World) (aT aN aA:Addr) (hV:Vok w0 aT) (hE:Eok w0 aN aA) (hB:w0.heap.size≤B) (hts:∀ t∈st.2.1,1≤t∧t≤4) (hl:st.2.1.length≤1000) (Es:List Ex) (j:Nat) (s:St) (hs:okP Es s.grant) (w:World) (hw:Below B w0 w) (h:Cm B cb mb st.1 st.2.1 st.2.2 lv tv w) (hz:∀ m e,s.grant=(m:Nat)→Es[m]?=some e→st.2.2.length+e.cnt≤4000) :
  Calls Tryz.prog 81 #[.pointer (some ⟨cb,0,none⟩),.agg #[.int .i64 j,.int .i64 s.kind,.string s.name,optV Es s.cond,optV Es s.grant]] w (GoAns B cb mb lv tv (ckGrant Es st s) w):=by
 have hg:=formV_opt Es s.cond
 rcases hs with e1 | ⟨m,e,e1,e2,e3,_⟩
 ·rw [ckGrant,if_pos e1,e1,optV_none]
  exact grant_none B cb mb st.1 st.2.1 st.2.2 lv tv j s.kind s.name _ hg w h
 ·have z:=hz m e e1 e2
  have eo:optV Es s.grant=e.val:=by rw [e1,optV,if_neg (by omega),Int.toNat_natCast,e2]
  rw [ckGrant,if_neg (by omega),e1,Int.toNat_natCast,e2,← e1,eo]
  exact grant_tree B cb mb st lv tv w0 aT aN aA hV hE hB hts hl j s.kind s.name _ hg e e3 w hw h z

noncomputable def ckStep (Es:List Ex) (st:CkS) (s:St):Option CkS:=(ckCond Es st s).bind fun st1=>ckGrant Es st1 s

noncomputable def ckAll (Es:List Ex):CkS→List St→Option CkS
 | st,[]=>some st
 | st,s::L=>(ckStep Es st s).bind fun st1=>ckAll Es st1 L

theorem ckAll_snoc (Es:List Ex) (s:St):∀ (L:List St) (st:CkS),ckAll Es st (L++[s])=(ckAll Es st L).bind fun st1=>ckStep Es st1 s
 | [],st=>by simp only [List.nil_append,ckAll,Option.bind_some];cases ckStep Es st s <;> rfl
 | x::L,st=>by
  rw [List.cons_append,ckAll,ckAll]
  cases ckStep Es st x with
  | none=>rfl
  | some st1=>exact ckAll_snoc Es s L st1

theorem ckAll_app (Es:List Ex):∀ (L M:List St) (st:CkS),ckAll Es st (L++M)=(ckAll Es st L).bind fun st1=>ckAll Es st1 M
 | [],M,st=>rfl
 | x::L,M,st=>by
  rw [List.cons_append,ckAll,ckAll]
  cases ckStep Es st x with
  | none=>rfl
  | some st1=>exact ckAll_app Es L M st1

theorem ckAll_none (Es:List Ex) (L:List St) (st:CkS) (k:Nat) (h:ckAll Es st (L.take k)=none):ckAll Es st L=none:=by
 have e:=ckAll_app Es (L.take k) (L.drop k) st
 rw [List.take_append_drop,h] at e
 exact e

def cntP (Es:List Ex) (k:Int):Nat:=if k=-1 then 0 else match Es[k.toNat]? with
 | some e=>e.cnt
 | none=>0

def cntL (Es:List Ex) (L:List St):Nat:=(L.map fun s=>cntP Es s.cond+cntP Es s.grant).sum

theorem ckCond_len {Es:List Ex} {st st1:CkS} {s:St} (h:ckCond Es st s=some st1):st1.2.2.length=st.2.2.length+cntP Es s.cond∧st1.2.1.length≤st.2.1.length+1∧((∀ t∈st.2.1,1≤t∧t≤4)→∀ t∈st1.2.1,1≤t∧t≤4):=by
 rw [ckCond] at h
 rw [cntP]
 by_cases e1:s.cond=-1
 ·rw [if_pos e1] at h ⊢
  cases h
  exact ⟨rfl,Nat.le_succ _,id⟩
 ·rw [if_neg e1] at h ⊢
  cases he:Es[s.cond.toNat]? with
  | none=>rw [he] at h;cases h
  | some e =>
   rw [he] at h
   simp only [ckE] at h
   have hl:=tysE_len st.2.1 e
   by_cases hk:s.kind=1
   ·rw [if_pos hk] at h
    cases ht:tyE st.2.1 e with
    | none=>rw [ht] at h;cases h
    | some t =>
     rw [ht] at h
     dsimp only at h
     split at h
     ·cases h
     ·cases h
      refine ⟨by simp [hl],by simp,fun hin x hx=>?_⟩
      rcases List.mem_append.1 hx with hx | hx
      ·exact hin x hx
      ·simp at hx;subst hx;exact tyE_in hin e x ht
   ·rw [if_neg hk] at h
    cases ht:tyE st.2.1 e with
    | none=>rw [ht] at h;cases h
    | some t =>
     rw [ht] at h
     dsimp only at h
     split at h
     ·cases h
      exact ⟨by simp [hl],Nat.le_succ _,id⟩
     ·cases h

theorem ckGrant_len {Es:List Ex} {st st1:CkS} {s:St} (h:ckGrant Es st s=some st1):st1.2.2.length=st.2.2.length+cntP Es s.grant∧st1.2.1=st.2.1:=by
 rw [ckGrant] at h
 rw [cntP]
 by_cases e1:s.grant=-1
 ·rw [if_pos e1] at h ⊢
  cases h
  exact ⟨rfl,rfl⟩
 ·rw [if_neg e1] at h ⊢
  cases he:Es[s.grant.toNat]? with
  | none=>rw [he] at h;cases h
  | some e =>
   rw [he] at h
   simp only [ckG] at h
   have hl:=tysE_len st.2.1 e
   cases ht:tyE st.2.1 e with
   | none=>rw [ht] at h;cases h
   | some t =>
    rw [ht] at h
    dsimp only at h
    split at h
    ·cases h
     exact ⟨by simp [hl],rfl⟩
    ·cases h

theorem ckAll_len {Es:List Ex}:∀ {L:List St} {st st1:CkS},ckAll Es st L=some st1→st1.2.2.length=st.2.2.length+cntL Es L∧st1.2.1.length≤st.2.1.length+L.length∧((∀ t∈st.2.1,1≤t∧t≤4)→∀ t∈st1.2.1,1≤t∧t≤4)
 | [],st,st1,h=>by cases h;exact ⟨by simp [cntL],by simp,id⟩
 | s::L,st,st1,h=>by
  rw [ckAll,ckStep] at h
  cases h1:ckCond Es st s with
  | none=>rw [h1] at h;cases h
  | some s1 =>
   rw [h1] at h
   change ((ckGrant Es s1 s).bind fun st1=>ckAll Es st1 L)=some st1 at h
   cases h2:ckGrant Es s1 s with
   | none=>rw [h2] at h;cases h
   | some s2 =>
    rw [h2] at h
    obtain ⟨a1,a2,a3⟩:=ckCond_len h1
    obtain ⟨b1,b2⟩:=ckGrant_len h2
    obtain ⟨c1,c2,c3⟩:=ckAll_len (show ckAll Es s2 L=some st1 from h)
    have e:cntL Es (s::L)=cntP Es s.cond+cntP Es s.grant+cntL Es L:=by simp [cntL]
    refine ⟨by rw [e];omega,by rw [b2] at c2;simp;omega,fun hin=>c3 (by rw [b2];exact a3 hin)⟩

end Go.Proofs.YtedlocniojlhfaaGreatDoor

namespace Go.Proofs.YtedlocniojlhfaaGreatDoor
set_option maxRecDepth 100000
set_option maxHeartbeats 3200000
open Go.RowKit
set_option linter.unusedVariables false

theorem cntL_room (Es:List Ex) (L:List St) (k:Nat) (h:k<L.length):cntL Es (L.take k)+(cntP Es L[k].cond+cntP Es L[k].grant)≤cntL Es L:=by
 have e:L=L.take k++(L[k]::L.drop (k+1)):=by rw [List.getElem_cons_drop,List.take_append_drop]
 have e2:=congrArg (cntL Es) e
 simp only [cntL,List.map_append,List.map_cons,List.sum_append,List.sum_cons] at e2 ⊢
 omega

theorem cntP_at {Es:List Ex} {k:Int} {m:Nat} {e:Ex} (h:k=(m:Nat)) (he:Es[m]?=some e):cntP Es k=e.cnt:=by
 rw [cntP,if_neg (by omega),h,Int.toNat_natCast,he]

theorem Kd.row {B cb mb:Nat} {lv tv lv' tv':Value} {w w':World} (h:Kd B cb mb lv tv w lv' tv' w') {g:Nat} {cs:Array Value} {t:TypeId} (R:Row w g cs t) (h1:g≠cb) (h2:g≠mb) (h3:lv.ownBlock≠some g) (h4:tv.ownBlock≠some g):Row w' g cs t∧lv'.ownBlock≠some g∧tv'.ownBlock≠some g:=by
 refine ⟨⟨(h.keep g R.lt h1 h2 (fun e=>h3 e.symm) (fun e=>h4 e.symm)).trans R.out⟩,fun e=>?_,fun e=>?_⟩
 ·rcases h.newl g e with e2 | e2
  ·exact h3 e2
  ·have:=R.lt;omega
 ·rcases h.newt g e with e2 | e2
  ·exact h4 e2
  ·have:=R.lt;omega

theorem statements_any (B cb mb:Nat) (st:CkS) (lv tv:Value) (w0:World) (aT aN aA:Addr) (hV:Vok w0 aT) (hE:Eok w0 aN aA) (hB:w0.heap.size≤B) (Es:List Ex) (L:List St) (m g kv:Nat) (cur:Array Value) (w:World)
  (hm:L.length=m) (hts:∀ t∈st.2.1,1≤t∧t≤4) (hl:st.2.1.length+m≤1000) (hok:∀ s∈L,okP Es s.cond∧okP Es s.grant) (hcn:st.2.2.length+cntL Es L≤4000)
  (hw:Below B w0 w) (h:Cm B cb mb st.1 st.2.1 st.2.2 lv tv w) (R:Row w g cur 113) (hcur:∀ (r:Nat) (u:Value),(stC Es 0 L)[r]?=some u→cur[r]?=some u) (g1:g≠cb) (g2:g≠mb) (g3:lv.ownBlock≠some g) (g4:tv.ownBlock≠some g) :
  Calls Tryz.prog 55 #[.pointer (some ⟨cb,0,none⟩),.slice (some ⟨g,0,none⟩) m kv] w (GoAns B cb mb lv tv (ckAll Es st L) w):=by
 have HM:=hide hm
 have HOK:=hide hok
 have HCU:=hide hcur
 have HCN:=hide hcn
 have HTS:=hide hts
 have HLL:=hide hl
 have Hw:=hide hw
 have hms:m≤1000:=by omega
 clear hm hok hcur hcn hts hl hw
 have hBw:B≤w.heap.size:=by have:=h.C.low;have:=h.C.row.lt;omega
 go_enter Tryz.func55,Tryz.ntmps55
 go_wp2_with fail
 go_loopw [11] (fun i wr=>∃ (k:Nat) (st1:CkS) (lv1 tv1:Value),k≤m∧i=.int .i64 k∧Hid (ckAll Es st (L.take k)=some st1)∧Cm B cb mb st1.1 st1.2.1 st1.2.2 lv1 tv1 wr∧Kd B cb mb lv tv w lv1 tv1 wr) (fun i _=>m - (intOf i).toNat)
 case atStart=>exact ⟨0,st,lv,tv,by omega,rfl,hide rfl,h,Kd.refl _ _ _ _ _ _⟩
 case round =>
  obtain ⟨k,st1,lv1,tv1,hk,rfl,HA,H1,K1⟩:=hrel
  by_cases hlt:k<m
  ·have ilt:(k:Int)<(m:Int):=by omega
   have hkl:k<L.length:=by rw [uh HM];exact hlt
   obtain ⟨R1,q3,q4⟩:=K1.row R g1 g2 g3 g4
   have at5:∀ r,r<5→∀ u,(stmV Es k L[k])[r]?=some u→wr.cell? ⟨g,k*5+r,none⟩=some u:=fun r hr u hu=>by
    rw [R1.cell]
    refine uh HCU _ _ ?_
    rw [stC_at Es L 0 k hkl r hr,Nat.zero_add]
    exact hu
   have c0:=at5 0 (by decide) _ rfl
   have c1:=at5 1 (by decide) _ rfl
   have c2:=at5 2 (by decide) _ rfl
   have c3:=at5 3 (by decide) _ rfl
   have c4:=at5 4 (by decide) _ rfl
   simp only [Nat.add_zero] at c0
   obtain ⟨l1,l2,l3⟩:=ckAll_len (uh HA)
   have room:=cntL_room Es L k hkl
   have hin:=l3 (uh HTS)
   have hcnt:=uh HCN
   have hll:=uh HLL
   have hl1:st1.2.1.length≤999:=by rw [List.length_take] at l2;omega
   obtain ⟨ok1,ok2⟩:=uh HOK L[k] (List.getElem_mem hkl)
   have HS:=hide (show ∀ st2,ckStep Es st1 L[k]=some st2→ckAll Es st (L.take (k+1))=some st2 from fun st2 e=>by rw [List.take_succ_eq_append_getElem hkl,ckAll_snoc,uh HA];exact e)
   have HF:=hide (show ckStep Es st1 L[k]=none→ckAll Es st L=none from fun e=>ckAll_none Es L st (k+1) (by rw [List.take_succ_eq_append_getElem hkl,ckAll_snoc,uh HA];exact e))
   have Hlt:=hide hlt
   have gl:=R1.lt
   have D1:=K1.low
   have hBr:B≤wr.heap.size:=Nat.le_trans hBw D1.size
   have wcb:wr.heap.size≠cb:=by have:=H1.C.row.lt;omega
   have wmb:wr.heap.size≠mb:=by have:=H1.M.lt;omega
   have wlv:lv1.ownBlock≠some wr.heap.size:=fun e=>by have:=(H1.C.lets.lt _ e).2;omega
   have wtv:tv1.ownBlock≠some wr.heap.size:=fun e=>by have:=(H1.C.types.lt _ e).2;omega
   have HC:=hide (fun W hW hCm=>condition_any B cb mb st1 lv1 tv1 w0 aT aN aA hV hE hB hin (by omega) Es k L[k] ok1 W hW hCm (fun mm e e1 e2=>by have:=cntP_at e1 e2;omega))
   have HG:=hide (fun (st2:CkS) (h2:ckCond Es st1 L[k]=some st2) lv2 tv2 W hW hCm=>grant_any B cb mb st2 lv2 tv2 w0 aT aN aA hV hE hB ((ckCond_len h2).2.2 hin) (by have:=(ckCond_len h2).2.1;omega) Es k L[k] ok2 W hW hCm (fun mm e e1 e2=>by have:=cntP_at e1 e2;have:=(ckCond_len h2).1;omega))
   clear at5 R1 hlt ok1 ok2 room l1 l2 l3 hin hcnt hll hl1
   have HZ:=hide (show ckStep Es st1 L[k]=(ckCond Es st1 L[k]).bind fun s1=>ckGrant Es s1 L[k] from rfl)
   generalize L[k]=s at c0 c1 c2 c3 c4 HS HF HC HG HZ
   clear hkl
   have v3:=formV_opt Es s.cond
   have v4:=formV_opt Es s.grant
   generalize ckStep Es st1 s=oo at HS HF HZ
   generalize ckCond Es st1 s=oc at HC HG HZ
   generalize ckGrant Es=og at HG HZ
   generalize optV Es s.cond=o3 at c3 HC HG v3
   generalize optV Es s.grant=o4 at c4 HC HG v4
   generalize s.kind=kd at c1 HC HG
   generalize s.name=nm at c2 HC HG
   rcases v3 with rfl | ⟨t3,u3,rfl⟩ <;> rcases v4 with rfl | ⟨t4,u4,rfl⟩
   all_goals
    go_wp2_with fail
    refine (uh HC _ ?_ (H1.below ((Below.refl _ _).alloc nl _))).mono ?_
    ·exact ((uh Hw).trans D1).alloc hBr _
    rintro r w2 (⟨ns2,ts2,tt2,lv2,tv2,hoc,rfl,H2,K2⟩ | ⟨hoc,⟨te,ue,rfl⟩,hb2⟩)
    ·have HOC:=hide hoc
     obtain ⟨R2,_,_⟩:=K2.row (Row.new wr _ _) wcb wmb wlv wtv
     obtain ⟨r0,r1,r2,r3,r4⟩:=row5 R2
     have KK:=(K1.trans (Kd.of_all ((Below.refl _ _).alloc nl _) hBr)).trans K2
     have D2:=(uh Hw).trans KK.low
     have HGG:=hide (uh HG (ns2,ts2,tt2) hoc lv2 tv2 w2 D2 H2)
     clear hoc K2 R2
     dsimp only
     go_wp2_with fail
     refine (uh HGG).mono ?_
     rintro r w3 (⟨ns3,ts3,tt3,lv3,tv3,hog,rfl,H3,K3⟩ | ⟨hog,⟨te,ue,rfl⟩,hb3⟩)
     ·have HX:=hide (uh HS (ns3,ts3,tt3) (by rw [uh HZ,uh HOC];exact hog))
      clear hog
      dsimp only
      go_wp2_with fail
      go_roundw
      case rel=>exact ⟨k+1,(ns3,ts3,tt3),lv3,tv3,uh Hlt,by go_num,HX,H3,KK.trans K3⟩
      case measure=>have:=uh Hlt;simp [intOf];omega
     ·have HX:=hide (uh HF (by rw [uh HZ,uh HOC];exact hog))
      clear hog
      dsimp only
      go_wp2_with fail
      go_ret
      exact .inr ⟨uh HX,⟨_,_,rfl⟩,KK.low.trans hb3⟩
    ·have HX:=hide (uh HF (by rw [uh HZ,hoc];rfl))
     clear hoc
     dsimp only
     go_wp2_with fail
     go_ret
     exact .inr ⟨uh HX,⟨_,_,rfl⟩,(D1.alloc hBr _).trans hb2⟩
  ·have e:k=m:=by omega
   subst e
   have HX:=hide (show ckAll Es st L=some st1 by rw [← uh HA,← uh HM,List.take_length])
   go_wp2_with fail
   go_ret
   exact .inl ⟨_,_,_,_,_,uh HX,rfl,H1,K1⟩

end Go.Proofs.YtedlocniojlhfaaGreatDoor

namespace Go.Proofs.YtedlocniojlhfaaGreatDoor
open Go.RowKit
set_option linter.unusedVariables false

def spanOK (Es:List Ex) (f:Nat) (e:Ex):Prop:=∀ ts,allO ((List.range' f e.cnt).map (nodeTy Es ts))=(tyE ts e).map (fun _=>tysE ts e)

def treeAt (Es:List Ex) (c:Nat) (k:Int):Prop:=k=-1∨∃ (mm:Nat) (e:Ex),k=mm∧Es[mm]?=some e∧c+e.cnt=mm+1∧spanOK Es c e

theorem tysE_last (ts:List Int):∀ (e:Ex),∃ l,tysE ts e=l++[(tyE ts e).getD 0]
 | .int .. | .text .. | .bool .. | .set .. | .name .. | .attr .. | .lett ..=>⟨[],rfl⟩
 | .un _ _ _=>⟨_,rfl⟩
 | .bin _ _ _ _=>⟨_,rfl⟩
 | .ite _ _ _ _=>⟨_,rfl⟩

theorem tysE_at {ts tt:List Int} {e:Ex} {mm:Nat} {t:Int} (h:tt.length+e.cnt=mm+1) (ht:tyE ts e=some t):(tt++tysE ts e)[mm]?=some t:=by
 obtain ⟨l,hl⟩:=tysE_last ts e
 have h2:=tysE_len ts e
 rw [hl] at h2 ⊢
 rw [List.length_append,List.length_singleton] at h2
 rw [← List.append_assoc,List.getElem?_append_right (by rw [List.length_append];omega),List.length_append,show mm - (tt.length+l.length)=0 by omega,ht]
 rfl

theorem tree_any (a:Option Addr) (n c:Nat) (N:List Nd) (hU:∀ x∈N,fieldsU x=true) (w0:World) (hN:Nds w0 a n c N) (B:Nat) (hB:w0.heap.size≤B) (Es:List Ex) (hEl:Es.length=n) (hE:∀ j,(h:j<Es.length)→IsT N j Es[j]) (hn:n≤4000)
  (lb:Nat) (ns:List ByteArray) (ts tt:List Int) (nv lv tv:Value) (hin:∀ t∈ts,1≤t∧t≤4) (hts:ts.length≤1000) (htt:tt.length≤4000) (mm:Nat) (e:Ex) (he:Es[mm]?=some e) (h1:tt.length+e.cnt=mm+1) (hs:spanOK Es tt.length e) (W:World) (hW:Below w0.heap.size w0 W) (hM:Lm B lb ns ts tt nv lv tv W) (hBW:B≤W.heap.size) :
  Calls Tryz.prog 70 #[.slice a n c,.int .i64 tt.length,.int .i64 mm,.pointer (some ⟨lb,0,none⟩),tv] W (TrAns B tv tt ((tyE ts e).map (fun _=>tysE ts e)) W):=by
 obtain ⟨la,lc,rfl,hla⟩:=owns_form2 hM.lets
 have hmm:mm<Es.length:=(List.getElem?_eq_some_iff.1 he).1
 have e1:(mm:Int)=((tt.length+e.cnt:Nat):Int) - 1:=by omega
 rw [← hs ts,e1]
 refine l3tree_any a n c N hU w0 hN B hB lb la ts.length lc ts hin Es hEl hE tt.length e.cnt (by omega) (by omega) hn tv tt htt W hW hBW (hM.row.cell 1) hM.row.lt (ints_of_row hM.lets (by omega)) (fun e=>own_ne_row hM.row hM.types (by decide) e.symm) (fun x hx e=>?_) hM.types
 by_cases h0:ts.length=0
 ·have h2:lb<W.heap.size:=hM.row.lt
  rcases hM.lets.2 with ⟨hv,_⟩ | ⟨g,cap,cur,hv,_⟩
  ·rw [hx] at hv;cases hv
  ·rw [hx] at hv
   cases hv
   exact hM.apart g (by rw [hx];rfl) e.symm
 ·obtain ⟨g,hg,_⟩:=hla (by omega)
  rw [hg] at hx
  cases hx
  exact hM.apart g (by rw [hg];rfl) e.symm

end Go.Proofs.YtedlocniojlhfaaGreatDoor

namespace Go.Proofs.YtedlocniojlhfaaGreatDoor
open Go.RowKit
set_option linter.unusedVariables false

theorem forest_kids {K:List (List Int)} {a b:Nat} {fs:List (Nat × Nat)} (h:Forest K a fs b):∀ t,a≤t→t<b→∃ ks:List (Nat × Nat),K[t]?=some (topsI ks)∧∀ p∈ks,p.1<t:=by
 induction h with
 | nil a=>intro t h1 h2;omega
 | @cons a t b ks fs hk ht hf i1 i2 =>
  intro q h1 h2
  by_cases h3:q<t
  ·exact i1 q h1 h3
  by_cases h4:q=t
  ·subst h4
   exact ⟨ks,ht,fun p hp=>(hk.lt p hp).2⟩
  ·exact i2 q (by omega) h2

theorem cnt_le {e:Ex}:∀ {Es:List Ex},e∈Es→e.cnt≤cnts Es
 | x::Es,h=>by
  have e5:cnts (x::Es)=x.cnt+cnts Es:=by simp [cnts]
  rw [e5]
  rcases List.mem_cons.1 h with rfl | h
  ·omega
  ·have:=cnt_le h;omega

structure WellPT (N:List Nd) (L:List St):Prop where
 n:N.length≤4000
 m0:1≤L.length
 m:L.length≤600
 fields:∀ x∈N,fieldsT x=true
 kids:∀ (i:Nat) (x:Nd),N[i]?=some x→∀ k∈x.kids,0≤k∧k<(i:Int)
 roots:∀ s∈L,(s.cond=-1∨(0≤s.cond∧s.cond<N.length))∧(s.grant=-1∨(0≤s.grant∧s.grant<N.length))
 stm:∀ s∈L,(s.kind=1∧s.name.size≤32∧0≤s.cond∧s.grant=-1)∨(s.kind=2∧0≤s.cond)∨(s.kind=3∧s.cond=-1)
 cnt:∀ (Es:List Ex),Es.length=N.length→(∀ j,(h:j<Es.length)→IsT N j Es[j])→∀ s∈L,∀ k,(k=s.cond∨k=s.grant)→0≤k→∀ e,Es[k.toNat]?=some e→e.cnt≤4000

theorem stmtsI_all:∀ {L:List St},stmtsI L=true→∀ s∈L,stmtI s=true
 | x::L,h,s,hs=>by
  simp only [stmtsI,Bool.and_eq_true] at h
  rcases List.mem_cons.1 hs with rfl | hs
  ·exact h.1.1
  ·exact stmtsI_all h.2 s hs

theorem wellPT_of {N:List Nd} {L:List St} (h:wellT N L=true):WellPT N L:=by
 simp only [wellT,Bool.and_eq_true,decide_eq_true_eq] at h
 obtain ⟨⟨⟨h1,⟨h2,h3⟩,h4⟩,h5⟩,h6⟩:=h
 obtain ⟨S,hr,ht⟩:∃ S,runT (N.map Nd.kids) N.length [] 0=some S∧topsI S=L.flatMap askedOf:=by
  rw [shapeI] at h6
  cases hq:runT (N.map Nd.kids) N.length [] 0 with
  | none=>rw [hq] at h6;cases h6
  | some S=>rw [hq] at h6;exact ⟨S,rfl,of_decide_eq_true h6⟩
 obtain ⟨hF,_⟩:=forest_runT N.length (.nil 0) (fun p hp=>(by cases hp)) hr
 rw [Nat.zero_add] at hF
 have asked:∀ s∈L,∀ k∈askedOf s,∃ p∈S,k=(p.1:Int):=fun s hs k hk=>by
  have:k∈topsI S:=by rw [ht];exact List.mem_flatMap.2 ⟨s,hs,hk⟩
  rw [topsI] at this
  obtain ⟨p,hp,rfl⟩:=List.mem_map.1 this
  exact ⟨p,hp,rfl⟩
 have inR:∀ s∈L,∀ k∈askedOf s,0≤k∧k<N.length:=fun s hs k hk=>by
  obtain ⟨p,hp,rfl⟩:=asked s hs k hk
  have:=(hF.lt p hp).2
  omega
 have ac:∀ s∈L,s.kind≠3→s.cond∈askedOf s:=fun s _ h=>by rw [askedOf,if_pos h];simp
 have ag:∀ s∈L,s.grant≠-1→s.grant∈askedOf s:=fun s _ h=>by rw [askedOf,if_pos h];simp
 have sI:=stmtsI_all h4
 have stm:∀ s∈L,(s.kind=1∧s.name.size≤32∧0≤s.cond∧s.grant=-1)∨(s.kind=2∧0≤s.cond)∨(s.kind=3∧s.cond=-1):=fun s hs=>by
  have h:=sI s hs
  rw [stmtI] at h
  by_cases k1:s.kind=1
  ·rw [if_pos k1] at h
   simp only [Bool.and_eq_true,decide_eq_true_eq] at h
   exact .inl ⟨k1,identB_size h.1,(inR s hs _ (ac s hs (by omega))).1,h.2⟩
  rw [if_neg k1] at h
  by_cases k2:s.kind=2
  ·exact .inr (.inl ⟨k2,(inR s hs _ (ac s hs (by omega))).1⟩)
  rw [if_neg k2] at h
  by_cases k3:s.kind=3
  ·rw [if_pos k3] at h
   simp only [Bool.and_eq_true,decide_eq_true_eq] at h
   exact .inr (.inr ⟨k3,h.2⟩)
  ·rw [if_neg k3] at h
   cases h
 refine ⟨h1,h2,h3,fun x hx=>List.all_eq_true.1 h5 x hx,fun i x hx k hk=>?_,fun s hs=>⟨?_,?_⟩,stm,fun Es hl hE s hs k hk h0 e he=>?_⟩
 ·have hi:i<N.length:=(List.getElem?_eq_some_iff.1 hx).1
  obtain ⟨ks,e1,e2⟩:=forest_kids hF i (Nat.zero_le _) hi
  rw [List.getElem?_map,hx] at e1
  have e3:x.kids=topsI ks:=Option.some.inj e1
  rw [e3,topsI] at hk
  obtain ⟨p,hp,rfl⟩:=List.mem_map.1 hk
  have:=e2 p hp
  omega
 ·by_cases k3:s.kind=3
  ·rcases stm s hs with h | h | h
   ·omega
   ·omega
   ·exact .inl h.2
  ·exact .inr (inR s hs _ (ac s hs k3))
 ·by_cases g:s.grant=-1
  ·exact .inl g
  ·exact .inr (inR s hs _ (ag s hs g))
 ·have hk2:k∈askedOf s:=by
   rcases hk with rfl | rfl
   ·apply ac s hs
    intro k3
    rcases stm s hs with h | h | h <;> omega
   ·exact ag s hs (by omega)
  obtain ⟨p,hp,rfl⟩:=asked s hs k hk2
  have hlt:∀ q∈S,q.1<Es.length:=fun q hq=>by rw [hl];exact (hF.lt q hq).2
  have key:=forest_cnt hF (S.attach.map (fun q=>Es[q.1.1]'(hlt q.1 q.2))) (by simp) (fun j h1 h2=>by
   have:=hE (S[j]).1 (hlt _ (List.getElem_mem h1))
   simpa using this)
  rw [Int.toNat_natCast] at he
  have hm:e∈S.attach.map (fun q=>Es[q.1.1]'(hlt q.1 q.2)):=by
   refine List.mem_map.2 ⟨⟨p,hp⟩,List.mem_attach _ _,?_⟩
   exact (List.getElem?_eq_some_iff.1 he).2
  have:=cnt_le hm
  omega

theorem mkTT_of {N:List Nd} {i:Nat} {x:Nd} {an:Option Addr} {nn cn:Nat} (hx:N[i]?=some x) (hf:fieldsT x=true) (hk:∀ k∈x.kids,0≤k∧k<i) {Es:List Ex} (hl:Es.length=i)
  (hE:∀ j,(h:j<Es.length)→IsT N j Es[j]) (hfit:∀ e∈Es,e.typed):∃ e,MkT Es i x an nn cn e∧IsT N i e∧e.typed:=by
 rw [fieldsT,Bool.and_eq_true,decide_eq_true_eq] at hf
 obtain ⟨hkn,hf⟩:=hf
 have hkids:∀ n:Nat,kidN x.op=n→x.kids.length=n:=fun n e=>by omega
 have none':(1≤x.op∧x.op≤7)→x.kids=[]:=fun h=>List.eq_nil_of_length_eq_zero (hkids 0 (by rw [kidN,if_pos h];rfl))
 have fitAt:∀ {m:Nat} {e:Ex},Es[m]?=some e→e.typed:=fun h=>hfit _ (List.mem_of_getElem? h)
 by_cases h1:x.op=1
 ·exact ⟨_,.int h1,.int hx h1 (none' (by omega)),trivial⟩
 by_cases h2:x.op=2
 ·exact ⟨_,.text h2,.text hx h2 (none' (by omega)),trivial⟩
 by_cases h3:x.op=3
 ·exact ⟨_,.bool h3,.bool hx h3 (none' (by omega)),trivial⟩
 by_cases h4:x.op=4
 ·exact ⟨_,.set h4,.set hx h4 (none' (by omega)) an nn cn,trivial⟩
 by_cases h5:x.op=5
 ·rw [tfB,if_pos h5] at hf
  cases hf
 by_cases h6:x.op=6
 ·rw [tfB,if_neg h5,if_pos h6] at hf
  simp only [Bool.and_eq_true,decide_eq_true_eq] at hf
  exact ⟨_,.attr h6,.attr hx h6 (none' (by omega)),hf.1.1⟩
 by_cases h7:x.op=7
 ·exact ⟨_,.lett h7,.lett hx h7 (none' (by omega)),trivial⟩
 by_cases h8:8≤x.op∧x.op≤10
 ·have hl1:=hkids 1 (by rw [kidN,if_neg (by omega),if_pos h8];rfl)
  match hkk:x.kids,hl1 with
  | [k],_ =>
   obtain ⟨m,e,rfl,hm,g1,g2⟩:=kids_at hl hE (hk k (by rw [hkk];simp))
   exact ⟨_,.un h8 hkk g1,.un hx h8 hkk hm g2,h8,fitAt g1⟩
 by_cases h11:11≤x.op∧x.op≤26
 ·have hl1:=hkids 2 (by rw [kidN,if_neg (by omega),if_neg h8,if_pos h11];rfl)
  match hkk:x.kids,hl1 with
  | [k,l],_ =>
   obtain ⟨m,e,rfl,hm,g1,g2⟩:=kids_at hl hE (hk k (by rw [hkk];simp))
   obtain ⟨n,f,rfl,hn,j1,j2⟩:=kids_at hl hE (hk l (by rw [hkk];simp))
   exact ⟨_,.bin h11 hkk g1 j1,.bin hx h11 hkk ⟨hm,hn⟩ g2 j2,h11,fitAt g1,fitAt j1⟩
 by_cases h27:x.op=27
 ·have hl1:=hkids 3 (by rw [kidN,if_neg (by omega),if_neg h8,if_neg h11,if_pos h27];rfl)
  match hkk:x.kids,hl1 with
  | [k,l,o],_ =>
   obtain ⟨m,e,rfl,hm,g1,g2⟩:=kids_at hl hE (hk k (by rw [hkk];simp))
   obtain ⟨n,f,rfl,hn,j1,j2⟩:=kids_at hl hE (hk l (by rw [hkk];simp))
   obtain ⟨p,g,rfl,hp,q1,q2⟩:=kids_at hl hE (hk o (by rw [hkk];simp))
   exact ⟨_,.ite h27 hkk g1 j1 q1,.ite hx h27 hkk ⟨hm,hn,hp⟩ g2 j2 q2,fitAt g1,fitAt j1,fitAt q1⟩
 ·rw [kidN,if_neg (by omega),if_neg h8,if_neg h11,if_neg h27] at hkn
  omega

theorem makes_typed {w0:World} {N:List Nd} {L:List St} (h:WellPT N L):Makes w0 N Ex.typed :=
 fun k x an nn cn Es hx hl hE hf hS=>mkTT_of hx (h.fields _ (List.mem_of_getElem? hx)) (h.kids k _ hx) hl hE hf

theorem okP_of {N:List Nd} {L:List St} {Es:List Ex} (h:WellPT N L) (hl:Es.length=N.length) (hE:∀ j,(h:j<Es.length)→IsT N j Es[j]) (hf:∀ e∈Es,e.typed):∀ s∈L,okP Es s.cond∧okP Es s.grant:=fun s hs=>by
 obtain ⟨r1,r2⟩:=h.roots s hs
 have get:∀ k,(k=s.cond∨k=s.grant)→0≤k∧k<N.length→okP Es k:=fun k hk hb =>
  .inr ⟨k.toNat,Es[k.toNat]'(by omega),by omega,List.getElem?_eq_getElem _,hf _ (List.getElem_mem _),h.cnt Es hl hE s hs k hk hb.1 _ (List.getElem?_eq_getElem (by omega))⟩
 exact ⟨r1.elim .inl (fun hb=>get _ (.inl rfl) hb),r2.elim .inl (fun hb=>get _ (.inr rfl) hb)⟩

theorem cntL_asked (Es:List Ex):∀ (L:List St),(∀ s∈L,cntP Es s.cond+cntP Es s.grant=((askedOf s).map (cntP Es)).sum)→cntL Es L=((L.flatMap askedOf).map (cntP Es)).sum
 | [],_=>rfl
 | s::L,h=>by
  have ih:=cntL_asked Es L (fun x hx=>h x (List.mem_cons_of_mem _ hx))
  have h1:=h s (List.mem_cons_self ..)
  have e:cntL Es (s::L)=cntP Es s.cond+cntP Es s.grant+cntL Es L:=by simp [cntL]
  rw [e,h1,ih,List.flatMap_cons,List.map_append,List.sum_append]

theorem cntL_le {N:List Nd} {L:List St} (h:wellT N L=true) {Es:List Ex} (hl:Es.length=N.length) (hE:∀ j,(h:j<Es.length)→IsT N j Es[j]):cntL Es L≤4000:=by
 have W:=wellPT_of h
 have hn:=W.n
 simp only [wellT,Bool.and_eq_true,decide_eq_true_eq] at h
 obtain ⟨⟨⟨h1,⟨h2,h3⟩,h4⟩,h5⟩,h6⟩:=h
 obtain ⟨S,hr,ht⟩:∃ S,runT (N.map Nd.kids) N.length [] 0=some S∧topsI S=L.flatMap askedOf:=by
  rw [shapeI] at h6
  cases hq:runT (N.map Nd.kids) N.length [] 0 with
  | none=>rw [hq] at h6;cases h6
  | some S=>rw [hq] at h6;exact ⟨S,rfl,of_decide_eq_true h6⟩
 obtain ⟨hF,_⟩:=forest_runT N.length (.nil 0) (fun p hp=>(by cases hp)) hr
 rw [Nat.zero_add] at hF
 have e1:∀ s∈L,cntP Es s.cond+cntP Es s.grant=((askedOf s).map (cntP Es)).sum:=fun s hs=>by
  have c0:cntP Es (-1)=0:=rfl
  have gr:cntP Es s.grant=((if s.grant≠-1 then [s.grant] else []).map (cntP Es)).sum:=by
   by_cases g:s.grant=-1
   ·rw [if_neg (fun k=>k g),g];rfl
   ·rw [if_pos g];simp
  rw [askedOf,List.map_append,List.sum_append,← gr]
  congr 1
  by_cases k3:s.kind=3
  ·rw [if_neg (fun k=>k k3)]
   rcases W.stm s hs with q | q | q
   ·omega
   ·omega
   ·rw [q.2];rfl
  ·rw [if_pos k3];simp
 rw [cntL_asked Es L e1,← ht]
 have hlt:∀ q∈S,q.1<Es.length:=fun q hq=>by rw [hl];exact (hF.lt q hq).2
 have key:=forest_cnt hF (S.attach.map (fun q=>Es[q.1.1]'(hlt q.1 q.2))) (by simp) (fun j h1 h2=>by
  have:=hE (S[j]).1 (hlt _ (List.getElem_mem h1))
  simpa using this)
 have e2:(topsI S).map (cntP Es)=(S.attach.map (fun q=>Es[q.1.1]'(hlt q.1 q.2))).map Ex.cnt:=by
  apply List.ext_getElem
  ·simp [topsI]
  ·intro j h1 h2
   have hj:j<S.length:=by simpa [topsI] using h1
   have hq:=hlt S[j] (List.getElem_mem hj)
   simp only [topsI,List.getElem_map,List.getElem_attach]
   exact cntP_at rfl (List.getElem?_eq_getElem hq)
 rw [e2]
 have e3:((S.attach.map (fun q=>Es[q.1.1]'(hlt q.1 q.2))).map Ex.cnt).sum=cnts (S.attach.map (fun q=>Es[q.1.1]'(hlt q.1 q.2))):=rfl
 rw [e3]
 omega

end Go.Proofs.YtedlocniojlhfaaGreatDoor

namespace Go.Proofs.YtedlocniojlhfaaGreatDoor
open Go.RowKit
set_option linter.unusedVariables false

theorem IsT.ty_one {N:List Nd} {i:Nat} {e:Ex} (t:IsT N i e):∀ {f:Ex},IsT N i f→∀ ts,tyE ts e=tyE ts f∧tysE ts e=tysE ts f:=by
 induction t with
 | int h ho hk=>intro f u ts;rcases u.inv h with ⟨o,r⟩ | ⟨o,r⟩ | ⟨o,r⟩ | ⟨o,r⟩ | ⟨o,r⟩ | ⟨o,r⟩ | ⟨o,r⟩ | ⟨o,r⟩ | ⟨o,r⟩ | ⟨o,r⟩ <;> first | omega | (subst r;exact ⟨rfl,rfl⟩)
 | text h ho hk=>intro f u ts;rcases u.inv h with ⟨o,r⟩ | ⟨o,r⟩ | ⟨o,r⟩ | ⟨o,r⟩ | ⟨o,r⟩ | ⟨o,r⟩ | ⟨o,r⟩ | ⟨o,r⟩ | ⟨o,r⟩ | ⟨o,r⟩ <;> first | omega | (subst r;exact ⟨rfl,rfl⟩)
 | bool h ho hk=>intro f u ts;rcases u.inv h with ⟨o,r⟩ | ⟨o,r⟩ | ⟨o,r⟩ | ⟨o,r⟩ | ⟨o,r⟩ | ⟨o,r⟩ | ⟨o,r⟩ | ⟨o,r⟩ | ⟨o,r⟩ | ⟨o,r⟩ <;> first | omega | (subst r;exact ⟨rfl,rfl⟩)
 | name h ho hk=>intro f u ts;rcases u.inv h with ⟨o,r⟩ | ⟨o,r⟩ | ⟨o,r⟩ | ⟨o,r⟩ | ⟨o,r⟩ | ⟨o,r⟩ | ⟨o,r⟩ | ⟨o,r⟩ | ⟨o,r⟩ | ⟨o,r⟩ <;> first | omega | (subst r;exact ⟨rfl,rfl⟩)
 | attr h ho hk=>intro f u ts;rcases u.inv h with ⟨o,r⟩ | ⟨o,r⟩ | ⟨o,r⟩ | ⟨o,r⟩ | ⟨o,r⟩ | ⟨o,r⟩ | ⟨o,r⟩ | ⟨o,r⟩ | ⟨o,r⟩ | ⟨o,r⟩ <;> first | omega | (subst r;exact ⟨rfl,rfl⟩)
 | lett h ho hk=>intro f u ts;rcases u.inv h with ⟨o,r⟩ | ⟨o,r⟩ | ⟨o,r⟩ | ⟨o,r⟩ | ⟨o,r⟩ | ⟨o,r⟩ | ⟨o,r⟩ | ⟨o,r⟩ | ⟨o,r⟩ | ⟨o,r⟩ <;> first | omega | (subst r;exact ⟨rfl,rfl⟩)
 | set h ho hk a n c=>intro f u ts;rcases u.inv h with ⟨o,r⟩ | ⟨o,r⟩ | ⟨o,r⟩ | ⟨o,r⟩ | ⟨o,r⟩ | ⟨o,r⟩ | ⟨o,r⟩ | ⟨o,r⟩ | ⟨o,r⟩ | ⟨o,r⟩ <;> first | omega | (obtain ⟨_,_,_,r⟩:=r;subst r;exact ⟨rfl,rfl⟩)
 | un h ho hk hi t ih =>
  intro f u ts
  rcases u.inv h with ⟨o,r⟩ | ⟨o,r⟩ | ⟨o,r⟩ | ⟨o,r⟩ | ⟨o,r⟩ | ⟨o,r⟩ | ⟨o,r⟩ | ⟨o,k',e',hk',t',r⟩ | ⟨o,r⟩ | ⟨o,r⟩ <;> first | omega | skip
  subst r
  rw [hk] at hk'
  obtain rfl:=Int.ofNat.inj (List.cons.inj hk').1
  obtain ⟨i1,i2⟩:=ih t' ts
  simp only [tysE,tyE,i1,i2,and_self]
 | bin h ho hk hi t u ih1 ih2 =>
  intro f v ts
  rcases v.inv h with ⟨o,r⟩ | ⟨o,r⟩ | ⟨o,r⟩ | ⟨o,r⟩ | ⟨o,r⟩ | ⟨o,r⟩ | ⟨o,r⟩ | ⟨o,r⟩ | ⟨o,k',l',e',g',hk',t',u',r⟩ | ⟨o,r⟩ <;> first | omega | skip
  subst r
  rw [hk] at hk'
  simp only [List.cons.injEq,and_true,Int.natCast_inj] at hk'
  obtain ⟨rfl,rfl⟩:=hk'
  obtain ⟨i1,i2⟩:=ih1 t' ts
  obtain ⟨j1,j2⟩:=ih2 u' ts
  simp only [tysE,tyE,i1,i2,j1,j2,and_self]
 | ite h ho hk hi t u v ih1 ih2 ih3 =>
  intro f z ts
  rcases z.inv h with ⟨o,r⟩ | ⟨o,r⟩ | ⟨o,r⟩ | ⟨o,r⟩ | ⟨o,r⟩ | ⟨o,r⟩ | ⟨o,r⟩ | ⟨o,r⟩ | ⟨o,r⟩ | ⟨o,k',l',m',e',g',h',hk',t',u',v',r⟩ <;> first | omega | skip
  subst r
  rw [hk] at hk'
  simp only [List.cons.injEq,and_true,Int.natCast_inj] at hk'
  obtain ⟨rfl,rfl,rfl⟩:=hk'
  obtain ⟨i1,i2⟩:=ih1 t' ts
  obtain ⟨j1,j2⟩:=ih2 u' ts
  obtain ⟨l1,l2⟩:=ih3 v' ts
  simp only [tysE,tyE,i1,i2,j1,j2,l1,l2,and_self]

def allT (ts:List Int):List Ex→Option (List Int)
 | []=>some []
 | e::r=>(tyE ts e).bind fun _=>(allT ts r).map fun l=>tysE ts e++l

theorem allO_app (ys:List (Option Int)):∀ (xs:List (Option Int)),allO (xs++ys)=(allO xs).bind fun k=>(allO ys).map (k++·)
 | []=>by cases h:allO ys <;> simp [allO,h]
 | none::r=>rfl
 | some t::r=>by
  rw [List.cons_append,allO,allO,allO_app ys r]
  cases allO r <;> cases allO ys <;> rfl

theorem allO_mem:∀ {os:List (Option Int)} {K:List Int},allO os=some K→∀ o∈os,∃ t,o=some t
 | none::_,K,h,o,ho=>by cases h
 | some t::r,K,h,o,ho=>by
  rw [allO] at h
  obtain ⟨K',h1,_⟩:=Option.map_eq_some_iff.1 h
  rcases List.mem_cons.1 ho with e | e
  ·exact ⟨t,e⟩
  ·exact allO_mem h1 o e

def IsTs (N:List Nd):List Nat→List Ex→Prop
 | [],[]=>True
 | q::qs,e::es=>IsT N q e∧IsTs N qs es
 | _,_=>False

theorem IsT.kids {N:List Nd} {i:Nat} {e:Ex} (t:IsT N i e) {x:Nd} (hx:N[i]?=some x):∃ qs:List Nat,x.kids=qs.map (fun (q:Nat)=>(q:Int))∧IsTs N qs e.kids:=by
 have same:∀ {y:Nd},N[i]?=some y→y=x:=fun k=>Option.some.inj (k.symm.trans hx)
 cases t with
 | int h ho hk=>obtain rfl:=same h;exact ⟨[],hk,trivial⟩
 | text h ho hk=>obtain rfl:=same h;exact ⟨[],hk,trivial⟩
 | bool h ho hk=>obtain rfl:=same h;exact ⟨[],hk,trivial⟩
 | set h ho hk a n c=>obtain rfl:=same h;exact ⟨[],hk,trivial⟩
 | name h ho hk=>obtain rfl:=same h;exact ⟨[],hk,trivial⟩
 | attr h ho hk=>obtain rfl:=same h;exact ⟨[],hk,trivial⟩
 | lett h ho hk=>obtain rfl:=same h;exact ⟨[],hk,trivial⟩
 | @un _ k _ _ h ho hk hi t=>obtain rfl:=same h;exact ⟨[k],hk,t,trivial⟩
 | @bin _ k l _ _ _ h ho hk hi t u=>obtain rfl:=same h;exact ⟨[k,l],hk,t,u,trivial⟩
 | @ite _ k l m _ _ _ _ h ho hk hi t u v=>obtain rfl:=same h;exact ⟨[k,l,m],hk,t,u,v,trivial⟩

theorem ty_kids (ts:List Int):∀ (e:Ex),(tyE ts e).map (fun _=>tysE ts e)=(allT ts e.kids).bind fun l=>(tyE ts e).map fun t=>l++[t]
 | .int .. | .text .. | .bool .. | .set .. | .name .. | .attr ..=>rfl
 | .lett i n=>by
  simp only [Ex.kids,allT,Option.bind_some,tysE,List.nil_append]
  cases tyE ts (.lett i n) <;> rfl
 | .un i op k=>by
  simp only [Ex.kids,allT,tysE]
  cases h:tyE ts k with
  | none=>simp [tyE,h]
  | some a=>cases h2:tyE ts (.un i op k) <;> simp
 | .bin i op l r=>by
  simp only [Ex.kids,allT,tysE]
  cases h:tyE ts l with
  | none=>simp [tyE,h]
  | some a=>cases h1:tyE ts r with
   | none=>simp [tyE,h,h1]
   | some b=>cases h2:tyE ts (.bin i op l r) <;> simp
 | .ite i c t e=>by
  simp only [Ex.kids,allT,tysE]
  cases h:tyE ts c with
  | none=>simp [tyE,h]
  | some a=>cases h1:tyE ts t with
   | none=>simp [tyE,h,h1]
   | some b=>cases h3:tyE ts e with
    | none=>simp [tyE,h,h1,h3]
    | some d=>cases h2:tyE ts (.ite i c t e) <;> simp

theorem forest_ty {N:List Nd} {Es:List Ex} (hEl:Es.length=N.length) (hE:∀ j,(h:j<Es.length)→IsT N j Es[j]) (ts:List Int) {a b:Nat} {fs:List (Nat × Nat)} (h:Forest (N.map Nd.kids) a fs b):∀ (Fs:List Ex),IsTs N (fs.map (fun p=>p.1)) Fs→allO ((List.range' a (b - a)).map (nodeTy Es ts))=allT ts Fs:=by
 induction h with
 | nil a =>
  intro Fs hF
  match Fs,hF with
  | [],_=>simp [allO,allT]
 | @cons a t b ks fs hk ht hf i1 i2 =>
  intro Fs hF
  match Fs,hF with
  | e::Fs,⟨he,hr⟩ =>
   obtain ⟨x,hx,hxk⟩:∃ x,N[t]?=some x∧x.kids=topsI ks:=by
    rw [List.getElem?_map] at ht
    cases hx:N[t]? with
    | none=>rw [hx] at ht;cases ht
    | some x=>rw [hx] at ht;exact ⟨x,rfl,Option.some.inj ht⟩
   obtain ⟨qs,hq,hqs⟩:=he.kids hx
   have e1:ks.map (fun p=>p.1)=qs:=by
    have:=hxk.symm.trans hq
    rw [topsI] at this
    have h2:=congrArg (List.map Int.toNat) this
    simpa [List.map_map,Function.comp_def] using h2
   have j1:=i1 e.kids (by rw [e1];exact hqs)
   have j2:=i2 Fs hr
   have la:=hk.le
   have lb:=hf.le
   have er:List.range' a (b - a)=List.range' a (t - a)++t::List.range' (t+1) (b - (t+1)):=by
    have e2:b - a=(t - a)+(1+(b - (t+1))):=by omega
    rw [e2,← List.range'_append_1,← List.range'_append_1]
    have e3:a+(t - a)=t:=by omega
    rw [e3]
    rfl
   have hte:t<Es.length:=by rw [hEl];exact he.lt
   have en:nodeTy Es ts t=tyE ts e:=by
    rw [nodeTy,List.getElem?_eq_getElem hte]
    exact ((hE t hte).ty_one he ts).1
   have K:=ty_kids ts e
   rw [er,List.map_append,List.map_cons,allO_app,j1,en]
   simp only [allT]
   cases ho:tyE ts e with
   | none=>cases allT ts e.kids <;> rfl
   | some o =>
    rw [ho] at K
    cases ha:allT ts e.kids with
    | none=>rw [ha] at K;cases K
    | some l =>
     rw [ha] at K
     have y:tysE ts e=l++[o]:=Option.some.inj K
     rw [y,allO,j2]
     cases allT ts Fs <;> simp

theorem forest_sum {N:List Nd} {Es:List Ex} (hEl:Es.length=N.length) (hE:∀ j,(h:j<Es.length)→IsT N j Es[j]) {a b:Nat} {S:List (Nat × Nat)} (hF:Forest (N.map Nd.kids) a S b) (hb:b≤N.length):a+((topsI S).map (cntP Es)).sum=b:=by
 have hlt:∀ q∈S,q.1<Es.length:=fun q hq=>by have:=(hF.lt q hq).2;omega
 have key:=forest_cnt hF (S.attach.map (fun q=>Es[q.1.1]'(hlt q.1 q.2))) (by simp) (fun j h1 h2=>by
  have:=hE (S[j]).1 (hlt _ (List.getElem_mem h1))
  simpa using this)
 have e2:(topsI S).map (cntP Es)=(S.attach.map (fun q=>Es[q.1.1]'(hlt q.1 q.2))).map Ex.cnt:=by
  apply List.ext_getElem
  ·simp [topsI]
  ·intro j h1 h2
   have hj:j<S.length:=by simpa [topsI] using h1
   have hq:=hlt S[j] (List.getElem_mem hj)
   simp only [topsI,List.getElem_map,List.getElem_attach]
   exact cntP_at rfl (List.getElem?_eq_getElem hq)
 rw [e2]
 exact key

theorem forest_at {N:List Nd} {Es:List Ex} (hEl:Es.length=N.length) (hE:∀ j,(h:j<Es.length)→IsT N j Es[j]) {S:List (Nat × Nat)} (hF:Forest (N.map Nd.kids) 0 S N.length) {pre post:List Int} {x:Int} (h:topsI S=pre++x::post):treeAt Es ((pre.map (cntP Es)).sum) x:=by
 rw [topsI] at h
 obtain ⟨S1,S2,rfl,h1,h2⟩:=List.map_eq_append_iff.1 h
 obtain ⟨p,S3,rfl,h3,h4⟩:=List.map_eq_cons_iff.1 h2
 obtain ⟨c,F1,F2⟩:=hF.split
 have hc:=forest_sum hEl hE F1 (by have:=F2.le;omega)
 have hp:=(F2.lt p (List.mem_cons_self ..)).2
 have e1:c=(pre.map (cntP Es)).sum:=by rw [← h1];rw [topsI] at hc;omega
 have hpl:p.1<Es.length:=by omega
 have F3:Forest (N.map Nd.kids) c [p] (p.1+1):=by
  cases F2 with
  | cons hk ht hf=>exact .cons hk ht (.nil _)
 have k1:=forest_sum hEl hE F3 (by omega)
 have k2:cntP Es (p.1:Nat)=Es[p.1].cnt:=cntP_at rfl (List.getElem?_eq_getElem hpl)
 have k3:c+Es[p.1].cnt=p.1+1:=by
  simp only [topsI,List.map_cons,List.map_nil,List.sum_cons,List.sum_nil] at k1
  omega
 rw [← e1]
 refine .inr ⟨p.1,Es[p.1],h3.symm,List.getElem?_eq_getElem hpl,k3,fun ts=>?_⟩
 have k4:=forest_ty hEl hE ts F3 [Es[p.1]] ⟨hE p.1 hpl,trivial⟩
 rw [show p.1+1 - c=Es[p.1].cnt by omega] at k4
 rw [k4,allT,allT]
 cases tyE ts Es[p.1] <;> simp

theorem wellT_forest {N:List Nd} {L:List St} (h:wellT N L=true):∃ S,Forest (N.map Nd.kids) 0 S N.length∧topsI S=L.flatMap askedOf:=by
 simp only [wellT,Bool.and_eq_true,decide_eq_true_eq] at h
 obtain ⟨⟨⟨h1,⟨h2,h3⟩,h4⟩,h5⟩,h6⟩:=h
 obtain ⟨S,hr,ht⟩:∃ S,runT (N.map Nd.kids) N.length [] 0=some S∧topsI S=L.flatMap askedOf:=by
  rw [shapeI] at h6
  cases hq:runT (N.map Nd.kids) N.length [] 0 with
  | none=>rw [hq] at h6;cases h6
  | some S=>rw [hq] at h6;exact ⟨S,rfl,of_decide_eq_true h6⟩
 obtain ⟨hF,_⟩:=forest_runT N.length (.nil 0) (fun p hp=>(by cases hp)) hr
 rw [Nat.zero_add] at hF
 exact ⟨S,hF,ht⟩

theorem asked_sum {N:List Nd} {L:List St} (W:WellPT N L) (Es:List Ex):∀ s∈L,cntP Es s.cond+cntP Es s.grant=((askedOf s).map (cntP Es)).sum:=fun s hs=>by
 have gr:cntP Es s.grant=((if s.grant≠-1 then [s.grant] else []).map (cntP Es)).sum:=by
  by_cases g:s.grant=-1
  ·rw [if_neg (fun k=>k g),g];rfl
  ·rw [if_pos g];simp
 rw [askedOf,List.map_append,List.sum_append,← gr]
 congr 1
 by_cases k3:s.kind=3
 ·rw [if_neg (fun k=>k k3)]
  rcases W.stm s hs with q | q | q
  ·omega
  ·omega
  ·rw [q.2];rfl
 ·rw [if_pos k3];simp

theorem cntL_all {N:List Nd} {L:List St} (h:wellT N L=true) {Es:List Ex} (hEl:Es.length=N.length) (hE:∀ j,(h:j<Es.length)→IsT N j Es[j]):cntL Es L=N.length:=by
 obtain ⟨S,hF,ht⟩:=wellT_forest h
 have h1:=forest_sum hEl hE hF nl
 rw [cntL_asked Es L (asked_sum (wellPT_of h) Es),← ht]
 omega

def spansOf (Es:List Ex) (L:List St):Prop:=∀ k,(h:k<L.length)→treeAt Es (cntL Es (L.take k)) L[k].cond∧treeAt Es (cntL Es (L.take k)+cntP Es L[k].cond) L[k].grant

theorem spans_of {N:List Nd} {L:List St} (h:wellT N L=true) {Es:List Ex} (hEl:Es.length=N.length) (hE:∀ j,(h:j<Es.length)→IsT N j Es[j]):spansOf Es L:=fun k hk=>by
 obtain ⟨S,hF,ht⟩:=wellT_forest h
 have W:=wellPT_of h
 have eL:L=L.take k++L[k]::L.drop (k+1):=by rw [List.getElem_cons_drop,List.take_append_drop]
 have e1:cntL Es (L.take k)=(((L.take k).flatMap askedOf).map (cntP Es)).sum:=cntL_asked Es _ (fun s hs=>asked_sum W Es s (List.mem_of_mem_take hs))
 have e2:topsI S=(L.take k).flatMap askedOf++(askedOf L[k]++(L.drop (k+1)).flatMap askedOf):=by
  rw [ht]
  conv=>lhs;rw [eL]
  rw [List.flatMap_append,List.flatMap_cons]
 have hs:=List.getElem_mem hk
 generalize L[k]=s at e2 hs ⊢
 have kc:s.cond=-1∨s.kind≠3:=by
  rcases W.stm s hs with q | q | q
  ·right;omega
  ·right;omega
  ·exact .inl q.2
 rw [e1]
 refine ⟨?_,?_⟩
 ·rcases kc with q | q
  ·exact .inl q
  ·rw [askedOf,if_pos q] at e2
   exact forest_at hEl hE hF e2
 ·by_cases g:s.grant=-1
  ·exact .inl g
  ·have q2:askedOf s=(if s.kind≠3 then [s.cond] else [])++[s.grant]:=by rw [askedOf,if_pos g]
   have e3:topsI S=((L.take k).flatMap askedOf++(if s.kind≠3 then [s.cond] else []))++s.grant::(L.drop (k+1)).flatMap askedOf:=by
    rw [e2,q2];simp
   have r:=forest_at hEl hE hF e3
   have e4:(((L.take k).flatMap askedOf++(if s.kind≠3 then [s.cond] else [])).map (cntP Es)).sum=(((L.take k).flatMap askedOf).map (cntP Es)).sum+cntP Es s.cond:=by
    rw [List.map_append,List.sum_append]
    congr 1
    by_cases k3:s.kind=3
    ·rw [if_neg (fun k=>k k3)]
     rcases kc with q | q
     ·rw [q];rfl
     ·exact absurd k3 q
    ·rw [if_pos k3];simp
   rw [e4] at r
   exact r

theorem ckE_none (kd:Int) (nm:ByteArray) (st:CkS) (ys:List Int):ckE kd nm st none ys=none:=by
 unfold ckE
 split <;> rfl

theorem cond_some {Es:List Ex} {st s2:CkS} {s:St} {m:Nat} {e:Ex} (h:ckCond Es st s=some s2) (h1:s.cond=(m:Nat)) (h2:Es[m]?=some e):∃ t,tyE st.2.1 e=some t:=by
 rw [ckCond,if_neg (by omega),h1,Int.toNat_natCast,h2] at h
 cases ht:tyE st.2.1 e with
 | none=>dsimp only at h;rw [ht,ckE_none] at h;cases h
 | some t=>exact ⟨t,rfl⟩

theorem grant_some {Es:List Ex} {st s2:CkS} {s:St} {m:Nat} {e:Ex} (h:ckGrant Es st s=some s2) (h1:s.grant=(m:Nat)) (h2:Es[m]?=some e):∃ t,tyE st.2.1 e=some t:=by
 rw [ckGrant,if_neg (by omega),h1,Int.toNat_natCast,h2] at h
 cases ht:tyE st.2.1 e with
 | none=>dsimp only at h;rw [ht] at h;cases h
 | some t=>exact ⟨t,rfl⟩

theorem span_ty {Es:List Ex} {c:Nat} {e:Ex} (h:spanOK Es c e) {ts:List Int} {t:Int} (ht:tyE ts e=some t) (j:Nat) (h1:c≤j) (h2:j<c+e.cnt):∃ t,nodeTy Es ts j=some t:=by
 have k:=h ts
 rw [ht] at k
 exact allO_mem k _ (List.mem_map.2 ⟨j,List.mem_range'_1.2 ⟨h1,h2⟩,rfl⟩)

theorem nodes_typed {Es:List Ex} {L:List St} {st:CkS} (hs:spansOf Es L) (hl:L.length≤600) (h:ckAll Es (attN,[],[]) L=some st):∀ k,k≤L.length→∀ j,j<cntL Es (L.take k)→∃ ts t,ts.length≤600∧nodeTy Es ts j=some t
 | 0,_,j,hj=>by simp [cntL] at hj
 | k+1,hk,j,hj=>by
  have hkl:k<L.length:=by omega
  obtain ⟨h1,h2⟩:=hs k hkl
  have e1:cntL Es (L.take (k+1))=cntL Es (L.take k)+(cntP Es L[k].cond+cntP Es L[k].grant):=by
   rw [List.take_succ_eq_append_getElem hkl]
   simp only [cntL,List.map_append,List.map_cons,List.map_nil,List.sum_append,List.sum_cons,List.sum_nil,Nat.add_zero]
  by_cases hj0:j<cntL Es (L.take k)
  ·exact nodes_typed hs hl h k (by omega) j hj0
  have hq:ckAll Es (attN,[],[]) (L.take (k+1))≠none:=fun e=>by
   have:=ckAll_none Es L _ _ e
   rw [h] at this;cases this
  rw [List.take_succ_eq_append_getElem hkl,ckAll_snoc] at hq
  cases ha:ckAll Es (attN,[],[]) (L.take k) with
  | none=>rw [ha] at hq;exact absurd rfl hq
  | some s1 =>
   have hl1:=(ckAll_len ha).2.1
   rw [List.length_take] at hl1
   have hl2:s1.2.1.length≤k:=by simp at hl1;omega
   rw [ha] at hq
   cases hc:ckCond Es s1 L[k] with
   | none=>rw [Option.bind_some,ckStep,hc] at hq;exact absurd rfl hq
   | some s2 =>
    have hl3:=(ckCond_len hc).2.1
    cases hg:ckGrant Es s2 L[k] with
    | none=>rw [Option.bind_some,ckStep,hc,Option.bind_some,hg] at hq;exact absurd rfl hq
    | some s3 =>
     by_cases hjc:j<cntL Es (L.take k)+cntP Es L[k].cond
     ·rcases h1 with q | ⟨m,e,q1,q2,q3,q4⟩
      ·rw [q] at hjc
       have:cntP Es (-1)=0:=rfl
       omega
      ·rw [cntP_at q1 q2] at hjc
       obtain ⟨t,ht⟩:=cond_some hc q1 q2
       obtain ⟨t2,r⟩:=span_ty q4 ht j (by omega) hjc
       exact ⟨_,t2,by omega,r⟩
     ·rcases h2 with q | ⟨m,e,q1,q2,q3,q4⟩
      ·rw [e1,q] at hj
       have:cntP Es (-1)=0:=rfl
       omega
      ·rw [e1,cntP_at q1 q2] at hj
       obtain ⟨t,ht⟩:=grant_some hg q1 q2
       obtain ⟨t2,r⟩:=span_ty q4 ht j (by omega) (by omega)
       exact ⟨_,t2,by omega,r⟩

theorem allU_of {N:List Nd} {L:List St} (h:wellT N L=true) {Es:List Ex} (hEl:Es.length=N.length) (hE:∀ j,(h:j<Es.length)→IsT N j Es[j]) {st:CkS} (hc:ckAll Es (attN,[],[]) L=some st):N.all fieldsU=true:=by
 have W:=wellPT_of h
 rw [List.all_eq_true]
 intro x hx
 refine (fieldsU_iff x).2 ⟨W.fields x hx,fun h7=>?_⟩
 obtain ⟨j,hj,rfl⟩:=List.getElem_of_mem hx
 obtain ⟨ts,t,h1,h2⟩:=nodes_typed (spans_of h hEl hE) W.m hc L.length nl j (by rw [List.take_length,cntL_all h hEl hE];exact hj)
 have hje:j<Es.length:=by omega
 rw [nodeTy,List.getElem?_eq_getElem hje,Option.bind_some] at h2
 have u:=hE j hje
 rcases u.inv (List.getElem?_eq_getElem hj) with ⟨o,r⟩ | ⟨o,r⟩ | ⟨o,r⟩ | ⟨o,r⟩ | ⟨o,r⟩ | ⟨o,r⟩ | ⟨o,r⟩ | ⟨o,r⟩ | ⟨o,r⟩ | ⟨o,r⟩ <;> first | omega | skip
 rw [r,tyE] at h2
 split at h2
 ·rename_i h0
  have:=(List.getElem?_eq_some_iff.1 h2).1
  omega
 ·cases h2

theorem ckAll_one {N:List Nd} {Es Fs:List Ex} (h1:Es.length=N.length) (h2:Fs.length=N.length) (hE:∀ j,(h:j<Es.length)→IsT N j Es[j]) (hF:∀ j,(h:j<Fs.length)→IsT N j Fs[j]):∀ (L:List St) (st:CkS),ckAll Es st L=ckAll Fs st L
 | [],st=>rfl
 | s::L,st=>by
  have key:∀ k:Nat,(Es[k]?=none∧Fs[k]?=none)∨∃ e f,Es[k]?=some e∧Fs[k]?=some f∧∀ ts,tyE ts e=tyE ts f∧tysE ts e=tysE ts f:=fun k=>by
   by_cases hk:k<N.length
   ·exact .inr ⟨Es[k],Fs[k],List.getElem?_eq_getElem _,List.getElem?_eq_getElem _,(hE k (by omega)).ty_one (hF k (by omega))⟩
   ·exact .inl ⟨List.getElem?_eq_none (by omega),List.getElem?_eq_none (by omega)⟩
  have c:ckCond Es st s=ckCond Fs st s:=by
   rw [ckCond,ckCond]
   rcases key s.cond.toNat with ⟨a,b⟩ | ⟨e,f,a,b,k⟩
   ·rw [a,b]
   ·rw [a,b];dsimp only;rw [(k st.2.1).1,(k st.2.1).2]
  have g:∀ st1,ckGrant Es st1 s=ckGrant Fs st1 s:=fun st1=>by
   rw [ckGrant,ckGrant]
   rcases key s.grant.toNat with ⟨a,b⟩ | ⟨e,f,a,b,k⟩
   ·rw [a,b]
   ·rw [a,b];dsimp only;rw [(k st1.2.1).1,(k st1.2.1).2]
  rw [ckAll,ckAll,ckStep,ckStep,c]
  simp only [g,ckAll_one h1 h2 hE hF L]

end Go.Proofs.YtedlocniojlhfaaGreatDoor
