/-
  VPP, VPQ, VPR, Slices0, Slices, PickP, VPD, Mem, Ints0, QA, JT. Own work.
-/
import Derived.Test.YtedlocniojlhfaaGreatDoorMXAA
import Derived.RegionTactic
import Derived.ChangeAlike
import Derived.Deep.QuietTactic
import Derived.BigQuiet
import Derived.WalkSpells
import Derived.WalkLawsBesides
import Derived.Deep.Draws
import Derived.Lib.ItoaNum
namespace Go.Proofs.YtedlocniojlhfaaGreatDoor
open Go.RowKit
set_option linter.unusedVariables false

def dep:List (Nat × Nat)→Nat
 | []=>0
 | p::ps=>max p.2 (dep ps)

theorem dep_le {ks:List (Nat × Nat)} {p:Nat × Nat} (h:p∈ks):p.2≤dep ks:=by
 induction ks with
 | nil=>cases h
 | cons q qs ih =>
  rw [dep]
  rcases List.mem_cons.1 h with e | e
  ·subst e;omega
  ·have:=ih e;omega

def topsI (ks:List (Nat × Nat)):List Int:=ks.map fun p=>(p.1:Int)

inductive Forest (K:List (List Int)):Nat→List (Nat × Nat)→Nat→Prop
 | nil (a:Nat):Forest K a [] a
 | cons {a t b:Nat} {ks fs:List (Nat × Nat)} (hk:Forest K a ks t) (ht:K[t]?=some (topsI ks)) (hf:Forest K (t+1) fs b):Forest K a ((t,dep ks+1)::fs) b

theorem Forest.le {K:List (List Int)} {a b:Nat} {fs:List (Nat × Nat)} (h:Forest K a fs b):a≤b:=by
 induction h with
 | nil a=>exact nl
 | cons hk ht hf i1 i2=>omega

theorem Forest.lt {K:List (List Int)} {a b:Nat} {fs:List (Nat × Nat)} (h:Forest K a fs b):∀ p∈fs,a≤p.1∧p.1<b:=by
 induction h with
 | nil a=>intro p hp;cases hp
 | cons hk ht hf i1 i2 =>
  intro p hp
  have h1:=hk.le
  have h2:=hf.le
  rcases List.mem_cons.1 hp with e | e
  ·subst e;exact ⟨h1,by show _<_;omega⟩
  ·have:=i2 p e;omega

theorem Forest.join {K:List (List Int)} {a b c:Nat} {fs gs:List (Nat × Nat)} (h:Forest K a fs b) (k:Forest K b gs c):Forest K a (fs++gs) c:=by
 induction h with
 | nil a=>exact k
 | cons hk ht hf i1 i2=>exact .cons hk ht (i2 k)

theorem Forest.split {K:List (List Int)}:∀ {fs gs:List (Nat × Nat)} {a c:Nat},Forest K a (fs++gs) c→∃ b,Forest K a fs b∧Forest K b gs c
 | [],gs,a,c,h=>⟨a,.nil a,h⟩
 | p::fs,gs,a,c,h=>by
  cases h with
  | cons hk ht hf =>
   obtain ⟨b,h1,h2⟩:=Forest.split hf
   exact ⟨b,.cons hk ht h1,h2⟩

def stepT (S:List (Nat × Nat)) (i:Nat) (ks:List Int):Option (List (Nat × Nat)) :=
 if S.length<ks.length then none
 else if topsI (S.drop (S.length - ks.length))≠ks then none
 else if dep (S.drop (S.length - ks.length))=64 then none
 else some (S.take (S.length - ks.length)++[(i,dep (S.drop (S.length - ks.length))+1)])

def runT (K:List (List Int)):Nat→List (Nat × Nat)→Nat→Option (List (Nat × Nat))
 | 0,S,_=>some S
 | n+1,S,i=>match K[i]? with
  | none=>none
  | some ks=>match stepT S i ks with
   | none=>none
   | some S'=>runT K n S' (i+1)

theorem runT_add (K:List (List Int)):∀ (m n:Nat) (S:List (Nat × Nat)) (i:Nat),runT K (m+n) S i=(runT K m S i).bind fun S'=>runT K n S' (i+m)
 | 0,n,S,i=>by simp [runT]
 | m+1,n,S,i=>by
  rw [show m+1+n=(m+n)+1 by omega,runT,runT]
  cases K[i]? with
  | none=>rfl
  | some ks =>
   dsimp only
   cases stepT S i ks with
   | none=>rfl
   | some S' =>
    dsimp only
    rw [runT_add K m n S' (i+1),show i+1+m=i+(m+1) by omega]

theorem topsI_len (ks:List (Nat × Nat)):(topsI ks).length=ks.length:=by simp [topsI]

theorem stepT_hit (S ks:List (Nat × Nat)) (i:Nat) (h:dep ks+1≤64):stepT (S++ks) i (topsI ks)=some (S++[(i,dep ks+1)]):=by
 have e:(S++ks).length - (topsI ks).length=S.length:=by rw [topsI_len,List.length_append];omega
 rw [stepT,if_neg (by rw [topsI_len,List.length_append];omega),e,List.drop_left,if_neg (by simp),if_neg (by omega),List.take_left]

theorem stepT_of {S S':List (Nat × Nat)} {i:Nat} {ks:List Int} (h:stepT S i ks=some S'):∃ A B,S=A++B∧topsI B=ks∧dep B≠64∧S'=A++[(i,dep B+1)]:=by
 rw [stepT] at h
 split at h
 ·cases h
 ·split at h
  ·cases h
  ·split at h
   ·cases h
   ·rename_i h1 h2 h3
    rw [ne_eq,Decidable.not_not] at h2
    exact ⟨_,_,(List.take_append_drop (S.length - ks.length) S).symm,h2,h3,(Option.some.inj h).symm⟩

theorem runT_forest {K:List (List Int)} {a b:Nat} {fs:List (Nat × Nat)} (h:Forest K a fs b):∀ (S:List (Nat × Nat)),(∀ p∈fs,p.2≤64)→runT K (b - a) S a=some (S++fs):=by
 induction h with
 | nil a=>intro S _;simp [runT]
 | @cons a t b ks fs hk ht hf i1 i2 =>
  intro S hd
  have h1:=hk.le
  have h2:=hf.le
  have hdk:dep ks+1≤64:=hd _ (List.mem_cons_self ..)
  rw [show b - a=(t - a)+(1+(b - (t+1))) by omega,runT_add,i1 S (fun p hp=>by have:=dep_le hp;omega),Option.bind_some,show a+(t - a)=t by omega,runT_add]
  have e1:runT K 1 (S++ks) t=some (S++[(t,dep ks+1)]):=by
   rw [runT,ht]
   dsimp only
   rw [stepT_hit S ks t hdk]
   rfl
  rw [e1,Option.bind_some,i2 _ (fun p hp=>hd p (List.mem_cons_of_mem _ hp)),List.append_assoc]
  rfl

theorem forest_runT {K:List (List Int)}:∀ (n:Nat) {S S':List (Nat × Nat)} {i:Nat},Forest K 0 S i→(∀ p∈S,p.2≤64)→runT K n S i=some S'→Forest K 0 S' (i+n)∧∀ p∈S',p.2≤64
 | 0,S,S',i,h,hd,hr=>by
  rw [runT] at hr
  obtain rfl:=Option.some.inj hr
  exact ⟨h,hd⟩
 | n+1,S,S',i,h,hd,hr=>by
  rw [runT] at hr
  cases hK:K[i]? with
  | none=>rw [hK] at hr;cases hr
  | some ks =>
   rw [hK] at hr
   dsimp only at hr
   cases hs:stepT S i ks with
   | none=>rw [hs] at hr;cases hr
   | some S1 =>
    rw [hs] at hr
    dsimp only at hr
    obtain ⟨A,B,rfl,hB,h64,rfl⟩:=stepT_of hs
    obtain ⟨m,f1,f2⟩:=h.split
    have f3:Forest K 0 (A++[(i,dep B+1)]) (i+1):=f1.join (.cons f2 (by rw [hK,hB]) (.nil _))
    have hdB:dep B≤64:=by
     have:∀ (L:List (Nat × Nat)),(∀ p∈L,p.2≤64)→dep L≤64:=by
      intro L
      induction L with
      | nil=>intro _;simp [dep]
      | cons q qs ih =>
       intro hq
       have h1:=hq q (List.mem_cons_self ..)
       have h2:=ih (fun p hp=>hq p (List.mem_cons_of_mem _ hp))
       rw [dep];omega
     exact this B (fun p hp=>hd p (List.mem_append_right _ hp))
    have hd1:∀ p∈A++[(i,dep B+1)],p.2≤64:=fun p hp=>by
     rcases List.mem_append.1 hp with k | k
     ·exact hd p (List.mem_append_left _ k)
     ·rw [List.mem_singleton.1 k];show dep B+1≤64;omega
    have:=forest_runT n f3 hd1 hr
    rw [show i+(n+1)=i+1+n by omega]
    exact this

end Go.Proofs.YtedlocniojlhfaaGreatDoor

namespace Go.Proofs.YtedlocniojlhfaaGreatDoor
open Go.RowKit
set_option linter.unusedVariables false

def kidsF (f:Int→List Int→List Int) (top:Int):List Int→List Int→List Int
 | [],out=>out++[top]
 | k::ks,out=>if top≤k then out++[-1] else kidsF f top ks (f k out)

def walkF (K:List (List Int)):Nat→Int→List Int→List Int
 | 0=>fun _ out=>out++[-1]
 | n+1=>fun top out=>if top<0∨(K.length:Int)≤top∨K.length<out.length then out++[-1] else kidsF (walkF K n) top (K.getD top.toNat []) out

def good (l:List Int):Prop:=∀ (i:Nat) (x:Int),l[i]?=some x→x=i

theorem good.pre {l m:List Int} (h:good (l++m)):good l:=fun i x hx=>by
 have hi:i<l.length:=(List.getElem?_eq_some_iff.1 hx).1
 exact h i x (by rw [List.getElem?_append_left hi];exact hx)

theorem good.last {l:List Int} {x:Int} (h:good (l++[x])):x=l.length:=h l.length x (by simp)

theorem good_iff (l:List Int):good l↔∀ i,(h:i<l.length)→l[i]=(i:Int):=by
 constructor
 ·intro h i hi;exact h i _ (List.getElem?_eq_getElem hi)
 ·intro h i x hx
  obtain ⟨hi,e⟩:=List.getElem?_eq_some_iff.1 hx
  rw [← e];exact h i hi

theorem kidsF_pre {f:Int→List Int→List Int} (hf:∀ k out,∃ l,f k out=out++l) (top:Int):∀ (ks out:List Int),∃ l,kidsF f top ks out=out++l
 | [],out=>⟨[top],rfl⟩
 | k::ks,out=>by
  rw [kidsF]
  split
  ·exact ⟨[-1],rfl⟩
  ·obtain ⟨l,e⟩:=hf k out
   obtain ⟨m,e2⟩:=kidsF_pre hf top ks (f k out)
   exact ⟨l++m,by rw [e2,e,List.append_assoc]⟩

theorem walkF_pre (K:List (List Int)):∀ (n:Nat) (top:Int) (out:List Int),∃ l,walkF K n top out=out++l
 | 0,top,out=>⟨[-1],rfl⟩
 | n+1,top,out=>by
  rw [walkF]
  dsimp only
  split
  ·exact ⟨[-1],rfl⟩
  ·exact kidsF_pre (walkF_pre K n) top _ out

theorem kidsF_good {K:List (List Int)} {f:Int→List Int→List Int} (hp:∀ k out,∃ l,f k out=out++l)
  (hf:∀ k out,good (f k out)→∃ d,Forest K out.length [(k.toNat,d)] (f k out).length∧0≤k) (top:Int) :
  ∀ (ks out:List Int),good (kidsF f top ks out)→∃ fs,topsI fs=ks∧∃ t,Forest K out.length fs t∧top=(t:Int)∧(kidsF f top ks out).length=t+1
 | [],out,h=>⟨[],rfl,out.length,.nil _,by rw [kidsF] at h;exact h.last,by simp [kidsF]⟩
 | k::ks,out,h=>by
  rw [kidsF] at h ⊢
  split at h
  ·have:=h.last;omega
  ·rename_i hk
   rw [if_neg hk]
   obtain ⟨l,e⟩:=kidsF_pre hp top ks (f k out)
   have h1:good (f k out):=by rw [e] at h;exact h.pre
   obtain ⟨d,h2,h3⟩:=hf k out h1
   obtain ⟨fs,e1,t,h4,h5,h6⟩:=kidsF_good hp hf top ks (f k out) h
   exact ⟨(k.toNat,d)::fs,by simp only [topsI,List.map_cons] at e1 ⊢;rw [e1];congr 1;omega,t,h2.join h4,h5,h6⟩

theorem walkF_good (K:List (List Int)):∀ (n:Nat) (top:Int) (out:List Int),good (walkF K n top out)→∃ d,Forest K out.length [(top.toNat,d)] (walkF K n top out).length∧0≤top
 | 0,top,out,h=>by
  have:=good.last (l:=out) h
  omega
 | n+1,top,out,h=>by
  rw [walkF] at h ⊢
  dsimp only at h ⊢
  split at h
  ·have:=h.last;omega
  ·rename_i hc
   rw [if_neg hc]
   obtain ⟨fs,e1,t,h4,h5,h6⟩:=kidsF_good (walkF_pre K n) (walkF_good K n) top _ out h
   have ht:top.toNat=t:=by omega
   refine ⟨dep fs+1,?_,by omega⟩
   rw [h6,ht]
   refine .cons h4 ?_ (.nil _)
   have hl:t<K.length:=by omega
   rw [ht] at e1
   rw [e1,List.getElem?_eq_getElem hl,List.getD_eq_getElem?_getD,List.getElem?_eq_getElem hl]
   rfl

def upto (a b:Nat):List Int:=(List.range' a (b - a)).map fun (i:Nat)=>(i:Int)

theorem upto_self (a:Nat):upto a a=[]:=by simp [upto]

theorem upto_join {a b c:Nat} (h1:a≤b) (h2:b≤c):upto a b++upto b c=upto a c:=by
 rw [upto,upto,upto,← List.map_append,show c - a=(b - a)+(c - b) by omega,← List.range'_append_1,show a+(b - a)=b by omega]

theorem upto_one (a:Nat):upto a (a+1)=[(a:Int)]:=by simp [upto]

theorem upto_len (a b:Nat):(upto a b).length=b - a:=by simp [upto]

theorem walkF_forest {K:List (List Int)} {a b:Nat} {fs:List (Nat × Nat)} (h:Forest K a fs b) :
  ∀ (n:Nat) (out:List Int),(∀ p∈fs,p.1<n)→out.length=a→b≤K.length→(topsI fs).foldl (fun o k=>walkF K n k o) out=out++upto a b:=by
 induction h with
 | nil a=>intro n out _ _ _;simp [topsI,upto_self]
 | @cons a t b ks fs hk ht hf i1 i2 =>
  intro n out hn ho hb
  have h1:=hk.le
  have h2:=hf.le
  have hlt:=hk.lt
  have htn:t<n:=hn _ (List.mem_cons_self ..)
  obtain ⟨n',rfl⟩:∃ n',n=n'+1:=⟨n - 1,by omega⟩
  have hw:walkF K (n'+1) (t:Int) out=out++upto a (t+1):=by
   rw [walkF]
   dsimp only
   rw [if_neg (by omega),Int.toNat_natCast,List.getD_eq_getElem?_getD,ht,Option.getD_some]
   have hq:∀ (ks:List (Nat × Nat)) (o:List Int),(∀ p∈ks,p.1<t)→kidsF (walkF K n') (t:Int) (topsI ks) o=(topsI ks).foldl (fun o k=>walkF K n' k o) o++[(t:Int)]:=by
    intro ks
    induction ks with
    | nil=>intro o _;rfl
    | cons p ps ih =>
     intro o hp
     have:=hp p (List.mem_cons_self ..)
     rw [show topsI (p::ps)=(p.1:Int)::topsI ps from rfl,kidsF,if_neg (by omega),ih _ (fun q hq=>hp q (List.mem_cons_of_mem _ hq))]
     rfl
   rw [hq ks out (fun p hp=>(hlt p hp).2),i1 n' out (fun p hp=>by have:=(hlt p hp).2;omega) ho (by omega),List.append_assoc,← upto_one t,upto_join h1 (by omega)]
  rw [show topsI ((t,dep ks+1)::fs)=(t:Int)::topsI fs from rfl,List.foldl_cons,hw,i2 (n'+1) _ (fun p hp=>hn p (List.mem_cons_of_mem _ hp)) (by rw [List.length_append,upto_len];omega) hb,List.append_assoc,upto_join (by omega) h2]

theorem roots_good {K:List (List Int)} {n:Nat}:∀ (A:List Int) (out:List Int),good (A.foldl (fun o k=>walkF K n k o) out)→∃ fs,topsI fs=A∧Forest K out.length fs (A.foldl (fun o k=>walkF K n k o) out).length
 | [],out,_=>⟨[],rfl,.nil _⟩
 | k::A,out,h=>by
  rw [List.foldl_cons] at h ⊢
  have hpre:∃ l,A.foldl (fun o k=>walkF K n k o) (walkF K n k out)=walkF K n k out++l:=by
   have:∀ (A:List Int) (o:List Int),∃ l,A.foldl (fun o k=>walkF K n k o) o=o++l:=by
    intro A
    induction A with
    | nil=>intro o;exact ⟨[],by simp⟩
    | cons x xs ih =>
     intro o
     obtain ⟨l,e⟩:=walkF_pre K n x o
     obtain ⟨m,e2⟩:=ih (walkF K n x o)
     exact ⟨l++m,by rw [List.foldl_cons,e2,e,List.append_assoc]⟩
   exact this A _
  obtain ⟨l,e⟩:=hpre
  have h1:good (walkF K n k out):=by rw [e] at h;exact h.pre
  obtain ⟨d,h2,h3⟩:=walkF_good K n k out h1
  obtain ⟨fs,e1,h4⟩:=roots_good A (walkF K n k out) h
  exact ⟨(k.toNat,d)::fs,by simp only [topsI,List.map_cons] at e1 ⊢;rw [e1];congr 1;omega,h2.join h4⟩

def depthF (K:List (List Int)):Nat→Int→Nat
 | 0=>fun _=>1
 | n+1=>fun top=>((K.getD top.toNat []).foldl (fun d k=>max d (depthF K n k)) 0)+1

theorem foldl_max (g:Int→Nat):∀ (ks:List Int) (d:Nat),ks.foldl (fun d k=>max d (g k)) d=max d (ks.foldl (fun d k=>max d (g k)) 0)
 | [],d=>by simp
 | k::ks,d=>by
  rw [List.foldl_cons,List.foldl_cons,foldl_max g ks,foldl_max g ks (max 0 (g k))]
  omega

theorem depthF_forest {K:List (List Int)} {a b:Nat} {fs:List (Nat × Nat)} (h:Forest K a fs b):∀ (n:Nat),(∀ p∈fs,p.1<n)→(∀ p∈fs,depthF K n (p.1:Int)=p.2)∧(topsI fs).foldl (fun d k=>max d (depthF K n k)) 0=dep fs:=by
 induction h with
 | nil a=>intro n _;exact ⟨fun p hp=>(by cases hp),rfl⟩
 | @cons a t b ks fs hk ht hf i1 i2 =>
  intro n hn
  have htn:t<n:=hn _ (List.mem_cons_self ..)
  obtain ⟨n',rfl⟩:∃ n',n=n'+1:=⟨n - 1,by omega⟩
  have hlt:=hk.lt
  have e1:depthF K (n'+1) (t:Int)=dep ks+1:=by
   rw [depthF]
   dsimp only
   rw [Int.toNat_natCast,List.getD_eq_getElem?_getD,ht,Option.getD_some,(i1 n' (fun p hp=>by have:=(hlt p hp).2;omega)).2]
  obtain ⟨j1,j2⟩:=i2 (n'+1) (fun p hp=>hn p (List.mem_cons_of_mem _ hp))
  refine ⟨fun p hp=>?_,?_⟩
  ·rcases List.mem_cons.1 hp with e | e
   ·subst e;exact e1
   ·exact j1 p e
  ·rw [show topsI ((t,dep ks+1)::fs)=(t:Int)::topsI fs from rfl,List.foldl_cons,foldl_max,j2,e1,dep]
   omega

theorem good_upto (n:Nat):good (upto 0 n):=fun i x hx=>by
 rw [upto,List.getElem?_map,Option.map_eq_some_iff] at hx
 obtain ⟨j,hj,rfl⟩:=hx
 obtain ⟨h1,h2⟩:=List.getElem?_eq_some_iff.1 hj
 rw [List.getElem_range'] at h2
 omega

theorem shape_iff (K:List (List Int)) (A:List Int) :
  ((A.foldl (fun o k=>walkF K K.length k o) []).length=K.length∧good (A.foldl (fun o k=>walkF K K.length k o) [])∧∀ r∈A,depthF K K.length r≤64)↔∃ S,runT K K.length [] 0=some S∧topsI S=A:=by
 constructor
 ·rintro ⟨h1,h2,h3⟩
  obtain ⟨fs,rfl,hF⟩:=roots_good A [] h2
  rw [h1] at hF
  have hd:=(depthF_forest hF K.length (fun p hp=>(hF.lt p hp).2)).1
  have hr:=runT_forest hF [] (fun p hp=>by
   rw [← hd p hp]
   exact h3 _ (List.mem_map.2 ⟨p,hp,rfl⟩))
  exact ⟨fs,by simpa using hr,rfl⟩
 ·rintro ⟨S,hr,rfl⟩
  obtain ⟨hF,hd⟩:=forest_runT K.length (.nil 0) (fun p hp=>by cases hp) hr
  rw [Nat.zero_add] at hF
  have hw:=walkF_forest hF K.length [] (fun p hp=>(hF.lt p hp).2) rfl nl
  rw [List.nil_append] at hw
  rw [hw]
  refine ⟨by rw [upto_len];omega,good_upto _,fun r hr=>?_⟩
  obtain ⟨p,hp,rfl⟩:=List.mem_map.1 hr
  rw [(depthF_forest hF K.length (fun p hp=>(hF.lt p hp).2)).1 p hp]
  exact hd p hp

end Go.Proofs.YtedlocniojlhfaaGreatDoor

namespace Go.Proofs.YtedlocniojlhfaaGreatDoor
open Go.RowKit
set_option linter.unusedVariables false

structure Nd where
 op:Int
 num:Int
 text:ByteArray
 names:List ByteArray
 kids:List Int

structure St where
 kind:Int
 name:ByteArray
 cond:Int
 grant:Int

def kidN (op:Int):Int:=if 1≤op∧op≤7 then 0 else if 8≤op∧op≤10 then 1 else if 11≤op∧op≤26 then 2 else if op=27 then 3 else -1

def identB (s:ByteArray):Bool:=match toL s with
 | []=>false
 | c::r=>decide ((c::r).length≤32) && ltB c && (c::r).all wdB && !isWd (c::r)

def quotedB (s:ByteArray):Bool:=decide (s.size≤32) && (toL s).all nmB

def stmtS (last:Bool) (s:St):Bool :=
 if s.kind=1 then !last && identB s.name && decide (0≤s.cond) && decide (s.grant=-1)
 else if s.kind=2 then !last && decide (s.name.size=0) && decide (0≤s.cond) && decide (-1≤s.grant)
 else if s.kind=3 then last && decide (s.name.size=0) && decide (s.cond=-1) && decide (-1≤s.grant)
 else false

def stmtI (s:St):Bool :=
 if s.kind=1 then identB s.name && decide (s.grant=-1)
 else if s.kind=2 then decide (s.name.size=0)
 else if s.kind=3 then decide (s.name.size=0) && decide (s.cond=-1)
 else false

def rootsOf (s:St):List Int:=(if 0≤s.cond then [s.cond] else [])++(if 0≤s.grant then [s.grant] else [])
def askedOf (s:St):List Int:=(if s.kind≠3 then [s.cond] else [])++(if s.grant≠-1 then [s.grant] else [])

def stmtsS:List St→Bool
 | []=>true
 | s::r=>stmtS r.isEmpty s && stmtsS r

def stmtsI:List St→Bool
 | []=>true
 | s::r=>stmtI s && (decide (s.kind=3) == r.isEmpty) && stmtsI r

theorem stmts_same:∀ (L:List St),(∀ x∈L.flatMap askedOf,0≤x)→(stmtsI L=true↔stmtsS L=true)
 | [],_=>Iff.rfl
 | s::r,h=>by
  have ih:=stmts_same r (fun x hx=>h x (by rw [List.flatMap_cons];exact List.mem_append_right _ hx))
  have hs:∀ x∈askedOf s,0≤x:=fun x hx=>h x (by rw [List.flatMap_cons];exact List.mem_append_left _ hx)
  rw [stmtsI,stmtsS,Bool.and_eq_true,Bool.and_eq_true,Bool.and_eq_true,ih]
  have e:(stmtI s=true∧(decide (s.kind=3) == r.isEmpty)=true)↔stmtS r.isEmpty s=true:=by
   have hc:s.kind≠3→0≤s.cond:=fun k=>hs _ (by rw [askedOf,if_pos k];simp)
   have hg:s.grant≠-1→0≤s.grant:=fun k=>hs _ (by rw [askedOf,if_pos k];simp)
   generalize r.isEmpty=last
   unfold stmtI stmtS
   by_cases k1:s.kind=1
   ·simp [k1]
    have:=hc (by omega)
    cases last <;> simp [this]
   ·by_cases k2:s.kind=2
    ·simp [k2]
     have h1:=hc (by omega)
     have h2:-1≤s.grant:=by by_cases k:s.grant=-1;omega;have:=hg k;omega
     cases last <;> simp [h1,h2]
    ·by_cases k3:s.kind=3
     ·simp [k3]
      have h2:-1≤s.grant:=by by_cases k:s.grant=-1;omega;have:=hg k;omega
      cases last <;> simp [h2]
     ·simp [k1,k2,k3]
  rw [← e,and_assoc]

theorem roots_asked:∀ {last:Bool} {s:St},stmtS last s=true→rootsOf s=askedOf s∧∀ x∈askedOf s,0≤x:=by
 intro last s h
 unfold stmtS at h
 unfold rootsOf askedOf
 by_cases k1:s.kind=1
 ·simp [k1] at h
  obtain ⟨⟨_,h1⟩,h2⟩:=h
  simp [k1,h1,h2]
 ·by_cases k2:s.kind=2
  ·simp [k2] at h
   obtain ⟨⟨_,h1⟩,h2⟩:=h
   by_cases hg:s.grant=-1
   ·simp [k2,h1,hg]
   ·have:0≤s.grant:=by omega
    simp [k2,h1,hg,this]
  ·by_cases k3:s.kind=3
   ·simp [k3] at h
    obtain ⟨⟨_,h1⟩,h2⟩:=h
    by_cases hg:s.grant=-1
    ·simp [k3,h1,hg]
    ·have:0≤s.grant:=by omega
     simp [k3,h1,hg,this]
   ·simp [k1,k2,k3] at h

theorem roots_all:∀ {L:List St},stmtsS L=true→L.flatMap rootsOf=L.flatMap askedOf∧∀ x∈L.flatMap askedOf,0≤x
 | [],_=>⟨rfl,fun x hx=>by cases hx⟩
 | s::r,h=>by
  rw [stmtsS,Bool.and_eq_true] at h
  obtain ⟨e1,h1⟩:=roots_asked h.1
  obtain ⟨e2,h2⟩:=roots_all h.2
  refine ⟨by rw [List.flatMap_cons,List.flatMap_cons,e1,e2],fun x hx=>?_⟩
  rw [List.flatMap_cons] at hx
  rcases List.mem_append.1 hx with k | k
  ·exact h1 x k
  ·exact h2 x k

def ValidS (N:List Nd) (L:List St):Prop :=
 stmtsS L=true∧((L.flatMap rootsOf).foldl (fun o k=>walkF (N.map Nd.kids) N.length k o) []).length=N.length∧good ((L.flatMap rootsOf).foldl (fun o k=>walkF (N.map Nd.kids) N.length k o) [])∧∀ r∈L.flatMap rootsOf,depthF (N.map Nd.kids) N.length r≤64

def ValidI (N:List Nd) (L:List St):Prop:=stmtsI L=true∧∃ S,runT (N.map Nd.kids) N.length [] 0=some S∧topsI S=L.flatMap askedOf

theorem valid_same (N:List Nd) (L:List St):ValidI N L↔ValidS N L:=by
 have hs:=shape_iff (N.map Nd.kids) (L.flatMap askedOf)
 rw [List.length_map] at hs
 constructor
 ·rintro ⟨h1,S,h2,h3⟩
  have h0:∀ x∈L.flatMap askedOf,0≤x:=by
   rw [← h3]
   intro x hx
   obtain ⟨p,_,rfl⟩:=List.mem_map.1 hx
   omega
  have h4:=(stmts_same L h0).1 h1
  have e:=(roots_all h4).1
  unfold ValidS
  rw [e]
  exact ⟨h4,hs.2 ⟨S,h2,h3⟩⟩
 ·rintro ⟨h1,h2⟩
  obtain ⟨e,h0⟩:=roots_all h1
  rw [e] at h2
  exact ⟨(stmts_same L h0).2 h1,hs.1 h2⟩

end Go.Proofs.YtedlocniojlhfaaGreatDoor

namespace Go.Proofs.YtedlocniojlhfaaGreatDoor
set_option maxHeartbeats 800000
open Go.RowKit

theorem allNames_any (a:Option Addr) (n c:Nat) (ss:List ByteArray) (w:World) (h:Strs w a n c ss) :
  Calls Tryz.prog 83 #[.slice a n c] w fun e w'=>e=.returned (.bool (allB ss))∧w'=w:=by
 have hn:n≤9223372036854775807:=by have:=h.cap;have:=h.small;unfold maxLen at this;omega
 go_enter Tryz.func83,Tryz.ntmps83
 go_wp2
 go_loop [4,7] (fun _ i=>∃ k:Nat,k≤n∧i=.int .i64 k∧∀ j,j<k→vnB (nth ss j)=true) (fun _ i=>n - (intOf i).toNat)
 case atStart=>exact ⟨0,Nat.zero_le _,rfl,fun j hj=>by omega⟩
 case round =>
  obtain ⟨k,hk,rfl,ha⟩:=hrel
  have Ha:=hide ha
  clear ha
  by_cases hlt:k<n
  ·obtain ⟨b,off,ha',_,hc⟩:=h.cells k hlt
   have hsz:=h.sizes k hlt
   subst ha'
   cases hv:vnB (nth ss k)
   ·have Hv:=hide hv
    have Hf:=hide (allB_not ss k (by have:=h.len;omega) hv)
    clear hv
    go_wp2_with (go_at_call 57;refine (iValidName_any _ _ hsz).mono ?_;rintro e w' ⟨rfl,rfl⟩;rw [uh Hv])
    go_ret
    exact ⟨ret_bool (uh Hf).symm,rfl⟩
   ·have Hv:=hide hv
    clear hv
    go_wp2_with (go_at_call 57;refine (iValidName_any _ _ hsz).mono ?_;rintro e w' ⟨rfl,rfl⟩;rw [uh Hv])
    go_round
    case rel =>
     refine ⟨k+1,by omega,by go_num,fun j hj=>?_⟩
     by_cases e:j=k
     ·subst e;exact uh Hv
     ·exact uh Ha j (by omega)
    case measure=>simp [intOf];omega
  ·go_wp2
   go_ret
   exact ⟨ret_bool (allB_of ss fun j hj=>uh Ha j (by have:=h.len;omega)).symm,rfl⟩

end Go.Proofs.YtedlocniojlhfaaGreatDoor

namespace Go.Proofs.YtedlocniojlhfaaGreatDoor
set_option maxHeartbeats 1600000
open Go.RowKit

theorem strictlyRising_any (a:Option Addr) (n c:Nat) (ss:List ByteArray) (w:World) (h:Strs w a n c ss) :
  Calls Tryz.prog 84 #[.slice a n c] w fun e w'=>e=.returned (.bool (risB ss))∧Below w.heap.size w w':=by
 have hn:n≤9223372036854775807:=by have:=h.cap;have:=h.small;unfold maxLen at this;omega
 have Hl:=hide h.len
 go_enter Tryz.func84,Tryz.ntmps84
 go_wp2
 go_loopw [3] (fun i wr=>∃ k:Nat,0<k∧(k≤n∨k=1)∧i=.int .i64 k∧(∀ j,0<j→j<k→sl (nth ss (j - 1)) (nth ss j)=true)∧Below w.heap.size w wr) (fun i _=>n+1 - (intOf i).toNat)
 case atStart=>exact ⟨1,by omega,.inr rfl,rfl,fun j hj hj'=>by omega,Below.refl _ _⟩
 case round =>
  obtain ⟨k,hk0,hk,rfl,ha,hb⟩:=hrel
  have Ha:=hide ha
  clear ha
  by_cases hlt:k<n
  ·obtain ⟨b,off,ha',hbl,hc⟩:=(h.below hb nl).at (by omega)
   have hc1:=hc (k - 1) (by omega)
   have hc2:=hc k hlt
   clear hc
   subst ha'
   have i1:(0:Int)≤(k:Int) - 1:=by omega
   have i2:(k:Int) - 1<(n:Int):=by omega
   have i3:(k:Int)<(n:Int):=by omega
   have t1:((k:Int) - 1).toNat=k - 1:=by omega
   cases hs:Op.bytesLess (nth ss (k - 1)).toList (nth ss k).toList
   ·have Hf:=hide (risB_not ss (k - 1) k (by omega) (by have:=h.len;omega) hs)
    go_wp2
    go_quiet (fail)
    go_wp2
    go_ret
    exact ⟨ret_bool (uh Hf).symm,below_drewN hb _⟩
   ·go_wp2
    go_quiet (fail)
    go_wp2
    go_roundw
    case rel =>
     refine ⟨k+1,by omega,.inl (by omega),by go_num,fun j hj hj'=>?_,?_⟩
     ·by_cases e:j=k
      ·subst e;exact hs
      ·exact uh Ha j hj (by omega)
     ·exact below_drewN hb _
    case measure=>simp [intOf];omega
  ·go_wp2
   go_ret
   exact ⟨ret_bool (risB_of_near ss fun j hj hj'=>uh Ha j hj (by have:=h.len;omega)).symm,hb⟩

theorem iIsSet_any (a:Option Addr) (n c:Nat) (ss:List ByteArray) (w:World) (h:Strs w a n c ss) :
  Calls Tryz.prog 58 #[.slice a n c] w fun e w'=>e=.returned (.bool (setB ss))∧Below w.heap.size w w':=by
 have hl:=h.len
 by_cases h64:n≤64
 ·have g:(n:Int)≤64:=by omega
  have Hs:=hide (setB_short ss (by omega))
  clear hl
  cases ha:allB ss
  ·have Ha:=hide ha
   clear ha
   go_enter Tryz.func58,Tryz.ntmps58
   go_wp2_with (go_at_call 83;refine (allNames_any _ _ _ _ _ h).mono ?_;rintro e w' ⟨rfl,rfl⟩;rw [uh Ha])
   go_ret
   exact ⟨ret_bool (by rw [uh Hs,uh Ha];rfl),Below.refl _ _⟩
  ·have Ha:=hide ha
   clear ha
   go_enter Tryz.func58,Tryz.ntmps58
   go_wp2_with (first | (go_at_call 83;refine (allNames_any _ _ _ _ _ h).mono ?_;rintro e w' ⟨rfl,rfl⟩;rw [uh Ha]) | (go_at_call 84;refine (strictlyRising_any _ _ _ _ _ h).mono ?_;rintro e w' ⟨rfl,hb⟩))
   go_ret
   exact ⟨ret_bool (by rw [uh Hs,uh Ha];rfl),hb⟩
 ·have g:(64:Int)<(n:Int):=by omega
  have Hs:=hide (setB_long ss (by omega))
  clear hl
  go_enter Tryz.func58,Tryz.ntmps58
  go_wp2
  go_ret
  exact ⟨ret_bool (uh Hs).symm,Below.refl _ _⟩

theorem sIsSet_any (a:Option Addr) (n c:Nat) (ss:List ByteArray) (w:World) (h:Strs w a n c ss) :
  Calls Tryz.prog 48 #[.slice a n c] w fun e w'=>e=.returned (.bool (setB ss))∧w'=w:=by
 have hl:=h.len
 by_cases h64:n≤64
 ·have g:(n:Int)≤64:=by omega
  have Hs:=hide (setB_short ss (by omega))
  have Hl:=hide hl
  clear hl
  go_enter Tryz.func48,Tryz.ntmps48
  go_wp2
  go_loop [2,3,4,5,11] (fun _ _ _ _ i=>∃ k:Nat,k≤n∧i=.int .i64 k∧(∀ j,j<k→vnB (nth ss j)=true)∧(∀ i j,i<k→i<j→j<n→sl (nth ss i) (nth ss j)=true)) (fun _ _ _ _ i=>n - (intOf i).toNat)
  case atStart=>exact ⟨0,Nat.zero_le _,rfl,fun j hj=>by omega,fun i j hi=>by omega⟩
  case round =>
   obtain ⟨k,hk,rfl,ha,hp⟩:=hrel
   have Ha:=hide ha
   have Hp:=hide hp
   clear ha hp
   by_cases hlt:k<n
   ·obtain ⟨b,off,ha',_,hc⟩:=h.at (by omega)
    have hck:=hc k hlt
    have Hc:=hide hc
    clear hc
    have hsz:=h.sizes k hlt
    subst ha'
    cases hv:vnB (nth ss k)
    ·have Hv:=hide hv
     have Hf:=hide (allB_not ss k (by have:=uh Hl;omega) hv)
     clear hv
     go_wp2_with (go_at_call 47;refine (sValidName_any _ _ hsz).mono ?_;rintro e w' ⟨rfl,rfl⟩;rw [uh Hv])
     go_ret
     exact ⟨ret_bool (by rw [uh Hs,uh Hf];rfl),rfl⟩
    ·have Hv:=hide hv
     clear hv
     go_wp2_with (go_at_call 47;refine (sValidName_any _ _ hsz).mono ?_;rintro e w' ⟨rfl,rfl⟩;rw [uh Hv])
     go_loop [5] (fun i=>∃ m:Nat,k<m∧m≤n∧i=.int .i64 m∧∀ j,k<j→j<m→sl (nth ss k) (nth ss j)=true) (fun i=>n - (intOf i).toNat)
     case atStart=>exact ⟨k+1,by omega,by omega,by go_num,fun j hj hj'=>by omega⟩
     case round =>
      obtain ⟨m,hkm,hm,rfl,hq⟩:=hrel
      have Hq:=hide hq
      clear hq
      by_cases hmn:m<n
      ·have hcm:=uh Hc m hmn
       cases hs:Op.bytesLess (nth ss k).toList (nth ss m).toList
       ·have Hf:=hide (risB_not ss k m hkm (by have:=uh Hl;omega) hs)
        go_wp2
        go_ret
        exact ⟨ret_bool (by rw [uh Hs,uh Hf,Bool.and_false]),rfl⟩
       ·go_wp2
        go_round
        case rel =>
         refine ⟨m+1,by omega,by omega,by go_num,fun j hj hj'=>?_⟩
         by_cases e:j=m
         ·subst e;exact hs
         ·exact uh Hq j hj (by omega)
        case measure=>simp [intOf];omega
      ·go_wp2
       go_round
       case rel =>
        refine ⟨k+1,by omega,by go_num,fun j hj=>?_,fun i j hi hij hj=>?_⟩
        ·by_cases e:j=k
         ·subst e;exact uh Hv
         ·exact uh Ha j (by omega)
        ·by_cases e:i=k
         ·subst e;exact uh Hq j hij (by omega)
         ·exact uh Hp i j (by omega) hij hj
       case measure=>simp [intOf];omega
   ·go_wp2
    go_ret
    have e1:allB ss=true:=allB_of ss fun j hj=>uh Ha j (by have:=uh Hl;omega)
    have e2:risB ss=true:=(risB_iff ss).2 fun i j hij hj=>uh Hp i j (by have:=uh Hl;omega) hij (by have:=uh Hl;omega)
    exact ⟨ret_bool (by rw [uh Hs,e1,e2];rfl),rfl⟩
 ·have g:(64:Int)<(n:Int):=by omega
  have Hs:=hide (setB_long ss (by omega))
  clear hl
  go_enter Tryz.func48,Tryz.ntmps48
  go_wp2
  go_ret
  exact ⟨ret_bool (uh Hs).symm,rfl⟩

end Go.Proofs.YtedlocniojlhfaaGreatDoor

namespace Go.Proofs.YtedlocniojlhfaaGreatDoor
open Go.RowKit

def eqS (a b:ByteArray):Bool:=a.toList == b.toList

theorem eqS_iff (a b:ByteArray):eqS a b=true↔a=b:=by
 rw [eqS,beq_iff_eq,ByteArray.toList_eq,ByteArray.toList_eq]
 exact ⟨bytes_ext,fun h=>by rw [h]⟩

def hasB (ss:List ByteArray) (s:ByteArray):Bool:=ss.any fun x=>eqS x s

theorem hasB_iff (ss:List ByteArray) (s:ByteArray):hasB ss s=true↔s∈ss:=by
 rw [hasB,List.any_eq_true]
 constructor
 ·rintro ⟨x,hx,he⟩;rw [eqS_iff] at he;subst he;exact hx
 ·intro h;exact ⟨s,h,(eqS_iff _ _).2 rfl⟩

theorem mem_nth (ss:List ByteArray) (s:ByteArray):s∈ss↔∃ j,j<ss.length∧nth ss j=s:=by
 constructor
 ·intro h
  obtain ⟨j,hj,rfl⟩:=List.getElem_of_mem h
  exact ⟨j,hj,nth_eq ss j hj⟩
 ·rintro ⟨j,hj,rfl⟩
  rw [nth_eq ss j hj];exact List.getElem_mem hj

theorem hasB_at (ss:List ByteArray) (s:ByteArray) (j:Nat) (hj:j<ss.length) (h:eqS (nth ss j) s=true):hasB ss s=true:=by
 rw [hasB_iff,mem_nth];exact ⟨j,hj,(eqS_iff _ _).1 h⟩

theorem hasB_none (ss:List ByteArray) (s:ByteArray) (h:∀ j,j<ss.length→eqS (nth ss j) s=false):hasB ss s=false:=by
 rw [Bool.eq_false_iff];intro k;rw [hasB_iff,mem_nth] at k
 obtain ⟨j,hj,e⟩:=k
 have:=h j hj
 rw [(eqS_iff _ _).2 e] at this;cases this

def pick (ss tt:List ByteArray) (b:Bool):List ByteArray:=ss.filter fun s=>hasB tt s == b

theorem take_succ_nth (ss:List ByteArray) (k:Nat) (h:k<ss.length):ss.take (k+1)=ss.take k++[nth ss k]:=by
 rw [nth_eq ss k h,List.take_succ_eq_append_getElem h]

theorem pick_yes (ss tt:List ByteArray) (b:Bool) (k:Nat) (h:k<ss.length) (hv:(hasB tt (nth ss k) == b)=true):pick (ss.take (k+1)) tt b=pick (ss.take k) tt b++[nth ss k]:=by
 rw [take_succ_nth ss k h,pick,pick,List.filter_append]
 simp [hv]

theorem pick_no (ss tt:List ByteArray) (b:Bool) (k:Nat) (h:k<ss.length) (hv:(hasB tt (nth ss k) == b)=false):pick (ss.take (k+1)) tt b=pick (ss.take k) tt b:=by
 rw [take_succ_nth ss k h,pick,pick,List.filter_append]
 simp [hv]

theorem pick_len (ss tt:List ByteArray) (b:Bool):(pick ss tt b).length≤ss.length:=List.length_filter_le _ _

theorem owns_form {w:World} {base e n:Nat} {v:Value} {xs:List Value} (h:w.ownsRow base e 1 v n xs):∃ x c,v=.slice x n c:=by
 rcases h.2 with ⟨rfl,rfl⟩ | ⟨g,cap,cur,rfl,_⟩
 ·exact ⟨_,_,rfl⟩
 ·exact ⟨_,_,rfl⟩

theorem sizes_pick (ss tt:List ByteArray) (b:Bool) (h:∀ j,j<ss.length→(nth ss j).size≤maxLen):∀ j,j<(pick ss tt b).length→(nth (pick ss tt b) j).size≤maxLen:=by
 intro j hj
 have hm:nth (pick ss tt b) j∈ss:=by
  rw [nth_eq _ j hj]
  exact (List.mem_filter.1 (List.getElem_mem hj)).1
 obtain ⟨i,hi,e⟩:=(mem_nth _ _).1 hm
 rw [← e];exact h i hi

end Go.Proofs.YtedlocniojlhfaaGreatDoor

namespace Go.Proofs.YtedlocniojlhfaaGreatDoor
set_option maxRecDepth 100000
set_option maxHeartbeats 6400000
open Go.RowKit
set_option linter.unusedVariables false

theorem wpList_load_cells {P:Program} {ops:Array Oper} {rest:List Oper} {o:Oper} {a:Act} {w:World} {Q:Exit→Act→World→Prop} (hgd:o.guard=none) (ty:TypeId) (x:Operand) (ho:o.op=.load ty x)
  (g:Nat) (hx:a.eval x=.pointer (some ⟨g,0,none⟩)) (cs:Array Value) (d:TypeDesc) (hc:∀ j,w.cell? ⟨g,j,none⟩=cs[j]?)
  (hu:P.underlying ty=some d) (hd:(match d with | .struct _ | .array _ _=>true | _=>false)=true) (hi:(P.info? ty).map (·.size)=some cs.size)
  (h:wpList P ops Q rest (a.put o.dst (.agg cs)) w):wpList P ops Q (o::rest) a w :=
 wpList_plain hgd fun _ hK=>by
  have hl:(loadCells ⟨g,0,none⟩ cs.toList.length).run P w=.ok cs.toList.toArray w :=
   run_loadCells_list (P:=P) w ⟨g,0,none⟩ cs.toList (fun j v hv=>by
    have hadd:(⟨g,0,none⟩:Addr).add j=⟨g,j,none⟩:=by unfold Addr.add;split <;> simp_all
    rw [hadd,hc j]
    simpa using hv)
  have hr:(loadVar ty ⟨g,0,none⟩).run P w=.ok (.agg cs) w:=by
   cases hq:P.info? ty with
   | none=>simp [hq] at hi
   | some i =>
    have hs:i.size=cs.size:=by simpa [hq] using hi
    have hagg:(isAgg ty).run P w=.ok true w:=by
     unfold isAgg
     rw [Sem.run_bind,run_underlying hu w]
     cases d <;> simp_all
    simp only [Array.length_toList,Array.toArray_toList] at hl
    simp [loadVar,Sem.run_bind,hagg,sizeOf,typeInfo,hq,hs,hl]
  unfold Oper.wp execOp
  simp only [ho,hx,Instr.loadAt,Instr.sureAddr,Sem.run_bind,Sem.run_pure,Result.andThen_ok,hr]
  exact hK _ _ h

theorem wpList_index_agg {P:Program} {ops:Array Oper} {rest:List Oper} {o:Oper} {a:Act} {w:World} {Q:Exit→Act→World→Prop} (hgd:o.guard=none) (ty:TypeId) (x y:Operand) (ho:o.op=.index ty x y)
  (cs:Array Value) (hx:a.eval x=.agg cs) (k:Nat) (hy:a.eval y=.int .i64 k) (n:Nat) (e:TypeId) (hu:P.underlying ty=some (.array n e)) (hk:k<n) (d:TypeDesc) (hue:P.underlying e=some d)
  (hd:(match d with | .struct _ | .array _ _=>true | _=>false)=true) (sz:Nat) (hi:(P.info? e).map (·.size)=some sz) (r:Array Value) (hr:cs.extract (k*sz) (k*sz+sz)=r)
  (h:wpList P ops Q rest (a.put o.dst (.agg r)) w):wpList P ops Q (o::rest) a w :=
 wpList_plain hgd fun _ hK=>by
  have hq:(Instr.index ty (.agg cs) (.int .i64 k)).run P w=.ok (.agg r) w:=by
   cases hq:P.info? e with
   | none=>simp [hq] at hi
   | some i =>
    have hs:i.size=sz:=by simpa [hq] using hi
    have hagg:(isAgg e).run P w=.ok true w:=by
     unfold isAgg
     rw [Sem.run_bind,run_underlying hue w]
     cases d <;> simp_all
    have hk2:(0:Int)≤(k:Int)∧(k:Int)<(n:Int):=⟨by omega,by omega⟩
    simp [Instr.index,run_underlying hu,asIntOf,hk2,hk,part,Sem.run_bind,hagg,sizeOf,typeInfo,hq,hs,hr]
  unfold Oper.wp execOp
  simp only [ho,hx,hy,Sem.run_bind,hq,Sem.run_pure,Result.andThen_ok]
  exact hK _ _ h

def binV:Array Value:=#[.int .i64 26,.int .i64 1,.string ⟨#[111,114]⟩,.int .i64 25,.int .i64 2,.string ⟨#[97,110,100]⟩,.int .i64 19,.int .i64 4,.string ⟨#[61,61]⟩,.int .i64 20,.int .i64 4,.string ⟨#[33,61]⟩,.int .i64 21,.int .i64 4,.string ⟨#[60]⟩,.int .i64 22,.int .i64 4,.string ⟨#[60,61]⟩,.int .i64 23,.int .i64 4,.string ⟨#[105,110]⟩,.int .i64 24,.int .i64 4,.string ⟨#[119,105,116,104,105,110]⟩,.int .i64 11,.int .i64 5,.string ⟨#[43]⟩,.int .i64 12,.int .i64 5,.string ⟨#[45]⟩,.int .i64 16,.int .i64 5,.string ⟨#[124]⟩,.int .i64 18,.int .i64 5,.string ⟨#[92]⟩,.int .i64 13,.int .i64 6,.string ⟨#[42]⟩,.int .i64 14,.int .i64 6,.string ⟨#[47]⟩,.int .i64 15,.int .i64 6,.string ⟨#[37]⟩,.int .i64 17,.int .i64 6,.string ⟨#[38]⟩]

structure Opr where
 op:Int
 lv:Int
 text:ByteArray

def opr:Nat→Opr
 | 0=>⟨26,1,⟨#[111,114]⟩⟩
 | 1=>⟨25,2,⟨#[97,110,100]⟩⟩
 | 2=>⟨19,4,⟨#[61,61]⟩⟩
 | 3=>⟨20,4,⟨#[33,61]⟩⟩
 | 4=>⟨21,4,⟨#[60]⟩⟩
 | 5=>⟨22,4,⟨#[60,61]⟩⟩
 | 6=>⟨23,4,⟨#[105,110]⟩⟩
 | 7=>⟨24,4,⟨#[119,105,116,104,105,110]⟩⟩
 | 8=>⟨11,5,⟨#[43]⟩⟩
 | 9=>⟨12,5,⟨#[45]⟩⟩
 | 10=>⟨16,5,⟨#[124]⟩⟩
 | 11=>⟨18,5,⟨#[92]⟩⟩
 | 12=>⟨13,6,⟨#[42]⟩⟩
 | 13=>⟨14,6,⟨#[47]⟩⟩
 | 14=>⟨15,6,⟨#[37]⟩⟩
 | 15=>⟨17,6,⟨#[38]⟩⟩
 | _=>⟨0,0,⟨#[]⟩⟩

theorem binV_row:∀ k,k<16→binV.extract (k*3) (k*3+3)=#[.int .i64 (opr k).op,.int .i64 (opr k).lv,.string (opr k).text]
 | 0,_=>rfl
 | 1,_=>rfl
 | 2,_=>rfl
 | 3,_=>rfl
 | 4,_=>rfl
 | 5,_=>rfl
 | 6,_=>rfl
 | 7,_=>rfl
 | 8,_=>rfl
 | 9,_=>rfl
 | 10,_=>rfl
 | 11,_=>rfl
 | 12,_=>rfl
 | 13,_=>rfl
 | 14,_=>rfl
 | 15,_=>rfl
 | n+16,h=>absurd h (by omega)

theorem opr_some (op:Int) (h:11≤op∧op≤26):∃ k,k<16∧(opr k).op=op:=by
 have:op=11∨op=12∨op=13∨op=14∨op=15∨op=16∨op=17∨op=18∨op=19∨op=20∨op=21∨op=22∨op=23∨op=24∨op=25∨op=26:=by omega
 rcases this with e | e | e | e | e | e | e | e | e | e | e | e | e | e | e | e <;> subst e
 ·exact ⟨8,by decide,rfl⟩
 ·exact ⟨9,by decide,rfl⟩
 ·exact ⟨12,by decide,rfl⟩
 ·exact ⟨13,by decide,rfl⟩
 ·exact ⟨14,by decide,rfl⟩
 ·exact ⟨10,by decide,rfl⟩
 ·exact ⟨15,by decide,rfl⟩
 ·exact ⟨11,by decide,rfl⟩
 ·exact ⟨2,by decide,rfl⟩
 ·exact ⟨3,by decide,rfl⟩
 ·exact ⟨4,by decide,rfl⟩
 ·exact ⟨5,by decide,rfl⟩
 ·exact ⟨6,by decide,rfl⟩
 ·exact ⟨7,by decide,rfl⟩
 ·exact ⟨1,by decide,rfl⟩
 ·exact ⟨0,by decide,rfl⟩

theorem opr_in:∀ k,k<16→11≤(opr k).op∧(opr k).op≤26
 | 0,_ | 1,_ | 2,_ | 3,_ | 4,_ | 5,_ | 6,_ | 7,_ | 8,_ | 9,_ | 10,_ | 11,_ | 12,_ | 13,_ | 14,_ | 15,_=>by decide
 | n+16,h=>absurd h (by omega)

def isBin (op:Int):Bool:=decide (11≤op∧op≤26)

def BinAns (op:Int) (e:Ending):Prop:=∃ (x y:Int) (s:ByteArray),e=.returned (.tuple #[.agg #[.int .i64 x,.int .i64 y,.string s],.bool (isBin op)])

theorem row3 {w:World} {b:Nat} {v0 v1 v2:Value} {t:TypeId} (R:Row w b #[v0,v1,v2] t):w.cell? ⟨b,0,none⟩=some v0∧w.cell? ⟨b,1,none⟩=some v1∧w.cell? ⟨b,2,none⟩=some v2∧∀ j,w.frozen? ⟨b,j,none⟩=false :=
 ⟨R.cell 0,R.cell 1,R.cell 2,fun j=>R.frozen j⟩

theorem res_bin {fn:Func} {a b:Tmp} (h:fn.results=#[.cell a 230,.tmp b]) {tmps:Array Value} {w:World} {g:Nat} {v0 v1 v2 u:Value} (ha:tmps.getD a undef=.pointer (some ⟨g,0,none⟩)) (hb:tmps.getD b undef=u)
  (g0:w.cell? ⟨g,0,none⟩=some v0) (g1:w.cell? ⟨g,1,none⟩=some v1) (g2:w.cell? ⟨g,2,none⟩=some v2) :
  (results fn tmps).run Tryz.prog w=.ok (.tuple #[.agg #[v0,v1,v2],u]) w:=by
 rw [Array.getD_eq_getD_getElem?] at ha hb
 simp [results,h,ha,hb,go_sem,g0,g1,g2]

theorem binaryOperator_any (op:Int) (w:World) (hw:7<w.heap.size) (hc:∀ k,w.cell? ⟨7,k,none⟩=binV[k]?) :
  Calls Tryz.prog 126 #[.int .i64 op] w fun e w'=>BinAns op e∧Below w.heap.size w w':=by
 have HC:=hide (show ∀ k,(w.alloc (.cells #[.int .i64 0,.int .i64 0,.string ⟨#[]⟩] 230)).cell? ⟨7,k,none⟩=binV[k]? from fun k=>(World.cell?_alloc_lt _ _ ⟨7,k,none⟩ hw).trans (hc k))
 clear hc
 have B0:=(Below.refl w.heap.size w).alloc nl (.cells #[.int .i64 0,.int .i64 0,.string ⟨#[]⟩] 230)
 have R0:=Row.new w #[.int .i64 0,.int .i64 0,.string ⟨#[]⟩] 230
 go_enter Tryz.func126,Tryz.ntmps126
 go_wp2_with (refine wpList_load_cells rfl 248 _ rfl 7 rfl binV _ (uh HC) Tryz.underlying248 rfl (by kernel_rfl) ?_)
 clear HC
 go_loopw [7] (fun i wr=>∃ k:Nat,k≤16∧i=.int .i64 k∧Below w.heap.size w wr∧Row wr w.heap.size #[.int .i64 0,.int .i64 0,.string ⟨#[]⟩] 230∧∀ j,j<k→(opr j).op≠op) (fun i _=>16 - (intOf i).toNat)
 case atStart=>exact ⟨0,by omega,rfl,B0,R0,fun j h=>absurd h (by omega)⟩
 case round =>
  obtain ⟨k,hk,rfl,B1,R1,hn⟩:=hrel
  have Hn:=hide hn
  clear hn B0 R0
  by_cases hlt:k<16
  ·have ilt:(k:Int)<16:=by omega
   have HR:=hide (binV_row k hlt)
   have HI:=hide (opr_in k hlt)
   have Hlt:=hide hlt
   have z1:=R1.lt
   have HE:=hide (show (opr k).op≠op→∀ j,j<k+1→(opr j).op≠op from fun e j hj=>by
    by_cases ej:j=k
    ·subst ej;exact e
    ·exact uh Hn j (by omega))
   have HB:=hide (show (opr k).op=op→isBin op=true from fun e=>by rw [← e];exact decide_eq_true (uh HI))
   clear Hn HI hlt
   generalize opr k=o at HR HE HB
   have B2:=B1.alloc B1.size (.cells #[.int .i64 o.op,.int .i64 o.lv,.string o.text] 230)
   have R2:=R1.alloc (.cells #[.int .i64 o.op,.int .i64 o.lv,.string o.text] 230)
   have R3:=Row.new wr #[.int .i64 o.op,.int .i64 o.lv,.string o.text] 230
   by_cases ho:o.op=op
   ·have eo:(o.op == op)=true:=beq_iff_eq.2 ho
    have HB2:=hide (uh HB ho)
    clear ho HB HE
    obtain ⟨q0,q1,q2,qf⟩:=row3 R1
    go_wp2_with (refine wpList_index_agg rfl 248 _ _ rfl binV rfl k rfl 16 230 Tryz.underlying248 (uh Hlt) _ Tryz.underlying230 rfl 3 (by kernel_rfl) _ (uh HR) ?_)
    have RF:Row _ w.heap.size #[.int .i64 o.op,.int .i64 o.lv,.string o.text] 230:=(((R1.set 0 (.int .i64 o.op)).set 1 (.int .i64 o.lv)).set 2 (.string o.text)).alloc (.cells #[.int .i64 o.op,.int .i64 o.lv,.string o.text] 230)
    have BF:=(((B1.setCell (p:=⟨w.heap.size,0,none⟩) nl (.int .i64 o.op)).setCell (p:=⟨w.heap.size,1,none⟩) nl (.int .i64 o.lv)).setCell (p:=⟨w.heap.size,2,none⟩) nl (.string o.text))
    have BG:=BF.alloc BF.size (.cells #[.int .i64 o.op,.int .i64 o.lv,.string o.text] 230)
    obtain ⟨g0,g1,g2,gf⟩:=row3 RF
    exact bodyPost_ret (res_bin Tryz.results126 rfl rfl g0 g1 g2) rfl ⟨⟨_,_,_,by rw [uh HB2];rfl⟩,BG⟩
   ·have eo:(o.op == op)=false:=beq_eq_false_iff_ne.2 ho
    have HE2:=hide (uh HE ho)
    clear ho HB HE
    go_wp2_with (refine wpList_index_agg rfl 248 _ _ rfl binV rfl k rfl 16 230 Tryz.underlying248 (uh Hlt) _ Tryz.underlying230 rfl 3 (by kernel_rfl) _ (uh HR) ?_)
    go_roundw
    case rel=>exact ⟨k+1,uh Hlt,by go_num,B2,R2,uh HE2⟩
    case measure=>have:=uh Hlt;simp [intOf];omega
  ·have e:k=16:=by omega
   subst e
   have HB:=hide (show isBin op=false from decide_eq_false fun h=>by
    obtain ⟨j,hj,e⟩:=opr_some op h
    exact uh Hn j hj e)
   clear Hn
   obtain ⟨q0,q1,q2,qf⟩:=row3 R1
   go_wp2_with fail
   have RF:Row _ w.heap.size #[.int .i64 0,.int .i64 0,.string ⟨#[]⟩] 230:=((R1.set 0 (.int .i64 0)).set 1 (.int .i64 0)).set 2 (.string ⟨#[]⟩)
   have BF:=(((B1.setCell (p:=⟨w.heap.size,0,none⟩) nl (.int .i64 0)).setCell (p:=⟨w.heap.size,1,none⟩) nl (.int .i64 0)).setCell (p:=⟨w.heap.size,2,none⟩) nl (.string ⟨#[]⟩))
   obtain ⟨g0,g1,g2,gf⟩:=row3 RF
   exact bodyPost_ret (res_bin Tryz.results126 rfl rfl g0 g1 g2) rfl ⟨⟨_,_,_,by rw [uh HB];rfl⟩,BF⟩

theorem kidCount_any (op:Int) (w:World) (hw:7<w.heap.size) (hc:∀ k,w.cell? ⟨7,k,none⟩=binV[k]?) :
  Calls Tryz.prog 109 #[.int .i64 op] w fun e w'=>e=.returned (.int .i64 (kidN op))∧Below w.heap.size w w':=by
 have HC:=hide hc
 clear hc
 by_cases h0:1≤op∧op≤7
 ·have:op=1∨op=2∨op=3∨op=4∨op=5∨op=6∨op=7:=by omega
  rcases this with e | e | e | e | e | e | e <;> subst e <;> (go_enter Tryz.func109,Tryz.ntmps109;go_wp2;go_ret;exact ⟨rfl,Below.refl _ _⟩)
 by_cases h1:8≤op∧op≤10
 ·have:op=8∨op=9∨op=10:=by omega
  rcases this with e | e | e <;> subst e <;> (go_enter Tryz.func109,Tryz.ntmps109;go_wp2;go_ret;exact ⟨rfl,Below.refl _ _⟩)
 by_cases h3:op=27
 ·subst h3
  go_enter Tryz.func109,Tryz.ntmps109
  go_wp2
  go_ret
  exact ⟨rfl,Below.refl _ _⟩
 have HK:=hide (show kidN op=if isBin op=true then 2 else -1 by
  rw [kidN,if_neg h0,if_neg h1,isBin]
  by_cases h2:11≤op∧op≤26
  ·rw [if_pos h2,if_pos (decide_eq_true h2)]
  ·rw [if_neg h2,if_neg h3,if_neg (by rw [decide_eq_false h2];decide)])
 have e1:(op == 1)=false:=beq_eq_false_iff_ne.2 (by omega)
 have e2:(op == 2)=false:=beq_eq_false_iff_ne.2 (by omega)
 have e3:(op == 3)=false:=beq_eq_false_iff_ne.2 (by omega)
 have e4:(op == 4)=false:=beq_eq_false_iff_ne.2 (by omega)
 have e5:(op == 5)=false:=beq_eq_false_iff_ne.2 (by omega)
 have e6:(op == 6)=false:=beq_eq_false_iff_ne.2 (by omega)
 have e7:(op == 7)=false:=beq_eq_false_iff_ne.2 (by omega)
 have e8:(op == 8)=false:=beq_eq_false_iff_ne.2 (by omega)
 have e9:(op == 9)=false:=beq_eq_false_iff_ne.2 (by omega)
 have e10:(op == 10)=false:=beq_eq_false_iff_ne.2 (by omega)
 have e27:(op == 27)=false:=beq_eq_false_iff_ne.2 (by omega)
 clear h0 h1 h3
 go_enter Tryz.func109,Tryz.ntmps109
 cases hb:isBin op
 ·have Hb:=hide hb
  clear hb
  go_wp2_with (go_at_call 126;refine (binaryOperator_any _ _ hw (uh HC)).mono ?_;rintro e w2 ⟨⟨v0,v1,v2,rfl⟩,hb2⟩;rw [uh Hb])
  go_ret
  exact ⟨by rw [uh HK,uh Hb];rfl,hb2.alloc hb2.size _⟩
 ·have Hb:=hide hb
  clear hb
  go_wp2_with (go_at_call 126;refine (binaryOperator_any _ _ hw (uh HC)).mono ?_;rintro e w2 ⟨⟨v0,v1,v2,rfl⟩,hb2⟩;rw [uh Hb])
  go_ret
  exact ⟨by rw [uh HK,uh Hb];rfl,hb2.alloc hb2.size _⟩

end Go.Proofs.YtedlocniojlhfaaGreatDoor

namespace Go.Proofs.YtedlocniojlhfaaGreatDoor
open Go.RowKit

theorem Strs.setFar {w:World} {a:Option Addr} {n c:Nat} {ss:List ByteArray} (h:Strs w a n c ss) {p:Addr} (hp:∀ x,a=some x→p.block≠x.block) (u:Value):Strs (w.setCell p u) a n c ss :=
 ⟨h.len,h.cap,h.small,h.sizes,fun j hj=>by
  obtain ⟨b,off,ha,hlt,hc⟩:=h.cells j hj
  refine ⟨b,off,ha,by simpa using hlt,?_⟩
  rw [← hc]
  exact World.cell?_of_block (heap_setCell_other w p b u (fun e=>hp _ ha e.symm))⟩

theorem Strs.drewN {w:World} {a:Option Addr} {n c:Nat} {ss:List ByteArray} (h:Strs w a n c ss) (k:Nat):Strs (w.drewN k) a n c ss :=
 h.below (below_drewN (Below.refl w.heap.size w) k) nl

end Go.Proofs.YtedlocniojlhfaaGreatDoor

namespace Go.Proofs.YtedlocniojlhfaaGreatDoor
set_option maxRecDepth 100000
set_option maxHeartbeats 3200000
open Go.RowKit
set_option linter.unusedVariables false

structure Ints (w:World) (a:Option Addr) (n c:Nat) (L:List Int):Prop where
 len:L.length=n
 small:n≤1048576
 cells:∀ j,(h:j<L.length)→∃ b off,a=some ⟨b,off,none⟩∧b<w.heap.size∧w.cell? ⟨b,off+j,none⟩=some (.int .i64 L[j])

theorem Ints.below {w w':World} {B:Nat} {a:Option Addr} {n c:Nat} {L:List Int} (h:Ints w a n c L) (hb:Below B w w') (hB:w.heap.size≤B):Ints w' a n c L :=
 ⟨h.len,h.small,fun j hj=>by
  obtain ⟨b,off,ha,hl,c0⟩:=h.cells j hj
  exact ⟨b,off,ha,Nat.lt_of_lt_of_le hl hb.size,(hb.cell (p:=⟨b,off+j,none⟩) (by show b<B;omega)).trans c0⟩⟩

theorem eq_iff_at (A B:List Int) (hl:A.length=B.length):A=B↔∀ j,(h:j<A.length)→A[j]=B[j]'(hl ▸ h):=by
 constructor
 ·intro e j h;subst e;rfl
 ·intro h;exact List.ext_getElem hl (fun j h1 h2=>h j h1)

theorem below_drewM (w:World) (m:Nat):Below w.heap.size w (w.drewN m):=by
 exact ⟨(Below.refl w.heap.size w).os,(Below.refl w.heap.size w).tape,(Below.refl w.heap.size w).output,nl,fun _ _=>rfl⟩

theorem drewN_more {w wr:World} (h:∃ m,wr=w.drewN m):∃ m,wr.drew=w.drewN m:=by
 obtain ⟨m,rfl⟩:=h
 exact ⟨m+1,rfl⟩

theorem equalI_q (a b:Option Addr) (n c m d:Nat) (A B:List Int) (w:World) (h1:Ints w a n c A) (h2:Ints w b m d B) :
  Calls Tryz.prog 56 #[.slice a n c,.slice b m d] w fun e w'=>e=.returned (.bool (decide (A=B)))∧∃ m,w'=w.drewN m:=by
 have s1:=h1.small
 have s2:=h2.small
 have HA:=hide h1.len
 have HB:=hide h2.len
 by_cases hnm:n=m
 ·have enm:((n:Int) != (m:Int))=false:=by rw [hnm];simp
  have Hll:=hide (show A.length=B.length by rw [h1.len,h2.len,hnm])
  have HE:=hide (eq_iff_at A B (uh Hll))
  have Hnm:=hide hnm
  clear hnm
  go_enter Tryz.func56,Tryz.ntmps56
  go_wp2_with fail
  go_loopw [13] (fun i wr=>∃ k:Nat,k≤n∧i=.int .i64 k∧(∃ m,wr=w.drewN m)∧∀ j,(h:j<A.length)→j<k→A[j]=B[j]'(uh Hll ▸ h)) (fun i _=>n - (intOf i).toNat)
  case atStart=>exact ⟨0,by omega,rfl,⟨0,rfl⟩,fun j _ h=>absurd h (by omega)⟩
  case round =>
   obtain ⟨k,hk,rfl,hdr,hal⟩:=hrel
   have HD:=hide hdr
   have B1:Below w.heap.size w wr:=by obtain ⟨dn,rfl⟩:=hdr;exact below_drewM w dn
   clear hdr
   have Ha:=hide hal
   clear hal
   by_cases hlt:k<n
   ·have ilt:(k:Int)<(n:Int):=by omega
    have ilm:(k:Int)<(m:Int):=by have:=uh Hnm;omega
    have hka:k<A.length:=by rw [uh HA];exact hlt
    have hkb:k<B.length:=by rw [uh HB,← uh Hnm];exact hlt
    obtain ⟨b1,o1,rfl,hl1,c1⟩:=(h1.below B1 nl).cells k hka
    obtain ⟨b2,o2,rfl,hl2,c2⟩:=(h2.below B1 nl).cells k hkb
    have Hno:=hide (show A[k]≠B[k]→decide (A=B)=false from fun e=>decide_eq_false (fun e'=>e ((uh HE).1 e' k hka)))
    have HN:=hide (show A[k]=B[k]→∀ j,(h:j<A.length)→j<k+1→A[j]=B[j]'(uh Hll ▸ h) from fun e j hj h'=>by
     by_cases ej:j=k
     ·subst ej;exact e
     ·exact uh Ha j hj (by omega))
    have Hlt:=hide hlt
    clear Ha
    generalize A[k]=x at c1 Hno HN
    generalize B[k]=y at c2 Hno HN
    by_cases hxy:x=y
    ·have exy:(x != y)=false:=by rw [hxy];simp
     have HN2:=hide (uh HN hxy)
     clear hxy Hno HN
     go_wp2_with fail
     go_region
     go_wp2_with fail
     go_roundw
     case rel=>exact ⟨k+1,uh Hlt,by go_num,drewN_more (uh HD),uh HN2⟩
     case measure=>have:=uh Hlt;simp [intOf];omega
    ·have exy:(x != y)=true:=bne_iff_ne.2 hxy
     have HX:=hide (uh Hno hxy)
     clear hxy Hno HN
     go_wp2_with fail
     go_region
     go_wp2_with fail
     go_ret
     exact ⟨ret_bool (uh HX).symm,drewN_more (uh HD)⟩
   ·have e:k=n:=by omega
    subst e
    have HX:=hide (show decide (A=B)=true from decide_eq_true ((uh HE).2 (fun j hj=>uh Ha j hj (by have:=uh HA;omega))))
    go_wp2
    go_ret
    exact ⟨ret_bool (uh HX).symm,uh HD⟩
 ·have enm:((n:Int) != (m:Int))=true:=bne_iff_ne.2 (by omega)
  have HX:=hide (show decide (A=B)=false from decide_eq_false (fun e=>hnm (by rw [← h1.len,← h2.len,e])))
  clear hnm
  go_enter Tryz.func56,Tryz.ntmps56
  go_wp2
  go_ret
  exact ⟨ret_bool (uh HX).symm,0,rfl⟩

theorem equalI_any (a b:Option Addr) (n c m d:Nat) (A B:List Int) (w:World) (h1:Ints w a n c A) (h2:Ints w b m d B) :
  Calls Tryz.prog 56 #[.slice a n c,.slice b m d] w fun e w'=>e=.returned (.bool (decide (A=B)))∧Below w.heap.size w w' :=
 (equalI_q a b n c m d A B w h1 h2).mono fun e w' h=>⟨h.1,by obtain ⟨m,rfl⟩:=h.2;exact below_drewM w m⟩

end Go.Proofs.YtedlocniojlhfaaGreatDoor

namespace Go.Proofs.YtedlocniojlhfaaGreatDoor
open Go.RowKit
set_option linter.unusedVariables false

inductive Ex where
 | int (i n:Int)
 | text (i:Int) (s:ByteArray)
 | bool (i:Int) (b:Bool)
 | set (i:Int) (a:Option Addr) (n c:Nat) (ss:List ByteArray)
 | name (i:Int) (s:ByteArray)
 | attr (i n:Int)
 | lett (i n:Int)
 | un (i op:Int) (k:Ex)
 | bin (i op:Int) (l r:Ex)
 | ite (i:Int) (c t e:Ex)

def Ex.val:Ex→Value
 | .int i n=>.iface 150 (.agg #[.int .i64 i,.int .i64 n])
 | .text i s=>.iface 153 (.agg #[.int .i64 i,.string s])
 | .bool i b=>.iface 156 (.agg #[.int .i64 i,.bool b])
 | .set i a n c _=>.iface 158 (.agg #[.int .i64 i,.slice a n c])
 | .name i s=>.iface 206 (.agg #[.int .i64 i,.string s])
 | .attr i n=>.iface 159 (.agg #[.int .i64 i,.int .i64 n])
 | .lett i n=>.iface 161 (.agg #[.int .i64 i,.int .i64 n])
 | .un i op k=>.iface 163 (.agg #[.int .i64 i,.int .i64 op,k.val])
 | .bin i op l r=>.iface 166 (.agg #[.int .i64 i,.int .i64 op,l.val,r.val])
 | .ite i c t e=>.iface 169 (.agg #[.int .i64 i,c.val,t.val,e.val])

def Ex.op:Ex→Int
 | .int ..=>1 | .text ..=>2 | .bool ..=>3 | .set ..=>4 | .name ..=>5 | .attr ..=>6 | .lett ..=>7
 | .un _ op _=>op | .bin _ op _ _=>op | .ite ..=>27

def Ex.cnt:Ex→Nat
 | .un _ _ k=>k.cnt+1
 | .bin _ _ l r=>l.cnt+r.cnt+1
 | .ite _ c t e=>c.cnt+t.cnt+e.cnt+1
 | _=>1

def lvN (op:Int):Int :=
 if op=27 then 0 else if op=26 then 1 else if op=25 then 2 else if op=9 then 3 else if 19≤op∧op≤24 then 4
 else if op=11∨op=12∨op=16∨op=18 then 5 else if op=13∨op=14∨op=15∨op=17 then 6 else if op=8 then 7 else 8

def signs:List ByteArray:=[⟨#[43]⟩,⟨#[45]⟩,⟨#[42]⟩,⟨#[47]⟩,⟨#[37]⟩,⟨#[124]⟩,⟨#[38]⟩,⟨#[92]⟩,⟨#[61,61]⟩,⟨#[33,61]⟩,⟨#[60]⟩,⟨#[60,61]⟩,⟨#[105,110]⟩,⟨#[119,105,116,104,105,110]⟩,⟨#[97,110,100]⟩,⟨#[111,114]⟩]

def signB (op:Int):ByteArray:=signs.getD (op - 11).toNat ⟨#[]⟩

def numB (k:Nat):ByteArray:=⟨(Lib.decDigits k).toArray⟩

def itemsT (first:Bool):List ByteArray→ByteArray
 | []=>⟨#[]⟩
 | x::r=>(if first then ⟨#[]⟩ else ⟨#[44,32]⟩)++(⟨#[34]⟩++x++⟨#[34]⟩)++itemsT false r

def setT (ss:List ByteArray):ByteArray:=⟨#[123]⟩++itemsT true ss++⟨#[125]⟩

def par (b:Bool) (s:ByteArray):ByteArray:=if b then ⟨#[40]⟩++s++⟨#[41]⟩ else s

def leftN (op:Int):Int:=if lvN op=4 then 5 else lvN op

def Ex.pr:Ex→ByteArray
 | .int _ n=>numB n.toNat
 | .text _ s=>⟨#[34]⟩++s++⟨#[34]⟩
 | .bool _ b=>if b then ⟨#[116,114,117,101]⟩ else ⟨#[102,97,108,115,101]⟩
 | .set _ _ _ _ ss=>setT ss
 | .name _ s=>s
 | .attr ..=>⟨#[]⟩
 | .lett ..=>⟨#[]⟩
 | .un _ op k=>if op=8 then ⟨#[45]⟩++par (decide (lvN k.op<7)) k.pr else if op=9 then ⟨#[110,111,116,32]⟩++par (decide (lvN k.op<3)) k.pr
  else ⟨#[115,105,122,101,40]⟩++k.pr++⟨#[41]⟩
 | .bin _ op l r=>par (decide (lvN l.op<leftN op)) l.pr++(⟨#[32]⟩++signB op++⟨#[32]⟩)++par (decide (lvN r.op<lvN op+1)) r.pr
 | .ite _ c t e=>⟨#[105,102,32]⟩++c.pr++⟨#[32,116,104,101,110,32]⟩++t.pr++⟨#[32,101,108,115,101,32]⟩++e.pr

def Ex.put (e:Ex) (want:Int):ByteArray:=par (decide (lvN e.op<want)) e.pr

def Ex.fit (w:World):Ex→Prop
 | .int _ n=>0≤n∧n≤9223372036854775807
 | .text _ s=>s.size≤32
 | .bool ..=>True
 | .set _ a n c ss=>Strs w a n c ss∧n≤64∧∀ x∈ss,x.size≤32
 | .name _ s=>s.size≤32
 | .attr ..=>False
 | .lett ..=>False
 | .un _ op k=>(8≤op∧op≤10)∧k.fit w
 | .bin _ op l r=>(11≤op∧op≤26)∧l.fit w∧r.fit w
 | .ite _ c t e=>c.fit w∧t.fit w∧e.fit w

inductive IsT (N:List Nd):Nat→Ex→Prop
 | int {i:Nat} {x:Nd} (h:N[i]?=some x) (ho:x.op=1) (hk:x.kids=[]):IsT N i (.int i x.num)
 | text {i:Nat} {x:Nd} (h:N[i]?=some x) (ho:x.op=2) (hk:x.kids=[]):IsT N i (.text i x.text)
 | bool {i:Nat} {x:Nd} (h:N[i]?=some x) (ho:x.op=3) (hk:x.kids=[]):IsT N i (.bool i (decide (x.num=1)))
 | set {i:Nat} {x:Nd} (h:N[i]?=some x) (ho:x.op=4) (hk:x.kids=[]) (a:Option Addr) (n c:Nat):IsT N i (.set i a n c x.names)
 | name {i:Nat} {x:Nd} (h:N[i]?=some x) (ho:x.op=5) (hk:x.kids=[]):IsT N i (.name i x.text)
 | attr {i:Nat} {x:Nd} (h:N[i]?=some x) (ho:x.op=6) (hk:x.kids=[]):IsT N i (.attr i x.num)
 | lett {i:Nat} {x:Nd} (h:N[i]?=some x) (ho:x.op=7) (hk:x.kids=[]):IsT N i (.lett i x.num)
 | un {i k:Nat} {x:Nd} {e:Ex} (h:N[i]?=some x) (ho:8≤x.op∧x.op≤10) (hk:x.kids=[(k:Int)]) (hi:k<i) (t:IsT N k e):IsT N i (.un i x.op e)
 | bin {i k l:Nat} {x:Nd} {e f:Ex} (h:N[i]?=some x) (ho:11≤x.op∧x.op≤26) (hk:x.kids=[(k:Int),(l:Int)]) (hi:k<i∧l<i) (t:IsT N k e) (u:IsT N l f):IsT N i (.bin i x.op e f)
 | ite {i k l m:Nat} {x:Nd} {e f g:Ex} (h:N[i]?=some x) (ho:x.op=27) (hk:x.kids=[(k:Int),(l:Int),(m:Int)]) (hi:k<i∧l<i∧m<i) (t:IsT N k e) (u:IsT N l f) (v:IsT N m g):IsT N i (.ite i e f g)

theorem IsT.lt {N:List Nd} {i:Nat} {e:Ex} (h:IsT N i e):i<N.length:=by
 cases h <;> exact (List.getElem?_eq_some_iff.1 (by assumption)).1

theorem IsT.op {N:List Nd} {i:Nat} {e:Ex} (h:IsT N i e):∃ x,N[i]?=some x∧x.op=e.op:=by
 cases h <;> exact ⟨_,by assumption,by first | assumption | rfl⟩

def cnts (Es:List Ex):Nat:=(Es.map Ex.cnt).sum

theorem forest_cnt {N:List Nd} {a b:Nat} {fs:List (Nat × Nat)} (h:Forest (N.map Nd.kids) a fs b):∀ (Es:List Ex),Es.length=fs.length→(∀ j,(h1:j<fs.length)→(h2:j<Es.length)→IsT N fs[j].1 Es[j])→a+cnts Es=b:=by
 induction h with
 | nil a =>
  intro Es hl _
  have:Es=[]:=List.eq_nil_of_length_eq_zero hl
  subst this
  simp [cnts]
 | @cons a t b ks fs hk ht hf i1 i2 =>
  intro Es hl hE
  match Es,hl with
  | e::Es,hl =>
   have he:IsT N t e:=hE 0 (by simp) (by simp)
   have hr:=i2 Es (by simpa using hl) (fun j h1 h2=>hE (j+1) (by simpa using h1) (by simpa using h2))
   have hkid:∃ x,N[t]?=some x∧x.kids=topsI ks:=by
    rw [List.getElem?_map] at ht
    cases hx:N[t]? with
    | none=>rw [hx] at ht;cases ht
    | some x=>rw [hx] at ht;exact ⟨x,rfl,Option.some.inj ht⟩
   obtain ⟨x,hx,hxk⟩:=hkid
   have key:a+e.cnt=t+1:=by
    have kk:∀ (Fs:List Ex) (qs:List Nat),x.kids=qs.map (fun (q:Nat)=>(q:Int))→Fs.length=qs.length→(∀ j,(h1:j<qs.length)→(h2:j<Fs.length)→IsT N qs[j] Fs[j])→a+cnts Fs=t:=by
     intro Fs qs hq hFl hF
     have e1:ks.map (fun p=>p.1)=qs:=by
      have:=hxk.symm.trans hq
      rw [topsI] at this
      have h2:=congrArg (List.map Int.toNat) this
      simpa [List.map_map,Function.comp_def] using h2
     have e2:ks.length=Fs.length:=by rw [hFl,← e1,List.length_map]
     exact (i1 Fs e2.symm (fun j h1 h2=>by
      have:=hF j (by rw [← e1,List.length_map];exact h1) h2
      have e3:qs[j]'(by rw [← e1,List.length_map];exact h1)=ks[j].1:=by simp [← e1]
      rw [← e3]
      exact this))
    have one:∀ {y:Nd},N[t]?=some y→y=x:=fun h=>Option.some.inj (h.symm.trans hx)
    have none':x.kids=[]→a=t:=fun h0=>by
     have:=kk [] [] (by rw [h0];rfl) rfl (fun j h=>absurd h (by simp))
     simpa [cnts] using this
    cases he with
    | int h ho hk=>rw [none' (one h ▸ hk)];rfl
    | text h ho hk=>rw [none' (one h ▸ hk)];rfl
    | bool h ho hk=>rw [none' (one h ▸ hk)];rfl
    | set h ho hk a n c=>rw [none' (one h ▸ hk)];rfl
    | name h ho hk=>rw [none' (one h ▸ hk)];rfl
    | attr h ho hk=>rw [none' (one h ▸ hk)];rfl
    | lett h ho hk=>rw [none' (one h ▸ hk)];rfl
    | @un i k y e h ho hk hi u =>
     have:=kk [e] [k] (by rw [← one h,hk];rfl) rfl (fun j h1 h2=>by
      have:j=0:=by simpa using h1
      subst this
      exact u)
     simp [cnts] at this
     simp only [Ex.cnt]
     omega
    | @bin i k l y e f h ho hk hi u v =>
     have:=kk [e,f] [k,l] (by rw [← one h,hk];rfl) rfl (fun j h1 h2=>by
      match j,h1 with
      | 0,_=>exact u
      | 1,_=>exact v)
     simp [cnts] at this
     simp only [Ex.cnt]
     omega
    | @ite i k l m y e f g h ho hk hi u v z =>
     have:=kk [e,f,g] [k,l,m] (by rw [← one h,hk];rfl) rfl (fun j h1 h2=>by
      match j,h1 with
      | 0,_=>exact u
      | 1,_=>exact v
      | 2,_=>exact z)
     simp [cnts] at this
     simp only [Ex.cnt]
     omega
   have e5:cnts (e::Es)=e.cnt+cnts Es:=by simp [cnts]
   rw [e5]
   omega

end Go.Proofs.YtedlocniojlhfaaGreatDoor

namespace Go.Proofs.YtedlocniojlhfaaGreatDoor
open Go.RowKit
set_option linter.unusedVariables false

def attrTy (n:Int):Int:=if n<2 then 3 else if n<4 then 2 else 4

def tyOp (op:Int):List Int→Int
 | [a]=>if op=8∧a=2 then 2 else if op=9∧a=1 then 1 else if op=10∧a=4 then 2 else 0
 | [a,b]=>if (11≤op∧op≤15)∧a=2∧b=2 then 2 else if (16≤op∧op≤18)∧a=4∧b=4 then 4
  else if (op=19∨op=20)∧a=b then 1 else if (op=21∨op=22)∧a=2∧b=2 then 1 else if op=23∧a=3∧b=4 then 1
  else if op=24∧a=4∧b=4 then 1 else if (op=25∨op=26)∧a=1∧b=1 then 1 else 0
 | [a,b,c]=>if a=1∧b=c then b else 0
 | _=>0

def nz (t:Int):Option Int:=if t=0 then none else some t

def tyE (ts:List Int):Ex→Option Int
 | .int ..=>some 2
 | .text ..=>some 3
 | .bool ..=>some 1
 | .set ..=>some 4
 | .name ..=>none
 | .attr _ n=>some (attrTy n)
 | .lett _ n=>if 0≤n then ts[n.toNat]? else none
 | .un _ op k=>match tyE ts k with
  | some a=>nz (tyOp op [a])
  | none=>none
 | .bin _ op l r=>match tyE ts l with
  | some a=>match tyE ts r with
   | some b=>nz (tyOp op [a,b])
   | none=>none
  | none=>none
 | .ite _ c t e=>match tyE ts c with
  | some a=>match tyE ts t with
   | some b=>match tyE ts e with
    | some d=>nz (tyOp 27 [a,b,d])
    | none=>none
   | none=>none
  | none=>none

def Ex.kids:Ex→List Ex
 | .un _ _ k=>[k]
 | .bin _ _ l r=>[l,r]
 | .ite _ c t e=>[c,t,e]
 | _=>[]

def tysE (ts:List Int):Ex→List Int
 | .un i op k=>tysE ts k++[(tyE ts (.un i op k)).getD 0]
 | .bin i op l r=>tysE ts l++tysE ts r++[(tyE ts (.bin i op l r)).getD 0]
 | .ite i c t e=>tysE ts c++tysE ts t++tysE ts e++[(tyE ts (.ite i c t e)).getD 0]
 | e=>[(tyE ts e).getD 0]

theorem tysE_len (ts:List Int):∀ (e:Ex),(tysE ts e).length=e.cnt
 | .int .. | .text .. | .bool .. | .set .. | .name .. | .attr .. | .lett ..=>rfl
 | .un _ _ k=>by simp [tysE,Ex.cnt,tysE_len ts k]
 | .bin _ _ l r=>by simp [tysE,Ex.cnt,tysE_len ts l,tysE_len ts r];omega
 | .ite _ c t e=>by simp [tysE,Ex.cnt,tysE_len ts c,tysE_len ts t,tysE_len ts e];omega

theorem attrTy_pos (n:Int):1≤attrTy n∧attrTy n≤4:=by unfold attrTy;repeat' split <;> try decide

theorem nz_some {t a:Int} (h:nz t=some a):t=a∧a≠0:=by
 unfold nz at h
 split at h
 ·cases h
 ·cases h;exact ⟨rfl,by assumption⟩

def Ex.typed:Ex→Prop
 | .name ..=>False
 | .attr _ n=>0≤n∧n<6
 | .un _ op k=>(8≤op∧op≤10)∧k.typed
 | .bin _ op l r=>(11≤op∧op≤26)∧l.typed∧r.typed
 | .ite _ c t e=>c.typed∧t.typed∧e.typed
 | _=>True

end Go.Proofs.YtedlocniojlhfaaGreatDoor
