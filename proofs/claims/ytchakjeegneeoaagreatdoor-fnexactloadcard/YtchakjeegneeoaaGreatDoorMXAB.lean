/-
  VPP, VPQ, VPR, Slices0, Slices. Own work.
-/
import Derived.Test.YtchakjeegneeoaaGreatDoorMXAA
import Derived.Test.YtchakjeegneeoaaGreatDoorMXAC
import Derived.Test.YtchakjeegneeoaaGreatDoorMXAK
import Derived.RegionTactic
import Derived.ChangeAlike
import Derived.Deep.QuietTactic
import Derived.BigQuiet
namespace Go.Proofs.YtchakjeegneeoaaGreatDoor
open Go.RowKit
set_option linter.unusedVariables false
def Ev:List (Nat × Nat)→Nat
 | []=>0
 |p ::ps=>max p.2 (Ev ps)
theorem AdT {ks:List (Nat × Nat)}{p:Nat × Nat}(h:p∈ks):p.2≤Ev ks:=by
 induction ks with
 |nil=>cases h
 |cons q b a=>
  rw[Ev];rcases zE.1 h with e | e
  ·subst e;omega
  ·have:=a e;omega
def Aq (ks:List (Nat × Nat)):List Int:=ks.map fun p=>(p.1:Int)
inductive Ax (K:List (List Int)):Nat→List (Nat × Nat)→Nat→Prop
 |nil (a:Nat):Ax K a [] a
 |cons {a t b:Nat} {ks fs:List (Nat × Nat)} (hk:Ax K a ks t) (ht:K[t]? =some (Aq ks)) (hf:Ax K (t+1) fs b):Ax K a ((t,Ev ks+1) ::fs) b
theorem Ax.le {K:List (List Int)}{a b:Nat}{c:List (Nat × Nat)}(h:Ax K a c b):a≤b:=by
 induction h with
 |nil a=>exact NLN
 |cons hk ht hf d f=>omega
theorem Ax.lt {K:List (List Int)}{a b:Nat}{c:List (Nat × Nat)}(h:Ax K a c b):∀ p∈c,a≤p.1∧p.1 < b:=by
 induction h with
 |nil a=>intro p hp;cases hp
 |cons hk ht hf f d=>
  intro p hp;have h1:=hk.le;have h2:=hf.le;rcases zE.1 hp with e | e
  ·subst e;exact ⟨h1,by show _ < _;omega⟩
  ·have:=d p e;omega
theorem Ax.join {K:List (List Int)}{a b c:Nat}{d f:List (Nat × Nat)}(h:Ax K a d b)(k:Ax K b f c):Ax K a (d ++f) c:=by
 induction h with
 |nil a=>exact k
 |cons hk ht hf i g=>exact .cons hk ht (g k)
theorem Ax.split {K:List (List Int)} :∀ {f d:List (Nat × Nat)} {a c:Nat},Ax K a (f ++d) c→∃ b,Ax K a f b∧Ax K b d c
 | [],d,a,c,h=>⟨a,.nil a,h⟩
 |p ::f,d,a,c,h=>by
  cases h with
  |cons hk ht hf=>
   obtain ⟨b,h1,h2⟩:=Ax.split hf;exact ⟨b,.cons hk ht h1,h2⟩
def DQ (S:List (Nat × Nat)) (i:Nat) (ks:List Int):Option (List (Nat × Nat)):=
 if S.length < ks.length then none
 else if Aq (S.drop (S.length - ks.length))≠ks then none
 else if Ev (S.drop (S.length - ks.length))=64 then none
 else some (S.take (S.length - ks.length) ++ [(i,Ev (S.drop (S.length - ks.length))+1)])
def CB (K:List (List Int)):Nat→List (Nat × Nat)→Nat→Option (List (Nat × Nat))
 | 0,S,_=>some S
 |n+1,S,i=>match K[i]? with
  |none=>none
  |some ks=>match DQ S i ks with
   |none=>none
   |some S'=>CB K n S' (i+1)
theorem GL (K:List (List Int)):∀ (m n:Nat) (S:List (Nat × Nat)) (i:Nat),CB K (m+n) S i=(CB K m S i).bind fun a=>CB K n a (i+m)
 | 0,n,S,i=>by simp[CB]
 |m+1,n,S,i=>by
  rw[show m+1+n=(m+n)+1 by omega,CB,CB];cases K[i]? with
  |none=>rfl
  |some ks=>
   dsimp only;cases DQ S i ks with
   |none=>rfl
   |some a=>
    dsimp only;rw[GL K m n a (i+1),show i+1+m=i+(m+1) by omega]
theorem LO (ks:List (Nat × Nat)):(Aq ks).length=ks.length:=by simp[Aq]
theorem YW (S ks:List (Nat × Nat))(i:Nat)(h:Ev ks+1≤64):DQ (S ++ks) i (Aq ks)=some (S ++ [(i,Ev ks+1)]):=by
 have e:(S ++ks).length - (Aq ks).length=S.length:=by rw[LO,zA];omega
 rw[DQ,if_neg (by rw[LO,zA];omega),e,List.drop_left,if_neg (by simp),if_neg (by omega),List.take_left]
theorem OV {S a:List (Nat × Nat)}{i:Nat}{ks:List Int}(h:DQ S i ks=some a):∃ b B,S=b ++B∧Aq B=ks∧Ev B≠64∧a=b ++ [(i,Ev B+1)]:=by
 rw[DQ] at h;split at h
 ·cases h
 ·split at h
  ·cases h
  ·split at h
   ·cases h
   ·rename_i h1 h2 h3;rw[ne_eq,Decidable.not_not] at h2;exact ⟨_,_,(z1 (S.length - ks.length) S).symm,h2,h3,(Option.some.inj h).symm⟩
theorem L8 {K:List (List Int)}{a b:Nat}{c:List (Nat × Nat)}(h:Ax K a c b):∀ (S:List (Nat × Nat)),(∀ p∈c,p.2≤64)→CB K (b - a) S a=some (S ++c):=by
 induction h with
 |nil a=>intro S _;simp[CB]
 |@cons a t b ks c hk ht hf d f=>
  intro S hd;have h1:=hk.le;have h2:=hf.le;have g:Ev ks+1≤64:=hd _ (zT ..);rw[show b - a=(t - a)+(1+(b - (t+1))) by omega,GL,d S (fun p hp=>by have:=AdT hp;omega),Option.bind_some,show a+(t - a)=t by omega,GL];have e1:CB K 1 (S ++ks) t=some (S ++ [(t,Ev ks+1)]):=by
   rw[CB,ht];dsimp only;rw[YW S ks t g];rfl
  rw[e1,Option.bind_some,f _ (fun p hp=>hd p (zY _ hp)),zC];rfl
theorem EM {K:List (List Int)} :∀ (n:Nat) {S a:List (Nat × Nat)} {i:Nat},Ax K 0 S i→(∀ p∈S,p.2≤64)→CB K n S i=some a→Ax K 0 a (i+n)∧∀ p∈a,p.2≤64
 | 0,S,a,i,h,hd,hr=>by
  rw[CB] at hr;obtain rfl:=Option.some.inj hr;exact ⟨h,hd⟩
 |n+1,S,a,i,h,hd,hr=>by
  rw[CB] at hr;cases b:K[i]? with
  |none=>rw[b] at hr;cases hr
  |some ks=>
   rw[b] at hr;dsimp only at hr;cases hs:DQ S i ks with
   |none=>rw[hs] at hr;cases hr
   |some S1=>
    rw[hs] at hr;dsimp only at hr;obtain ⟨c,B,rfl,hB,o,rfl⟩:=OV hs;obtain ⟨m,d,f⟩:=h.split;have g:Ax K 0 (c ++ [(i,Ev B+1)]) (i+1):=d.join (.cons f (by rw[b,hB]) (.nil _));have r:Ev B≤64:=by
     have:∀ (L:List (Nat × Nat)),(∀ p∈L,p.2≤64)→Ev L≤64:=by
      intro L
      induction L with
      |nil=>intro _;simp[Ev]
      |cons q s j=>
       intro hq;have h1:=hq q (zT ..);have h2:=j (fun p hp=>hq p (zY _ hp));rw[Ev];omega
     exact this B (fun p hp=>hd p (zm _ hp))
    have l:∀ p∈c ++ [(i,Ev B+1)],p.2≤64:=fun p hp=>by
     rcases zK.1 hp with k | k
     ·exact hd p (zl _ k)
     ·rw[zL.1 k];show Ev B+1≤64;omega
    have:=EM n g l hr;rw[show i+(n+1)=i+1+n by omega];exact this
def Dh (f:Int→List Int→List Int) (top:Int):List Int→List Int→List Int
 | [],out=>out ++ [top]
 |k ::ks,out=>if top≤k then out ++ [-1] else Dh f top ks (f k out)
def Be (K:List (List Int)):Nat→Int→List Int→List Int
 | 0=>fun _ out=>out ++ [-1]
 |n+1=>fun top out=>if top < 0∨(K.length:Int)≤top∨K.length < out.length then out ++ [-1] else Dh (Be K n) top (K.getD top.toNat []) out
def G1 (l:List Int):Prop:=∀ (i:Nat) (x:Int),l[i]? =some x→x=i
theorem G1.pre {l m:List Int}(h:G1 (l ++m)):G1 l:=fun i x hx=>by
 have hi:i < l.length:=(ze.1 hx).1;exact h i x (by rw[List.getElem?_append_left hi];exact hx)
theorem G1.last {l:List Int}{x:Int}(h:G1 (l ++ [x])):x=l.length:=h l.length x (by simp)
theorem UF (l:List Int):G1 l↔∀ i,(h:i < l.length)→l[i]=(i:Int):=by
 constructor
 ·intro h i hi;exact h i _ (zH hi)
 ·intro h i x hx;obtain ⟨hi,e⟩:=ze.1 hx;rw[← e];exact h i hi
theorem LT {f:Int→List Int→List Int}(hf:∀ k out,∃ l,f k out=out ++l)(top:Int):∀ (ks out:List Int),∃ l,Dh f top ks out=out ++l
 | [],out=>⟨[top],rfl⟩
 |k ::ks,out=>by
  rw[Dh];split
  ·exact ⟨[-1],rfl⟩
  ·obtain ⟨l,e⟩:=hf k out;obtain ⟨m,e2⟩:=LT hf top ks (f k out);exact ⟨l ++m,by rw[e2,e,zC]⟩
theorem LU (K:List (List Int)):∀ (n:Nat) (top:Int) (out:List Int),∃ l,Be K n top out=out ++l
 | 0,top,out=>⟨[-1],rfl⟩
 |n+1,top,out=>by
  rw[Be];dsimp only;split
  ·exact ⟨[-1],rfl⟩
  ·exact LT (LU K n) top _ out
theorem Pb {K:List (List Int)}{f:Int→List Int→List Int}(hp:∀ k out,∃ l,f k out=out ++l)
  (hf:∀ k out,G1 (f k out)→∃ d,Ax K out.length [(k.toNat,d)] (f k out).length∧0≤k)(top:Int):
  ∀ (ks out:List Int),G1 (Dh f top ks out)→∃ a,Aq a=ks∧∃ t,Ax K out.length a t∧top=(t:Int)∧(Dh f top ks out).length=t+1
 | [],out,h=>⟨[],rfl,out.length,.nil _,by rw[Dh] at h;exact h.last,by simp[Dh]⟩
 |k ::ks,out,h=>by
  rw[Dh] at h ⊢;split at h
  ·have:=h.last;omega
  ·rename_i hk;rw[if_neg hk];obtain ⟨l,e⟩:=LT hp top ks (f k out);have h1:G1 (f k out):=by rw[e] at h;exact h.pre
   obtain ⟨d,h2,h3⟩:=hf k out h1;obtain ⟨a,e1,t,h4,h5,h6⟩:=Pb hp hf top ks (f k out) h;exact ⟨(k.toNat,d) ::a,by simp only[Aq,List.map_cons] at e1 ⊢;rw[e1];congr 1;omega,t,h2.join h4,h5,h6⟩
theorem Pc (K:List (List Int)):∀ (n:Nat) (top:Int) (out:List Int),G1 (Be K n top out)→∃ d,Ax K out.length [(top.toNat,d)] (Be K n top out).length∧0≤top
 | 0,top,out,h=>by
  have:=G1.last (l:=out) h;omega
 |n+1,top,out,h=>by
  rw[Be] at h ⊢;dsimp only at h ⊢;split at h
  ·have:=h.last;omega
  ·rename_i hc;rw[if_neg hc];obtain ⟨b,e1,t,h4,h5,h6⟩:=Pb (LU K n) (Pc K n) top _ out h;have ht:top.toNat=t:=by omega
   refine ⟨Ev b+1, ?_,by omega⟩;rw[h6,ht];refine .cons h4 ?_ (.nil _);have a:t < K.length:=by omega
   rw[ht] at e1;rw[e1,zH a,yG,zH a];rfl
def Jg (a b:Nat):List Int:=(List.range' a (b - a)).map fun (i:Nat)=>(i:Int)
theorem YX (a:Nat):Jg a a= []:=by simp[Jg]
theorem QF {a b c:Nat}(h1:a≤b)(h2:b≤c):Jg a b ++Jg b c=Jg a c:=by
 rw[Jg,Jg,Jg,← zU,show c - a=(b - a)+(c - b) by omega,← yE,show a+(b - a)=b by omega]
theorem Abj (a:Nat):Jg a (a+1)= [(a:Int)]:=by simp[Jg]
theorem UG (a b:Nat):(Jg a b).length=b - a:=by simp[Jg]
theorem Si {K:List (List Int)}{a b:Nat}{d:List (Nat × Nat)}(h:Ax K a d b):
  ∀ (n:Nat) (out:List Int),(∀ p∈d,p.1 < n)→out.length=a→b≤K.length→(Aq d).foldl (fun o k=>Be K n k o) out=out ++Jg a b:=by
 induction h with
 |nil a=>intro n out _ _ _;simp[Aq,YX]
 |@cons a t b ks d hk ht hf j l=>
  intro n out f m r;have h1:=hk.le;have h2:=hf.le;have g:=hk.lt;have v:t < n:=f _ (zT ..);obtain ⟨c,rfl⟩:∃ c,n=c+1:=⟨n - 1,by omega⟩
  have s:Be K (c+1) (t:Int) out=out ++Jg a (t+1):=by
   rw[Be];dsimp only;rw[if_neg (by omega),zj,yG,ht,Option.getD_some];have hq:∀ (ks:List (Nat × Nat)) (o:List Int),(∀ p∈ks,p.1 < t)→Dh (Be K c) (t:Int) (Aq ks) o=(Aq ks).foldl (fun o k=>Be K c k o) o ++ [(t:Int)]:=by
    intro ks
    induction ks with
    |nil=>intro o _;rfl
    |cons p i u=>
     intro o hp;have:=hp p (zT ..);rw[show Aq (p ::i)=(p.1:Int) ::Aq i from rfl,Dh,if_neg (by omega),u _ (fun q hq=>hp q (zY _ hq))];rfl
   rw[hq ks out (fun p hp=>(g p hp).2),j c out (fun p hp=>by have:=(g p hp).2;omega) m (by omega),zC,← Abj t,QF h1 (by omega)]
  rw[show Aq ((t,Ev ks+1) ::d)=(t:Int) ::Aq d from rfl,List.foldl_cons,s,l (c+1) _ (fun p hp=>f p (zY _ hp)) (by rw[zA,UG];omega) r,zC,QF (by omega) h2]
theorem JK {K:List (List Int)}{n:Nat} :∀ (a:List Int) (out:List Int),G1 (a.foldl (fun o k=>Be K n k o) out)→∃ b,Aq b=a∧Ax K out.length b (a.foldl (fun o k=>Be K n k o) out).length
 | [],out,_=>⟨[],rfl,.nil _⟩
 |k ::a,out,h=>by
  rw[List.foldl_cons] at h ⊢;have c:∃ l,a.foldl (fun o k=>Be K n k o) (Be K n k out)=Be K n k out ++l:=by
   have:∀ (a:List Int) (o:List Int),∃ l,a.foldl (fun o k=>Be K n k o) o=o ++l:=by
    intro a
    induction a with
    |nil=>intro o;exact ⟨[],by simp⟩
    |cons x g f=>
     intro o;obtain ⟨l,e⟩:=LU K n x o;obtain ⟨m,e2⟩:=f (Be K n x o);exact ⟨l ++m,by rw[List.foldl_cons,e2,e,zC]⟩
   exact this a _
  obtain ⟨l,e⟩:=c;have h1:G1 (Be K n k out):=by rw[e] at h;exact h.pre
  obtain ⟨d,h2,h3⟩:=Pc K n k out h1;obtain ⟨b,e1,h4⟩:=JK a (Be K n k out) h;exact ⟨(k.toNat,d) ::b,by simp only[Aq,List.map_cons] at e1 ⊢;rw[e1];congr 1;omega,h2.join h4⟩
def BE (K:List (List Int)):Nat→Int→Nat
 | 0=>fun _=>1
 |n+1=>fun top=>((K.getD top.toNat []).foldl (fun d k=>max d (BE K n k)) 0)+1
theorem LV (g:Int→Nat):∀ (ks:List Int) (d:Nat),ks.foldl (fun d k=>max d (g k)) d=max d (ks.foldl (fun d k=>max d (g k)) 0)
 | [],d=>by simp
 |k ::ks,d=>by
  rw[List.foldl_cons,List.foldl_cons,LV g ks,LV g ks (max 0 (g k))];omega
theorem Jp {K:List (List Int)}{a b:Nat}{c:List (Nat × Nat)}(h:Ax K a c b):∀ (n:Nat),(∀ p∈c,p.1 < n)→(∀ p∈c,BE K n (p.1:Int)=p.2)∧(Aq c).foldl (fun d k=>max d (BE K n k)) 0=Ev c:=by
 induction h with
 |nil a=>intro n _;exact ⟨fun p hp=>(by cases hp),rfl⟩
 |@cons a t b ks c hk ht hf i j=>
  intro n g;have q:t < n:=g _ (zT ..);obtain ⟨f,rfl⟩:∃ f,n=f+1:=⟨n - 1,by omega⟩
  have l:=hk.lt;have e1:BE K (f+1) (t:Int)=Ev ks+1:=by
   rw[BE];dsimp only;rw[zj,yG,ht,Option.getD_some,(i f (fun p hp=>by have:=(l p hp).2;omega)).2]
  obtain ⟨m,o⟩:=j (f+1) (fun p hp=>g p (zY _ hp));refine ⟨fun p hp=>?_, ?_⟩
  ·rcases zE.1 hp with e | e
   ·subst e;exact e1
   ·exact m p e
  ·rw[show Aq ((t,Ev ks+1) ::c)=(t:Int) ::Aq c from rfl,List.foldl_cons,LV,o,e1,Ev];omega
theorem YY (n:Nat):G1 (Jg 0 n):=fun i x hx=>by
 rw[Jg,zh,Option.map_eq_some_iff] at hx;obtain ⟨j,a,rfl⟩:=hx;obtain ⟨h1,h2⟩:=ze.1 a;rw[List.getElem_range'] at h2;omega
theorem YZ (K:List (List Int))(b:List Int):
  ((b.foldl (fun o k=>Be K K.length k o) []).length=K.length∧G1 (b.foldl (fun o k=>Be K K.length k o) [])∧∀ r∈b,BE K K.length r≤64)↔∃ S,CB K K.length [] 0=some S∧Aq S=b:=by
 constructor
 ·rintro ⟨h1,h2,h3⟩;obtain ⟨f,rfl,a⟩:=JK b [] h2;rw[h1] at a;have hd:=(Jp a K.length (fun p hp=>(a.lt p hp).2)).1;have c:=L8 a [] (fun p hp=>by
   rw[← hd p hp];exact h3 _ (zQ.2 ⟨p,hp,rfl⟩))
  exact ⟨f,by simpa using c,rfl⟩
 ·rintro ⟨S,c,rfl⟩;obtain ⟨a,hd⟩:=EM K.length (.nil 0) (fun p hp=>by cases hp) c;rw[zX] at a;have d:=Si a K.length [] (fun p hp=>(a.lt p hp).2) rfl NLN;rw[List.nil_append] at d;rw[d];refine ⟨by rw[UG];omega,YY _,fun r c=>?_⟩;obtain ⟨p,hp,rfl⟩:=zQ.1 c;rw[(Jp a K.length (fun p hp=>(a.lt p hp).2)).1 p hp];exact hd p hp
structure Nd where
 op:Int
 num:Int
 text:ByteArray
 names:List ByteArray
 kids:List Int
structure St where
 kind:Int
 name:ByteArray
 cond:Int
 grant:Int
def Dn (op:Int):Int:=if 1≤op∧op≤7 then 0 else if 8≤op∧op≤10 then 1 else if 11≤op∧op≤26 then 2 else if op=27 then 3 else -1
def BD (s:ByteArray):Bool:=match Ap s with
 | []=>false
 |c ::r=>decide ((c ::r).length≤32) && Sn c && (c ::r).all Ew && !Gz (c ::r)
def BM (s:ByteArray):Bool:=decide (s.size≤32) && (Ap s).all KO
def As (x:Nd):Bool:=
 decide ((x.kids.length:Int)=Dn x.op) &&
 (if x.op=1 then decide (0≤x.num) && decide (x.text.size=0) && decide (x.names.length=0)
   else if x.op=2 then BM x.text && decide (x.num=0) && decide (x.names.length=0)
   else if x.op=3 then decide (x.num=0∨x.num=1) && decide (x.text.size=0) && decide (x.names.length=0)
   else if x.op=4 then JC x.names && decide (x.num=0) && decide (x.text.size=0)
   else if x.op=5 then BD x.text && decide (x.num=0) && decide (x.names.length=0)
   else if x.op=6∨x.op=7 then false
   else decide (x.num=0) && decide (x.text.size=0) && decide (x.names.length=0))
def CG (last:Bool) (s:St):Bool:=
 if s.kind=1 then !last && BD s.name && decide (0≤s.cond) && decide (s.grant= -1)
 else if s.kind=2 then !last && decide (s.name.size=0) && decide (0≤s.cond) && decide (-1≤s.grant)
 else if s.kind=3 then last && decide (s.name.size=0) && decide (s.cond= -1) && decide (-1≤s.grant)
 else false
def DL (s:St):Bool:=
 if s.kind=1 then BD s.name && decide (s.grant= -1)
 else if s.kind=2 then decide (s.name.size=0)
 else if s.kind=3 then decide (s.name.size=0) && decide (s.cond= -1)
 else false
def Ay (s:St):List Int:=(if 0≤s.cond then [s.cond] else []) ++(if 0≤s.grant then [s.grant] else [])
def Ak (s:St):List Int:=(if s.kind≠3 then [s.cond] else []) ++(if s.grant≠-1 then [s.grant] else [])
def FS:List St→Bool
 | []=>true
 |s ::r=>CG r.isEmpty s && FS r
def CN:List St→Bool
 | []=>true
 |s ::r=>DL s && (decide (s.kind=3)== r.isEmpty) && CN r
theorem JL:∀ (L:List St),(∀ x∈L.flatMap Ak,0≤x)→(CN L=true↔FS L=true)
 | [],_=>Iff.rfl
 |s ::r,h=>by
  have f:=JL r (fun x hx=>h x (by rw[zn];exact zm _ hx));have hs:∀ x∈Ak s,0≤x:=fun x hx=>h x (by rw[zn];exact zl _ hx);rw[CN,FS,zI,zI,zI,f];have e:(DL s=true∧(decide (s.kind=3)== r.isEmpty)=true)↔CG r.isEmpty s=true:=by
   have hc:s.kind≠3→0≤s.cond:=fun k=>hs _ (by rw[Ak,if_pos k];simp);have a:s.grant≠-1→0≤s.grant:=fun k=>hs _ (by rw[Ak,if_pos k];simp);generalize r.isEmpty=last;unfold DL CG;by_cases b:s.kind=1
   ·simp[b];have:=hc (by omega);cases last <;> simp[this]
   ·by_cases c:s.kind=2
    ·simp[c];have h1:=hc (by omega);have h2: -1≤s.grant:=by by_cases k:s.grant= -1;omega;have:=a k;omega
     cases last <;> simp[h1,h2]
    ·by_cases d:s.kind=3
     ·simp[d];have h2: -1≤s.grant:=by by_cases k:s.grant= -1;omega;have:=a k;omega
      cases last <;> simp[h2]
     ·simp[b,c,d]
  rw[← e,and_assoc]
theorem UH:∀ {last:Bool} {s:St},CG last s=true→Ay s=Ak s∧∀ x∈Ak s,0≤x:=by
 intro last s h;unfold CG at h;unfold Ay Ak;by_cases d:s.kind=1
 ·simp[d] at h;obtain ⟨⟨_,h1⟩,h2⟩:=h;simp[d,h1,h2]
 ·by_cases b:s.kind=2
  ·simp[b] at h;obtain ⟨⟨_,h1⟩,h2⟩:=h;by_cases a:s.grant= -1
   ·simp[b,h1,a]
   ·have: 0≤s.grant:=by omega
    simp[b,h1,a,this]
  ·by_cases c:s.kind=3
   ·simp[c] at h;obtain ⟨⟨_,h1⟩,h2⟩:=h;by_cases a:s.grant= -1
    ·simp[c,h1,a]
    ·have: 0≤s.grant:=by omega
     simp[c,h1,a,this]
   ·simp[d,b,c] at h
theorem LW:∀ {L:List St},FS L=true→L.flatMap Ay=L.flatMap Ak∧∀ x∈L.flatMap Ak,0≤x
 | [],_=>⟨rfl,fun x hx=>by cases hx⟩
 |s ::r,h=>by
  rw[FS,zI] at h;obtain ⟨e1,h1⟩:=UH h.1;obtain ⟨e2,h2⟩:=LW h.2;refine ⟨by rw[zn,zn,e1,e2],fun x hx=>?_⟩;rw[zn] at hx;rcases zK.1 hx with k | k
  ·exact h1 x k
  ·exact h2 x k
def JM (N:List Nd) (L:List St):Prop:=
 FS L=true∧((L.flatMap Ay).foldl (fun o k=>Be (N.map Nd.kids) N.length k o) []).length=N.length∧G1 ((L.flatMap Ay).foldl (fun o k=>Be (N.map Nd.kids) N.length k o) [])∧∀ r∈L.flatMap Ay,BE (N.map Nd.kids) N.length r≤64
def Abk (N:List Nd) (L:List St):Prop:=CN L=true∧∃ S,CB (N.map Nd.kids) N.length [] 0=some S∧Aq S=L.flatMap Ak
theorem Wk (N:List Nd)(L:List St):Abk N L↔JM N L:=by
 have hs:=YZ (N.map Nd.kids) (L.flatMap Ak);rw[zV] at hs;constructor
 ·rintro ⟨h1,S,h2,h3⟩;have h0:∀ x∈L.flatMap Ak,0≤x:=by
   rw[← h3];intro x hx;obtain ⟨p,_,rfl⟩:=zQ.1 hx;omega
  have h4:=(JL L h0).1 h1;have e:=(LW h4).1;unfold JM;rw[e];exact ⟨h4,hs.2 ⟨S,h2,h3⟩⟩
 ·rintro ⟨h1,h2⟩;obtain ⟨e,h0⟩:=LW h1;rw[e] at h2;exact ⟨(JL L h0).2 h1,hs.1 h2⟩
set_option maxHeartbeats 800000
theorem Ku (a:Option Addr)(n c:Nat)(d:List ByteArray)(w:World)(h:Bg w a n c d):
  Calls Tryz.prog 149 #[.slice a n c] w fun e w'=>e= .returned (.bool (NI d))∧w'=w:=by
 have t:n≤9223372036854775807:=by have:=h.cap;have:=h.small;unfold maxLen at this;omega
 go_enter Tryz.func149,Tryz.ntmps149
 go_wp2
 go_loop [4,7] (fun _ i=>∃ k:Nat,k≤n∧i= .int .i64 k∧∀ j,j < k→vnB (EU d j)=true) (fun _ i=>n - (intOf i).toNat)
 case atStart=>exact ⟨0,zF _,rfl,fun j l=>by omega⟩
 case round=>
  obtain ⟨k,hk,rfl,m⟩:=hrel;have o:=Ab m;clear m;by_cases p:k < n
  ·obtain ⟨b,u,r,_,hc⟩:=h.cells k p;have q:=h.sizes k p;subst r;cases f:vnB (EU d k)
   ·have g:=Ab f;have s:=Ab (Up d k (by have:=h.len;omega) f);clear f;go_wp2_with (go_at_call 157;refine (ID _ _ q).mono ?_;rintro e w' ⟨rfl,rfl⟩;rw[Aa g])
    go_ret
    exact ⟨Ag (Aa s).symm,rfl⟩
   ·have g:=Ab f;clear f;go_wp2_with (go_at_call 157;refine (ID _ _ q).mono ?_;rintro e w' ⟨rfl,rfl⟩;rw[Aa g])
    go_round
    case rel=>
     refine ⟨k+1,by omega,by go_num,fun j l=>?_⟩
     by_cases e:j=k
     ·subst e;exact Aa g
     ·exact Aa o j (by omega)
    case measure=>simp[intOf];omega
  ·go_wp2
   go_ret
   exact ⟨Ag (Xi d fun j l=>Aa o j (by have:=h.len;omega)).symm,rfl⟩
set_option maxHeartbeats 1600000
theorem JF (a:Option Addr)(n c:Nat)(d:List ByteArray)(w:World)(h:Bg w a n c d):
  Calls Tryz.prog 150 #[.slice a n c] w fun e w'=>e= .returned (.bool (FU d))∧Below w.heap.size w w':=by
 have s:n≤9223372036854775807:=by have:=h.cap;have:=h.small;unfold maxLen at this;omega
 have t:=Ab h.len;go_enter Tryz.func150,Tryz.ntmps150
 go_wp2
 go_loopw [3] (fun i wr=>∃ k:Nat,0 < k∧(k≤n∨k=1)∧i= .int .i64 k∧(∀ j,0 < j→j < k→sl (EU d (j - 1)) (EU d j)=true)∧Below w.heap.size w wr) (fun i _=>n+1 - (intOf i).toNat)
 case atStart=>exact ⟨1,by omega,.inr rfl,rfl,fun j f l=>by omega,BRN⟩
 case round=>
  obtain ⟨k,u,hk,rfl,m,g⟩:=hrel;have o:=Ab m;clear m;by_cases p:k < n
  ·obtain ⟨b,v,q,x,hc⟩:=(h.below g NLN).at (by omega);have y:=hc (k - 1) (by omega);have z:=hc k p;clear hc;subst q;have A:(0 :Int)≤(k:Int) - 1:=by omega
   have B:(k:Int) - 1 < (n:Int):=by omega
   have C:(k:Int) < (n:Int):=by omega
   have E:((k:Int) - 1).toNat=k - 1:=by omega
   cases hs:Op.bytesLess (EU d (k - 1)).toList (EU d k).toList
   ·have r:=Ab (Uq d (k - 1) k (by omega) (by have:=h.len;omega) hs);go_wp2
    go_quiet (fail)
    go_wp2
    go_ret
    exact ⟨Ag (Aa r).symm,below_drewN g _⟩
   ·go_wp2
    go_quiet (fail)
    go_wp2
    go_roundw
    case rel=>
     refine ⟨k+1,by omega,.inl (by omega),by go_num,fun j f l=>?_, ?_⟩
     ·by_cases e:j=k
      ·subst e;exact hs
      ·exact Aa o j f (by omega)
     ·exact below_drewN g _
    case measure=>simp[intOf];omega
  ·go_wp2
   go_ret
   exact ⟨Ag (RU d fun j f l=>Aa o j f (by have:=h.len;omega)).symm,g⟩
theorem Oo (a:Option Addr)(n c:Nat)(b:List ByteArray)(w:World)(h:Bg w a n c b):
  Calls Tryz.prog 130 #[.slice a n c] w fun e w'=>e= .returned (.bool (JC b))∧Below w.heap.size w w':=by
 have j:=h.len;by_cases l:n≤64
 ·have g:(n:Int)≤64:=by omega
  have f:=Ab (JD b (by omega));clear j;cases i:NI b
  ·have d:=Ab i;clear i;go_enter Tryz.func130,Tryz.ntmps130
   go_wp2_with (go_at_call 149;refine (Ku _ _ _ _ _ h).mono ?_;rintro e w' ⟨rfl,rfl⟩;rw[Aa d])
   go_ret
   exact ⟨Ag (by rw[Aa f,Aa d];rfl),BRN⟩
  ·have d:=Ab i;clear i;go_enter Tryz.func130,Tryz.ntmps130
   go_wp2_with (first | (go_at_call 149;refine (Ku _ _ _ _ _ h).mono ?_;rintro e w' ⟨rfl,rfl⟩;rw[Aa d]) | (go_at_call 150;refine (JF _ _ _ _ _ h).mono ?_;rintro e w' ⟨rfl,k⟩))
   go_ret
   exact ⟨Ag (by rw[Aa f,Aa d];rfl),k⟩
 ·have g:(64 :Int) < (n:Int):=by omega
  have f:=Ab (Qr b (by omega));clear j;go_enter Tryz.func130,Tryz.ntmps130
  go_wp2
  go_ret
  exact ⟨Ag (Aa f).symm,BRN⟩
theorem Oq (a:Option Addr)(n c:Nat)(d:List ByteArray)(w:World)(h:Bg w a n c d):
  Calls Tryz.prog 104 #[.slice a n c] w fun e w'=>e= .returned (.bool (JC d))∧w'=w:=by
 have s:=h.len;by_cases I:n≤64
 ·have g:(n:Int)≤64:=by omega
  have l:=Ab (JD d (by omega));have o:=Ab s;clear s;go_enter Tryz.func104,Tryz.ntmps104
  go_wp2
  go_loop [2,3,4,5,11] (fun _ _ _ _ i=>∃ k:Nat,k≤n∧i= .int .i64 k∧(∀ j,j < k→vnB (EU d j)=true)∧(∀ i j,i < k→i < j→j < n→sl (EU d i) (EU d j)=true)) (fun _ _ _ _ i=>n - (intOf i).toNat)
  case atStart=>exact ⟨0,zF _,rfl,fun j f=>by omega,fun i j hi=>by omega⟩
  case round=>
   obtain ⟨k,hk,rfl,u,hp⟩:=hrel;have v:=Ab u;have x:=Ab hp;clear u hp;by_cases y:k < n
   ·obtain ⟨b,J,B,_,hc⟩:=h.at (by omega);have K:=hc k y;have C:=Ab hc;clear hc;have z:=h.sizes k y;subst B;cases p:vnB (EU d k)
    ·have q:=Ab p;have t:=Ab (Up d k (by have:=Aa o;omega) p);clear p;go_wp2_with (go_at_call 134;refine (FN _ _ z).mono ?_;rintro e w' ⟨rfl,rfl⟩;rw[Aa q])
     go_ret
     exact ⟨Ag (by rw[Aa l,Aa t];rfl),rfl⟩
    ·have q:=Ab p;clear p;go_wp2_with (go_at_call 134;refine (FN _ _ z).mono ?_;rintro e w' ⟨rfl,rfl⟩;rw[Aa q])
     go_loop [5] (fun i=>∃ m:Nat,k < m∧m≤n∧i= .int .i64 m∧∀ j,k < j→j < m→sl (EU d k) (EU d j)=true) (fun i=>n - (intOf i).toNat)
     case atStart=>exact ⟨k+1,by omega,by omega,by go_num,fun j f E=>by omega⟩
     case round=>
      obtain ⟨m,F,L,rfl,hq⟩:=hrel;have A:=Ab hq;clear hq;by_cases H:m < n
      ·have M:=Aa C m H;cases hs:Op.bytesLess (EU d k).toList (EU d m).toList
       ·have t:=Ab (Uq d k m F (by have:=Aa o;omega) hs);go_wp2
        go_ret
        exact ⟨Ag (by rw[Aa l,Aa t,Bool.and_false]),rfl⟩
       ·go_wp2
        go_round
        case rel=>
         refine ⟨m+1,by omega,by omega,by go_num,fun j f E=>?_⟩
         by_cases e:j=m
         ·subst e;exact hs
         ·exact Aa A j f (by omega)
        case measure=>simp[intOf];omega
      ·go_wp2
       go_round
       case rel=>
        refine ⟨k+1,by omega,by go_num,fun j f=>?_,fun i j hi r f=>?_⟩
        ·by_cases e:j=k
         ·subst e;exact Aa q
         ·exact Aa v j (by omega)
        ·by_cases e:i=k
         ·subst e;exact Aa A j r (by omega)
         ·exact Aa x i j (by omega) r f
       case measure=>simp[intOf];omega
   ·go_wp2
    go_ret
    have e1:NI d=true:=Xi d fun j f=>Aa v j (by have:=Aa o;omega);have e2:FU d=true:=(On d).2 fun i j r f=>Aa x i j (by have:=Aa o;omega) r (by have:=Aa o;omega);exact ⟨Ag (by rw[Aa l,e1,e2];rfl),rfl⟩
 ·have g:(64 :Int) < (n:Int):=by omega
  have l:=Ab (Qr d (by omega));clear s;go_enter Tryz.func104,Tryz.ntmps104
  go_wp2
  go_ret
  exact ⟨Ag (Aa l).symm,rfl⟩
end Go.Proofs.YtchakjeegneeoaaGreatDoor
