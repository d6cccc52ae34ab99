import Derived.Test.YteiieikcjcfkkaaGreatDoorMXAA
import Derived.Deep.RegionHeld3
open Go.Proofs.Tryz
open Option renaming none->T,some->X
open Go.Value renaming int->U,slice->Y,string->Q,iface->jB,pointer->jK
open Go renaming World->Z,Value->R,Addr->jD,Calls->jE,TypeId->jJ,maxLen->jM,heap_setCell_other->jc,below_drewN->jg
open Bool renaming true->jA,false->jC
open Go.Obj renaming cells->jF
open Go.Ending renaming returned->jH
open Go.RowKit renaming intOf->jI
open Go.Proofs.Tryz renaming prog->j4
namespace Go.Proofs.YteiieikcjcfkkaaGreatDoor
open Go.RowKit
set_option linter.unusedVariables false
variable {p:jD}{x:Int}{c f:List (Nat×Nat)}{l:List Int}{a b n m:Nat}{v:R}{w w':Z}
def DP:List (Nat×Nat)->Nat
 |[]=>0
 |p ::ps=>max p.2 (DP ps)
theorem AiQ {ks:List (Nat×Nat)}{p:Nat×Nat}(h:p∈ks):p.2<=DP ks:=by
 induction ks with
 |nil=>cases h
 |cons q b a=>
  rw[DP];rcases zP.1 h with e|e
  ·subst e;omega
  ·have:=a e;omega
def Am (ks:List (Nat×Nat)):List Int:=ks.map fun p=>(p.1:Int)
inductive Au (K:List (List Int)):Nat->List (Nat×Nat)->Nat->Prop
 |nil (a:Nat):Au K a [] a
 |cons {a t b:Nat} {ks fs:List (Nat×Nat)} (hk:Au K a ks t) (ht:K[t]? =X (Am ks)) (hf:Au K (t+1) fs b):Au K a ((t,DP ks+1) ::fs) b
theorem Au.le {K:List (List Int)}(h:Au K a c b):a<=b:=by
 induction h with
 |nil a=>exact NLN
 |cons d f hf g i=>omega
theorem Au.lt {K:List (List Int)}(h:Au K a c b):∀p∈c,a<=p.1/\p.1<b:=by
 induction h with
 |nil a=>intro p hp;cases hp
 |cons d g hf i f=>
  intro p hp;have h1:=d.le;have h2:=hf.le;rcases zP.1 hp with e|e
  ·subst e;exact⟨h1,by show _<_;omega⟩
  ·have:=f p e;omega
theorem Au.join {K:List (List Int)}{c:Nat}{d:List (Nat×Nat)}(h:Au K a d b)(k:Au K b f c):Au K a (d++f) c:=by
 induction h with
 |nil a=>exact k
 |cons g i hf l j=>exact .cons g i (j k)
theorem Au.split {K:List (List Int)} :∀{f d:List (Nat×Nat)} {a c:Nat},Au K a (f++d) c->∃b,Au K a f b/\Au K b d c
 |[],d,a,c,h=>⟨a,.nil a,h⟩
 |p ::f,d,a,c,h=>by
  cases h with
  |cons g i hf=>
   obtain⟨b,h1,h2⟩:=Au.split hf;exact⟨b,.cons g i h1,h2⟩
def DM (S:List (Nat×Nat)) (i:Nat) (ks:List Int):Option (List (Nat×Nat)):=
 if S.length<ks.length then T
 else if Am (S.drop (S.length-ks.length))≠ks then T
 else if DP (S.drop (S.length-ks.length))=64 then T
 else X (S.take (S.length-ks.length)++[(i,DP (S.drop (S.length-ks.length))+1)])
def Cp (K:List (List Int)):Nat->List (Nat×Nat)->Nat->Option (List (Nat×Nat))
 |0,S,_=>X S
 |n+1,S,i=>match K[i]? with
  |none=>T
  |some ks=>match DM S i ks with
   |none=>T
   |some S'=>Cp K n S' (i+1)
theorem Im (K:List (List Int)):∀(m n:Nat) (S:List (Nat×Nat)) (i:Nat),Cp K (m+n) S i=(Cp K m S i).bind fun a=>Cp K n a (i+m)
 |0,n,S,i=>by simp[Cp]
 |m+1,n,S,i=>by
  rw[show m+1+n=(m+n)+1 by omega,Cp,Cp];cases K[i]? with
  |none=>rfl
  |some ks=>
   dsimp only;cases DM S i ks with
   |none=>rfl
   |some a=>
    dsimp only;rw[Im K m n a (i+1),show i+1+m=i+(m+1) by omega]
theorem NP (ks:List (Nat×Nat)):(Am ks).length=ks.length:=by simp[Am]
theorem AcN (S ks:List (Nat×Nat))(i:Nat)(h:DP ks+1<=64):DM (S++ks) i (Am ks)=X (S++[(i,DP ks+1)]):=by
 have e:(S++ks).length-(Am ks).length=S.length:=by rw[NP,zC];omega
 rw[DM,if_neg (by rw[NP,zC];omega),e,List.drop_left,if_neg (by simp),if_neg (by omega),List.take_left]
theorem Rv {S a:List (Nat×Nat)}{i:Nat}{ks:List Int}(h:DM S i ks=X a):∃A B,S=A++B/\Am B=ks/\DP B≠64/\a=A++[(i,DP B+1)]:=by
 rw[DM]at h;split at h
 ·cases h
 ·split at h
  ·cases h
  ·split at h
   ·cases h
   ·rename_i h1 h2 h3;rw[ne_eq,Decidable.not_not]at h2;exact⟨_,_,(yN (S.length-ks.length) S).symm,h2,h3,(Option.some.inj h).symm⟩
theorem Om {K:List (List Int)}(h:Au K a c b):∀(S:List (Nat×Nat)),(∀p∈c,p.2<=64)->Cp K (b-a) S a=X (S++c):=by
 induction h with
 |nil a=>intro S _;simp[Cp]
 |@cons a t b ks c f g hf i j=>
  intro S d;have h1:=f.le;have h2:=hf.le;have k:DP ks+1<=64:=d _ (za ..);rw[show b-a=(t-a)+(1+(b-(t+1))) by omega,Im,i S (fun p hp=>by have:=AiQ hp;omega),zm,show a+(t-a)=t by omega,Im];have e1:Cp K 1 (S++ks) t=X (S++[(t,DP ks+1)]):=by
   rw[Cp,g];dsimp only;rw[AcN S ks t k];rfl
  rw[e1,zm,j _ (fun p hp=>d p (zf _ hp)),zT];rfl
theorem DZ {K:List (List Int)} :∀(n:Nat) {S a:List (Nat×Nat)} {i:Nat},Au K 0 S i->(∀p∈S,p.2<=64)->Cp K n S i=X a->Au K 0 a (i+n)/\∀p∈a,p.2<=64
 |0,S,a,i,h,hd,hr=>by
  rw[Cp]at hr;obtain rfl:=Option.some.inj hr;exact⟨h,hd⟩
 |n+1,S,a,i,h,hd,hr=>by
  rw[Cp]at hr;cases b:K[i]? with
  |none=>rw[b]at hr;cases hr
  |some ks=>
   rw[b]at hr;dsimp only at hr;cases hs:DM S i ks with
   |none=>rw[hs]at hr;cases hr
   |some l=>
    rw[hs]at hr;dsimp only at hr;obtain⟨A,B,rfl,hB,o,rfl⟩:=Rv hs;obtain⟨m,c,d⟩:=h.split;have f:Au K 0 (A++[(i,DP B+1)]) (i+1):=c.join (.cons d (by rw[b,hB]) (.nil _));have r:DP B<=64:=by
     have:∀(L:List (Nat×Nat)),(∀p∈L,p.2<=64)->DP L<=64:=by
      intro L
      induction L with
      |nil=>intro _;simp[DP]
      |cons q s g=>
       intro hq;have h1:=hq q (za ..);have h2:=g (fun p hp=>hq p (zf _ hp));rw[DP];omega
     exact this B (fun p hp=>hd p (List.mem_append_right _ hp))
    have j:∀p∈A++[(i,DP B+1)],p.2<=64:=fun p hp=>by
     rcases zN.1 hp with k|k
     ·exact hd p (Z7 _ k)
     ·rw[zS.1 k];show DP B+1<=64;omega
    have:=DZ n f j hr;rw[show i+(n+1)=i+1+n by omega];exact this
def Dh (f:Int->List Int->List Int) (top:Int):List Int->List Int->List Int
 |[],out=>out++[top]
 |k ::ks,out=>if top<=k then out++[-1]else Dh f top ks (f k out)
def Bd (K:List (List Int)):Nat->Int->List Int->List Int
 |0=>fun _ out=>out++[-1]
 |n+1=>fun top out=>if top<0\/(K.length:Int)<=top\/K.length<out.length then out++[-1]else Dh (Bd K n) top (K.getD top.toNat []) out
def good (l:List Int):Prop:=∀(i:Nat) (x:Int),l[i]? =X x->x=i
theorem good.pre {m:List Int}(h:good (l++m)):good l:=fun i x hx=>by
 have hi:i<l.length:=(zd.1 hx).1;exact h i x (by rw[Z5 hi];exact hx)
theorem good.last (h:good (l++[x])):x=l.length:=h l.length x (by simp)
theorem Wb (l:List Int):good l↔∀i,(h:i<l.length)->l[i]=(i:Int):=by
 constructor
 ·intro h i hi;exact h i _ (zG hi)
 ·intro h i x hx;obtain⟨hi,e⟩:=zd.1 hx;rw[<-e];exact h i hi
theorem NQ {f:Int->List Int->List Int}(hf:∀k out,∃l,f k out=out++l)(top:Int):∀(ks out:List Int),∃l,Dh f top ks out=out++l
 |[],out=>⟨[top],rfl⟩
 |k ::ks,out=>by
  rw[Dh];split
  ·exact⟨[-1],rfl⟩
  ·obtain⟨l,e⟩:=hf k out;obtain⟨m,e2⟩:=NQ hf top ks (f k out);exact⟨l++m,by rw[e2,e,zT]⟩
theorem NS (K:List (List Int)):∀(n:Nat) (top:Int) (out:List Int),∃l,Bd K n top out=out++l
 |0,top,out=>⟨[-1],rfl⟩
 |n+1,top,out=>by
  rw[Bd];dsimp only;split
  ·exact⟨[-1],rfl⟩
  ·exact NQ (NS K n) top _ out
theorem Rx {K:List (List Int)}{f:Int->List Int->List Int}(hp:∀k out,∃l,f k out=out++l)
  (hf:∀k out,good (f k out)->∃d,Au K out.length [(k.toNat,d)] (f k out).length/\0<=k)(top:Int):
  ∀(ks out:List Int),good (Dh f top ks out)->∃a,Am a=ks/\∃t,Au K out.length a t/\top=(t:Int)/\(Dh f top ks out).length=t+1
 |[],out,h=>⟨[],rfl,out.length,.nil _,by rw[Dh]at h;exact h.last,by simp[Dh]⟩
 |k ::ks,out,h=>by
  rw[Dh]at h|-;split at h
  ·have:=h.last;omega
  ·rename_i b;rw[if_neg b];obtain⟨l,e⟩:=NQ hp top ks (f k out);have h1:good (f k out):=by rw[e]at h;exact h.pre
   obtain⟨d,h2,h3⟩:=hf k out h1;obtain⟨a,e1,t,h4,h5,h6⟩:=Rx hp hf top ks (f k out) h;exact⟨(k.toNat,d) ::a,by simp only[Am,List.map_cons]at e1|-;rw[e1];congr 1;omega,t,h2.join h4,h5,h6⟩
theorem Ry (K:List (List Int)):∀(n:Nat) (top:Int) (out:List Int),good (Bd K n top out)->∃d,Au K out.length [(top.toNat,d)] (Bd K n top out).length/\0<=top
 |0,top,out,h=>by
  have:=good.last (l:=out) h;omega
 |n+1,top,out,h=>by
  rw[Bd]at h|-;dsimp only at h|-;split at h
  ·have:=h.last;omega
  ·rename_i hc;rw[if_neg hc];obtain⟨c,e1,t,h4,h5,h6⟩:=Rx (NS K n) (Ry K n) top _ out h;have a:top.toNat=t:=by omega
   refine⟨DP c+1,?_,by omega⟩;rw[h6,a];refine .cons h4 ?_ (.nil _);have b:t<K.length:=by omega
   rw[a]at e1;rw[e1,zG b,yC,zG b];rfl
def Kh (a b:Nat):List Int:=(List.range' a (b-a)).map fun (i:Nat)=>(i:Int)
theorem AcO (a:Nat):Kh a a=[]:=by simp[Kh]
theorem Uc {c:Nat}(h1:a<=b)(h2:b<=c):Kh a b++Kh b c=Kh a c:=by
 rw[Kh,Kh,Kh,<-zR,show c-a=(b-a)+(c-b) by omega,<-List.range'_append_1,show a+(b-a)=b by omega]
theorem AfA (a:Nat):Kh a (a+1)=[(a:Int)]:=by simp[Kh]
theorem XX (a b:Nat):(Kh a b).length=b-a:=by simp[Kh]
theorem U9 {K:List (List Int)}(h:Au K a c b):
  ∀(n:Nat) (out:List Int),(∀p∈c,p.1<n)->out.length=a->b<=K.length->(Am c).foldl (fun o k=>Bd K n k o) out=out++Kh a b:=by
 induction h with
 |nil a=>intro n out _ _ _;simp[Am,AcO]
 |@cons a t b ks c d j hf l m=>
  intro n out f r s;have h1:=d.le;have h2:=hf.le;have g:=d.lt;have w:t<n:=f _ (za ..);obtain⟨n',rfl⟩:∃n',n=n'+1:=⟨n-1,by omega⟩
  have u:Bd K (n'+1) (t:Int) out=out++Kh a (t+1):=by
   rw[Bd];dsimp only;rw[if_neg (by omega),zV,yC,j,Option.getD_some];have hq:∀(ks:List (Nat×Nat)) (o:List Int),(∀p∈ks,p.1<t)->Dh (Bd K n') (t:Int) (Am ks) o=(Am ks).foldl (fun o k=>Bd K n' k o) o++[(t:Int)]:=by
    intro ks
    induction ks with
    |nil=>intro o _;rfl
    |cons p i v=>
     intro o hp;have:=hp p (za ..);rw[show Am (p ::i)=(p.1:Int) ::Am i from rfl,Dh,if_neg (by omega),v _ (fun q hq=>hp q (zf _ hq))];rfl
   rw[hq ks out (fun p hp=>(g p hp).2),l n' out (fun p hp=>by have:=(g p hp).2;omega) r (by omega),zT,<-AfA t,Uc h1 (by omega)]
  rw[show Am ((t,DP ks+1) ::c)=(t:Int) ::Am c from rfl,List.foldl_cons,u,m (n'+1) _ (fun p hp=>f p (zf _ hp)) (by rw[zC,XX];omega) s,zT,Uc (by omega) h2]
theorem Lw {K:List (List Int)}{n:Nat} :∀(A:List Int) (out:List Int),good (A.foldl (fun o k=>Bd K n k o) out)->∃a,Am a=A/\Au K out.length a (A.foldl (fun o k=>Bd K n k o) out).length
 |[],out,_=>⟨[],rfl,.nil _⟩
 |k ::A,out,h=>by
  rw[List.foldl_cons]at h|-;have b:∃l,A.foldl (fun o k=>Bd K n k o) (Bd K n k out)=Bd K n k out++l:=by
   have:∀(A:List Int) (o:List Int),∃l,A.foldl (fun o k=>Bd K n k o) o=o++l:=by
    intro A
    induction A with
    |nil=>intro o;exact⟨[],by simp⟩
    |cons x f c=>
     intro o;obtain⟨l,e⟩:=NS K n x o;obtain⟨m,e2⟩:=c (Bd K n x o);exact⟨l++m,by rw[List.foldl_cons,e2,e,zT]⟩
   exact this A _
  obtain⟨l,e⟩:=b;have h1:good (Bd K n k out):=by rw[e]at h;exact h.pre
  obtain⟨d,h2,h3⟩:=Ry K n k out h1;obtain⟨a,e1,h4⟩:=Lw A (Bd K n k out) h;exact⟨(k.toNat,d) ::a,by simp only[Am,List.map_cons]at e1|-;rw[e1];congr 1;omega,h2.join h4⟩
def BL (K:List (List Int)):Nat->Int->Nat
 |0=>fun _=>1
 |n+1=>fun top=>((K.getD top.toNat []).foldl (fun d k=>max d (BL K n k)) 0)+1
theorem NT (g:Int->Nat):∀(ks:List Int) (d:Nat),ks.foldl (fun d k=>max d (g k)) d=max d (ks.foldl (fun d k=>max d (g k)) 0)
 |[],d=>by simp
 |k ::ks,d=>by
  rw[List.foldl_cons,List.foldl_cons,NT g ks,NT g ks (max 0 (g k))];omega
theorem Ky {K:List (List Int)}(h:Au K a c b):∀(n:Nat),(∀p∈c,p.1<n)->(∀p∈c,BL K n (p.1:Int)=p.2)/\(Am c).foldl (fun d k=>max d (BL K n k)) 0=DP c:=by
 induction h with
 |nil a=>intro n _;exact⟨fun p hp=>(by cases hp),rfl⟩
 |@cons a t b ks c g i hf j l=>
  intro n f;have r:t<n:=f _ (za ..);obtain⟨n',rfl⟩:∃n',n=n'+1:=⟨n-1,by omega⟩
  have m:=g.lt;have e1:BL K (n'+1) (t:Int)=DP ks+1:=by
   rw[BL];dsimp only;rw[zV,yC,i,Option.getD_some,(j n' (fun p hp=>by have:=(m p hp).2;omega)).2]
  obtain⟨o,q⟩:=l (n'+1) (fun p hp=>f p (zf _ hp));refine⟨fun p hp=>?_,?_⟩
  ·rcases zP.1 hp with e|e
   ·subst e;exact e1
   ·exact o p e
  ·rw[show Am ((t,DP ks+1) ::c)=(t:Int) ::Am c from rfl,List.foldl_cons,NT,q,e1,DP];omega
theorem AcP (n:Nat):good (Kh 0 n):=fun i x hx=>by
 rw[Kh,zZ,Option.map_eq_some_iff]at hx;obtain⟨j,a,rfl⟩:=hx;obtain⟨h1,h2⟩:=zd.1 a;rw[List.getElem_range']at h2;omega
theorem AcQ (K:List (List Int))(A:List Int):
  ((A.foldl (fun o k=>Bd K K.length k o) []).length=K.length/\good (A.foldl (fun o k=>Bd K K.length k o) [])/\∀d∈A,BL K K.length d<=64)↔∃S,Cp K K.length [] 0=X S/\Am S=A:=by
 constructor
 ·rintro⟨h1,h2,h3⟩;obtain⟨g,rfl,a⟩:=Lw A [] h2;rw[h1]at a;have c:=(Ky a K.length (fun p hp=>(a.lt p hp).2)).1;have b:=Om a [] (fun p hp=>by
   rw[<-c p hp];exact h3 _ (zg.2 ⟨p,hp,rfl⟩))
  exact⟨g,by simpa using b,rfl⟩
 ·rintro⟨S,b,rfl⟩;obtain⟨a,c⟩:=DZ K.length (.nil 0) (fun p hp=>by cases hp) b;rw[zU]at a;have f:=U9 a K.length [] (fun p hp=>(a.lt p hp).2) rfl NLN;rw[List.nil_append]at f;rw[f];refine⟨by rw[XX];omega,AcP _,fun d b=>?_⟩;obtain⟨p,hp,rfl⟩:=zg.1 b;rw[(Ky a K.length (fun p hp=>(a.lt p hp).2)).1 p hp];exact c p hp
structure Nd where
 op:Int
 num:Int
 text:ByteArray
 names:List ByteArray
 kids:List Int
structure St where
 kind:Int
 name:ByteArray
 cond:Int
 grant:Int
def CI (op:Int):Int:=if 1<=op/\op<=7 then 0 else if 8<=op/\op<=10 then 1 else if 11<=op/\op<=26 then 2 else if op=27 then 3 else -1
def Dm (s:ByteArray):Bool:=match GK s with
 |[]=>jC
 |c ::r=>decide ((c ::r).length<=32)&&ltB c&&(c ::r).all OA&& !NM (c ::r)
def CJ (s:ByteArray):Bool:=decide (s.size<=32)&&(GK s).all nmB
def Cu (last:Bool) (s:St):Bool:=
 if s.kind=1 then !last&&Dm s.name&&decide (0<=s.cond)&&decide (s.grant= -1)
 else if s.kind=2 then !last&&decide (s.name.size=0)&&decide (0<=s.cond)&&decide (-1<=s.grant)
 else if s.kind=3 then last&&decide (s.name.size=0)&&decide (s.cond= -1)&&decide (-1<=s.grant)
 else jC
def DY (s:St):Bool:=
 if s.kind=1 then Dm s.name&&decide (s.grant= -1)
 else if s.kind=2 then decide (s.name.size=0)
 else if s.kind=3 then decide (s.name.size=0)&&decide (s.cond= -1)
 else jC
def At (s:St):List Int:=(if 0<=s.cond then [s.cond]else [])++(if 0<=s.grant then [s.grant]else [])
def Aj (s:St):List Int:=(if s.kind≠3 then [s.cond]else [])++(if s.grant≠-1 then [s.grant]else [])
def F9:List St->Bool
 |[]=>jA
 |s ::r=>Cu r.isEmpty s&&F9 r
def BX:List St->Bool
 |[]=>jA
 |s ::r=>DY s&&(decide (s.kind=3)==r.isEmpty)&&BX r
theorem Lx:∀(L:List St),(∀x∈L.flatMap Aj,0<=x)->(BX L=jA↔F9 L=jA)
 |[],_=>Iff.rfl
 |s ::r,h=>by
  have f:=Lx r (fun x hx=>h x (by rw[zi];exact List.mem_append_right _ hx));have hs:∀x∈Aj s,0<=x:=fun x hx=>h x (by rw[zi];exact Z7 _ hx);rw[BX,F9,zF,zF,zF,f];have e:(DY s=jA/\(decide (s.kind=3)==r.isEmpty)=jA)↔Cu r.isEmpty s=jA:=by
   have hc:s.kind≠3->0<=s.cond:=fun k=>hs _ (by rw[Aj,if_pos k];simp);have hg:s.grant≠-1->0<=s.grant:=fun k=>hs _ (by rw[Aj,if_pos k];simp);generalize r.isEmpty=a;unfold DY Cu;by_cases b:s.kind=1
   ·simp[b];have:=hc (by omega);cases a<;>simp[this]
   ·by_cases c:s.kind=2
    ·simp[c];have h1:=hc (by omega);have h2: -1<=s.grant:=by by_cases k:s.grant= -1;omega;have:=hg k;omega
     cases a<;>simp[h1,h2]
    ·by_cases d:s.kind=3
     ·simp[d];have h2: -1<=s.grant:=by by_cases k:s.grant= -1;omega;have:=hg k;omega
      cases a<;>simp[h2]
     ·simp[b,c,d]
  rw[<-e,and_assoc]
theorem XY:∀{d:Bool} {s:St},Cu d s=jA->At s=Aj s/\∀x∈Aj s,0<=x:=by
 intro d s h;unfold Cu at h;unfold At Aj;by_cases c:s.kind=1
 ·simp[c]at h;obtain⟨⟨_,h1⟩,h2⟩:=h;simp[c,h1,h2]
 ·by_cases a:s.kind=2
  ·simp[a]at h;obtain⟨⟨_,h1⟩,h2⟩:=h;by_cases hg:s.grant= -1
   ·simp[a,h1,hg]
   ·have: 0<=s.grant:=by omega
    simp[a,h1,hg,this]
  ·by_cases b:s.kind=3
   ·simp[b]at h;obtain⟨⟨_,h1⟩,h2⟩:=h;by_cases hg:s.grant= -1
    ·simp[b,h1,hg]
    ·have: 0<=s.grant:=by omega
     simp[b,h1,hg,this]
   ·simp[c,a,b]at h
theorem NU:∀{L:List St},F9 L=jA->L.flatMap At=L.flatMap Aj/\∀x∈L.flatMap Aj,0<=x
 |[],_=>⟨rfl,fun x hx=>by cases hx⟩
 |s ::r,h=>by
  rw[F9,zF]at h;obtain⟨e1,h1⟩:=XY h.1;obtain⟨e2,h2⟩:=NU h.2;refine⟨by rw[zi,zi,e1,e2],fun x hx=>?_⟩;rw[zi]at hx;rcases zN.1 hx with k|k
  ·exact h1 x k
  ·exact h2 x k
def KQ (N:List Nd) (L:List St):Prop:=
 F9 L=jA/\((L.flatMap At).foldl (fun o k=>Bd (N.map Nd.kids) N.length k o) []).length=N.length/\good ((L.flatMap At).foldl (fun o k=>Bd (N.map Nd.kids) N.length k o) [])/\∀r∈L.flatMap At,BL (N.map Nd.kids) N.length r<=64
def AfB (N:List Nd) (L:List St):Prop:=BX L=jA/\∃S,Cp (N.map Nd.kids) N.length [] 0=X S/\Am S=L.flatMap Aj
theorem ZW (N:List Nd)(L:List St):AfB N L↔KQ N L:=by
 have hs:=AcQ (N.map Nd.kids) (L.flatMap Aj);rw[ze]at hs;constructor
 ·rintro⟨h1,S,h2,h3⟩;have h0:∀x∈L.flatMap Aj,0<=x:=by
   rw[<-h3];intro x hx;obtain⟨p,_,rfl⟩:=zg.1 hx;omega
  have h4:=(Lx L h0).1 h1;have e:=(NU h4).1;unfold KQ;rw[e];exact⟨h4,hs.2 ⟨S,h2,h3⟩⟩
 ·rintro⟨h1,h2⟩;obtain⟨e,h0⟩:=NU h1;rw[e]at h2;exact⟨(Lx L h0).2 h1,hs.1 h2⟩
set_option maxHeartbeats 800000
theorem MB (a:Option jD)(n c:Nat)(ss:List ByteArray)(w:Z)(h:Ap w a n c ss):
  jE j4 165 #[Y a n c] w fun e w'=>e=jH (.bool (Ja ss))/\w'=w:=by
 have r:n<=9223372036854775807:=by have:=h.cap;have:=h.small;unfold jM at this;omega
 go_enter func165,ntmps165
 go_wp2
 go_loop [4,7] (fun _ i=>∃k:Nat,k<=n/\i=U .i64 k/\∀j,j<k->vnB (Aw ss j)=jA) (fun _ i=>n-(jI i).toNat)
 case atStart=>exact⟨0,zD _,rfl,fun j f=>by omega⟩
 case round=>
  obtain⟨k,s,rfl,g⟩:=hrel;have l:=Ab g;clear g;by_cases m:k<n
  ·obtain⟨b,t,p,_,hc⟩:=h.cells k m;have o:=h.sizes k m;subst p;cases hv:vnB (Aw ss k)
   ·have d:=Ab hv;have q:=Ab (XN ss k (by have:=h.len;omega) hv);clear hv;go_wp2_with (go_at_call 182;refine(Jw _ _ o).mono ?_;rintro e w' ⟨rfl,rfl⟩;rw[Aa d])
    go_ret
    exact⟨Ad (Aa q).symm,rfl⟩
   ·have d:=Ab hv;clear hv;go_wp2_with (go_at_call 182;refine(Jw _ _ o).mono ?_;rintro e w' ⟨rfl,rfl⟩;rw[Aa d])
    go_round
    case rel=>
     refine⟨k+1,by omega,by go_num,fun j f=>?_⟩
     by_cases e:j=k
     ·subst e;exact Aa d
     ·exact Aa l j (by omega)
    case measure=>simp[jI];omega
  ·go_wp2
   go_ret
   exact⟨Ad (Abh ss fun j f=>Aa l j (by have:=h.len;omega)).symm,rfl⟩
set_option maxHeartbeats 1600000
theorem Lr (a:Option jD)(n c:Nat)(ss:List ByteArray)(w:Z)(h:Ap w a n c ss):
  jE j4 166 #[Y a n c] w fun e w'=>e=jH (.bool (By ss))/\Ah w w':=by
 have r:n<=9223372036854775807:=by have:=h.cap;have:=h.small;unfold jM at this;omega
 go_enter func166,ntmps166
 go_wp2
 go_loopw [3] (fun i wr=>∃k:Nat,0<k/\(k<=n\/k=1)/\i=U .i64 k/\(∀j,0<j->j<k->sl (Aw ss (j-1)) (Aw ss j)=jA)/\Ah w wr) (fun i _=>n+1-(jI i).toNat)
 case atStart=>exact⟨1,by omega,.inr rfl,rfl,fun j d g=>by omega,BRN⟩
 case round=>
  obtain⟨k,s,t,rfl,l,f⟩:=hrel;have m:=Ab l;clear l;by_cases o:k<n
  ·obtain⟨b,u,p,v,hc⟩:=(h.below f NLN).at (by omega);have x:=hc (k-1) (by omega);have y:=hc k o;clear hc;subst p;have z:(0 :Int)<=(k:Int)-1:=by omega
   have A:(k:Int)-1<(n:Int):=by omega
   have B:(k:Int)<(n:Int):=by omega
   have C:((k:Int)-1).toNat=k-1:=by omega
   cases hs:Op.bytesLess (Aw ss (k-1)).toList (Aw ss k).toList
   ·have q:=Ab (XO ss (k-1) k (by omega) (by have:=h.len;omega) hs);go_wp2
    go_quiet (fail)
    go_wp2
    go_ret
    exact⟨Ad (Aa q).symm,jg f _⟩
   ·go_wp2
    go_quiet (fail)
    go_wp2
    go_roundw
    case rel=>
     refine⟨k+1,by omega,.inl (by omega),by go_num,fun j d g=>?_,?_⟩
     ·by_cases e:j=k
      ·subst e;exact hs
      ·exact Aa m j d (by omega)
     ·exact jg f _
    case measure=>simp[jI];omega
  ·go_wp2
   go_ret
   exact⟨Ad (UY ss fun j d g=>Aa m j d (by have:=h.len;omega)).symm,f⟩
theorem AB (a:Option jD)(n c:Nat)(ss:List ByteArray)(w:Z)(h:Ap w a n c ss):
  jE j4 133 #[Y a n c] w fun e w'=>e=jH (.bool (AC ss))/\Ah w w':=by
 have i:=h.len;by_cases k:n<=64
 ·have g:(n:Int)<=64:=by omega
  have d:=Ab (Rp ss (by omega));clear i;cases f:Ja ss
  ·have b:=Ab f;clear f;go_enter func133,ntmps133
   go_wp2_with (go_at_call 165;refine(MB _ _ _ _ _ h).mono ?_;rintro e w' ⟨rfl,rfl⟩;rw[Aa b])
   go_ret
   exact⟨Ad (by rw[Aa d,Aa b];rfl),BRN⟩
  ·have b:=Ab f;clear f;go_enter func133,ntmps133
   go_wp2_with (first|(go_at_call 165;refine(MB _ _ _ _ _ h).mono ?_;rintro e w' ⟨rfl,rfl⟩;rw[Aa b])|(go_at_call 166;refine(Lr _ _ _ _ _ h).mono ?_;rintro e w' ⟨rfl,j⟩))
   go_ret
   exact⟨Ad (by rw[Aa d,Aa b];rfl),j⟩
 ·have g:(64 :Int)<(n:Int):=by omega
  have d:=Ab (TY ss (by omega));clear i;go_enter func133,ntmps133
  go_wp2
  go_ret
  exact⟨Ad (Aa d).symm,BRN⟩
theorem AA (a:Option jD)(n c:Nat)(ss:List ByteArray)(w:Z)(h:Ap w a n c ss):
  jE j4 118 #[Y a n c] w fun e w'=>e=jH (.bool (AC ss))/\w'=w:=by
 have q:=h.len;by_cases E:n<=64
 ·have g:(n:Int)<=64:=by omega
  have f:=Ab (Rp ss (by omega));have l:=Ab q;clear q;go_enter func118,ntmps118
  go_wp2
  go_loop [2,3,4,5,11] (fun _ _ _ _ i=>∃k:Nat,k<=n/\i=U .i64 k/\(∀j,j<k->vnB (Aw ss j)=jA)/\(∀i j,i<k->i<j->j<n->sl (Aw ss i) (Aw ss j)=jA)) (fun _ _ _ _ i=>n-(jI i).toNat)
  case atStart=>exact⟨0,zD _,rfl,fun j d=>by omega,fun i j hi=>by omega⟩
  case round=>
   obtain⟨k,F,rfl,s,hp⟩:=hrel;have t:=Ab s;have u:=Ab hp;clear s hp;by_cases v:k<n
   ·obtain⟨b,G,z,_,hc⟩:=h.at (by omega);have H:=hc k v;have A:=Ab hc;clear hc;have x:=h.sizes k v;subst z;cases hv:vnB (Aw ss k)
    ·have o:=Ab hv;have r:=Ab (XN ss k (by have:=Aa l;omega) hv);clear hv;go_wp2_with (go_at_call 149;refine(Gb _ _ x).mono ?_;rintro e w' ⟨rfl,rfl⟩;rw[Aa o])
     go_ret
     exact⟨Ad (by rw[Aa f,Aa r];rfl),rfl⟩
    ·have o:=Ab hv;clear hv;go_wp2_with (go_at_call 149;refine(Gb _ _ x).mono ?_;rintro e w' ⟨rfl,rfl⟩;rw[Aa o])
     go_loop [5] (fun i=>∃m:Nat,k<m/\m<=n/\i=U .i64 m/\∀j,k<j->j<m->sl (Aw ss k) (Aw ss j)=jA) (fun i=>n-(jI i).toNat)
     case atStart=>exact⟨k+1,by omega,by omega,by go_num,fun j d B=>by omega⟩
     case round=>
      obtain⟨m,C,hm,rfl,hq⟩:=hrel;have y:=Ab hq;clear hq;by_cases D:m<n
      ·have I:=Aa A m D;cases hs:Op.bytesLess (Aw ss k).toList (Aw ss m).toList
       ·have r:=Ab (XO ss k m C (by have:=Aa l;omega) hs);go_wp2
        go_ret
        exact⟨Ad (by rw[Aa f,Aa r,Bool.and_false]),rfl⟩
       ·go_wp2
        go_round
        case rel=>
         refine⟨m+1,by omega,by omega,by go_num,fun j d B=>?_⟩
         by_cases e:j=m
         ·subst e;exact hs
         ·exact Aa y j d (by omega)
        case measure=>simp[jI];omega
      ·go_wp2
       go_round
       case rel=>
        refine⟨k+1,by omega,by go_num,fun j d=>?_,fun i j hi p d=>?_⟩
        ·by_cases e:j=k
         ·subst e;exact Aa o
         ·exact Aa t j (by omega)
        ·by_cases e:i=k
         ·subst e;exact Aa y j p (by omega)
         ·exact Aa u i j (by omega) p d
       case measure=>simp[jI];omega
   ·go_wp2
    go_ret
    have e1:Ja ss=jA:=Abh ss fun j d=>Aa t j (by have:=Aa l;omega);have e2:By ss=jA:=(Fg ss).2 fun i j p d=>Aa u i j (by have:=Aa l;omega) p (by have:=Aa l;omega);exact⟨Ad (by rw[Aa f,e1,e2];rfl),rfl⟩
 ·have g:(64 :Int)<(n:Int):=by omega
  have f:=Ab (TY ss (by omega));clear q;go_enter func118,ntmps118
  go_wp2
  go_ret
  exact⟨Ad (Aa f).symm,rfl⟩
def eqS (a b:ByteArray):Bool:=a.toList==b.toList
theorem FG (a b:ByteArray):eqS a b=jA↔a=b:=by
 rw[eqS,zM,zw,zw];exact⟨TV,fun h=>by rw[h]⟩
def Kb (ss:List ByteArray) (s:ByteArray):Bool:=ss.any fun x=>eqS x s
theorem Rm (ss:List ByteArray)(s:ByteArray):Kb ss s=jA↔s∈ss:=by
 rw[Kb,List.any_eq_true];constructor
 ·rintro⟨x,hx,he⟩;rw[FG]at he;subst he;exact hx
 ·intro h;exact⟨s,h,(FG _ _).2 rfl⟩
theorem LY (ss:List ByteArray)(s:ByteArray):s∈ss↔∃j,j<ss.length/\Aw ss j=s:=by
 constructor
 ·intro h;obtain⟨j,a,rfl⟩:=zy h;exact⟨j,a,Bv ss j a⟩
 ·rintro⟨j,a,rfl⟩;rw[Bv ss j a];exact zH a
theorem AaA (ss:List ByteArray)(s:ByteArray)(j:Nat)(a:j<ss.length)(h:eqS (Aw ss j) s=jA):Kb ss s=jA:=by
 rw[Rm,LY];exact⟨j,a,(FG _ _).1 h⟩
theorem M9 (ss:List ByteArray)(s:ByteArray)(h:∀j,j<ss.length->eqS (Aw ss j) s=jC):Kb ss s=jC:=by
 rw[zv];intro k;rw[Rm,LY]at k;obtain⟨j,a,e⟩:=k;have:=h j a;rw[(FG _ _).2 e]at this;cases this
def Dd (ss tt:List ByteArray) (b:Bool):List ByteArray:=ss.filter fun s=>Kb tt s==b
theorem Cq (ss:List ByteArray)(k:Nat)(h:k<ss.length):ss.take (k+1)=ss.take k++[Aw ss k]:=by
 rw[Bv ss k h,zQ h]
theorem Qf (ss tt:List ByteArray)(b:Bool)(k:Nat)(h:k<ss.length)(hv:(Kb tt (Aw ss k)==b)=jA):Dd (ss.take (k+1)) tt b=Dd (ss.take k) tt b++[Aw ss k]:=by
 rw[Cq ss k h,Dd,Dd,List.filter_append];simp[hv]
theorem Uz (ss tt:List ByteArray)(b:Bool)(k:Nat)(h:k<ss.length)(hv:(Kb tt (Aw ss k)==b)=jC):Dd (ss.take (k+1)) tt b=Dd (ss.take k) tt b:=by
 rw[Cq ss k h,Dd,Dd,List.filter_append];simp[hv]
theorem H7 (ss tt:List ByteArray)(b:Bool):(Dd ss tt b).length<=ss.length:=List.length_filter_le _ _
theorem Bo {e:Nat}{b:List R}(h:w.ownsRow a e 1 v n b):∃x c,v=Y x n c:=by
 rcases h.2 with⟨rfl,rfl⟩|⟨g,cap,d,rfl,_⟩
 ·exact⟨_,_,rfl⟩
 ·exact⟨_,_,rfl⟩
theorem Qd (ss tt:List ByteArray)(b:Bool)(h:∀j,j<ss.length->(Aw ss j).size<=jM):∀j,j<(Dd ss tt b).length->(Aw (Dd ss tt b) j).size<=jM:=by
 intro j a;have hm:Aw (Dd ss tt b) j∈ss:=by
  rw[Bv _ j a];exact(List.mem_filter.1 (zH a)).1
 obtain⟨i,hi,e⟩:=(LY _ _).1 hm;rw[<-e];exact h i hi
theorem Ap.setFar {a:Option jD}{n c:Nat}{ss:List ByteArray}(h:Ap w a n c ss)(hp:∀x,a=X x->p.block≠x.block)(u:R):Ap (w.setCell p u) a n c ss:=
 ⟨h.len,h.cap,h.small,h.sizes,fun j f=>by
  obtain⟨b,g,d,i,hc⟩:=h.cells j f;refine⟨b,g,d,by simpa using i,?_⟩;rw[<-hc];exact World.cell?_of_block (jc w p b u (fun e=>hp _ d e.symm))⟩
theorem SH {e:jJ}{size:Nat}{x:Option jD}{c:Nat}{b:List R}(h:w.ownsRow a e size (Y x n c) n b)(hm:m<=n):w.ownsRow a e size (Y x m c) m (b.take (m*size)):=by
 have f:m*size<=n*size:=Nat.mul_le_mul_right _ hm;refine⟨by rw[List.length_take,h.1];omega,?_⟩;rcases h.2 with⟨hv,i⟩|⟨g,cap,d,hv,h1,h2,h3,h4,h5,h6⟩
 ·cases hv;exact .inl ⟨by rw[show m=0 by omega],by omega⟩
 ·cases hv;refine .inr ⟨g,c,d,rfl,h1,h2,by omega,h4,h5,?_⟩;rw[<-h6,List.take_take]
  congr 1
  omega
theorem An {e:jJ}{size:Nat}{B:Nat}{b:List R}(h:w.ownsRow a e size v n b)(c:Below B w w')(hB:w.heap.size<=B):w'.ownsRow a e size v n b:=by
 refine⟨h.1,?_⟩;rcases h.2 with d|⟨g,cap,f,hv,h1,h2,h3⟩
 ·exact .inl d
 ·exact .inr ⟨g,cap,f,hv,h1,(c.block g (Nat.lt_of_lt_of_le (Array.getElem?_eq_some_iff.1 h2).1 hB)).trans h2,h3⟩
theorem Ae {e size n:Nat}{b:List R}(h:w.ownsRow a e size v n b):∃x c,v=Y x n c/\(0<n->∃g,x=X ⟨g,0,T⟩/\a<=g/\∀j u,b[j]? =X u->w.cell? ⟨g,j,T⟩=X u):=by
 rcases h.2 with⟨rfl,rfl⟩|⟨g,cap,k,rfl,d,_⟩
 ·exact⟨_,_,rfl,fun h=>absurd h (by omega)⟩
 ·refine⟨_,_,rfl,fun _=>⟨g,rfl,d,fun j u f=>?_⟩⟩;have:=h.cells (g:=g) rfl j u f;have i:(⟨g,0,T⟩:jD).add j=⟨g,j,T⟩:=by unfold Addr.add;split<;>simp_all
  rwa[i]at this
theorem Ak {e:jJ}{size:Nat}{b:List R}(h:w.ownsRow a e size v n b)(c:∀q,v.ownBlock=X q->w'.heap[q]? =w.heap[q]?):w'.ownsRow a e size v n b:=by
 refine⟨h.1,?_⟩;rcases h.2 with h2|⟨g,cap,d,hv,h3,hg,h4⟩
 ·exact .inl h2
 ·exact .inr ⟨g,cap,d,hv,h3,(c g (by rw[hv];rfl)).trans hg,h4⟩
theorem AW {e:jJ}{size:Nat}{b:List R}(h:w.ownsRow a e size v n b)(p:jD)(u:R)(hp:∀q,v.ownBlock=X q->q≠p.block):(w.setCell p u).ownsRow a e size v n b:=
 Ak h (fun q hq=>jc w p q u (hp q hq))
theorem Ac {B a size:Nat}{e T:jJ}{b:List Value}{cs:Array Value}(R:Ag w a cs T)(h:w.ownsRow B e size v n b)(c:T≠e):v.ownBlock≠X a:=fun hq=>by
 rcases h.2 with⟨hv,_⟩|⟨g,cap,d,hv,_,hg,_⟩
 ·rw[hv]at hq;cases hq
 ·rw[hv]at hq;obtain rfl:g=a:=by simpa[Value.ownBlock]using hq
  have:=R.out.symm.trans hg;simp at this;exact c this.2
def Vl (x:Int):ByteArray:=ByteArray.empty.push (UInt8.ofNat x.toNat)
theorem KC (x:Int):(Vl x).size=1:=rfl
theorem Ai9 (a:Z)(x:Int):(convert 180 9 (Y (X ⟨a.heap.size,0,T⟩) 1 1)).run j4 (a.alloc (jF #[U .u8 x] 5))= .ok (Q (Vl x)) (a.alloc (jF #[U .u8 x] 5)):=by
 rw[run_convert_bytes_string _ _ _ _ _ _ _ underlying180 underlying5 underlying9];rw[run_bytesToString _ _ _ _ [x]]
 ·rfl
 ·have h:(a.alloc (jF #[U .u8 x] 5)).cell? ⟨a.heap.size,0,T⟩=X (U .u8 x):=by simp
  simp[loadCells,h,go_sem]
theorem Px (a b:ByteArray):(a++b).size=a.size+b.size:=ByteArray.size_append
set_option maxHeartbeats 800000
def Na:Nat->Nat->ByteArray->ByteArray
 |0,_,l=>l
 |f+1,k,l=>if k=0 then l else Na f (k / 10) (Vl (48+(k:Int) % 10)++l)
theorem AbR (f:Nat)(l:ByteArray):Na f 0 l=l:=by cases f<;>simp[Na]
theorem To (f k:Nat)(l:ByteArray)(h:k≠0):Na (f+1) k l=Na f (k / 10) (Vl (48+(k:Int) % 10)++l):=by simp[Na,h]
theorem Wj:∀(f k:Nat) (l:ByteArray),(Na f k l).size<=l.size+k
 |0,_,_=>by simp[Na]
 |f+1,k,l=>by
  by_cases h:k=0
  ·simp[Na,h]
  ·have:=Wj f (k / 10) (Vl (48+(k:Int) % 10)++l);rw[To f k l h];rw[Px,KC]at this;omega
def Br (k:Nat):ByteArray:=if k=0 then ⟨#[109,48]⟩else ⟨#[109]⟩++Na (k+1) k ⟨#[]⟩
theorem YS (k:Nat):(Br k).size<=k+2:=by
 unfold Br;by_cases h:k=0
 ·simp[h,ByteArray.size]
 ·have:=Wj (k+1) k ⟨#[]⟩;rw[if_neg h,Px];simp only[ByteArray.size,List.size_toArray,List.length_nil,List.length_cons]at this|-;omega
theorem UA (k:Nat)(w:Z)(j:k<=35184372088832):
  jE j4 71 #[U .i64 k] w fun e w'=>e=jH (Q (Br k))/\Ah w w':=by
 by_cases h0:k=0
 ·subst h0;go_enter func71,ntmps71
  go_wp2
  go_ret
  exact⟨rfl,BRN⟩
 ·have h1:(0 :Int)<(k:Int):=by omega
  have g:=Ab (show Br k=⟨#[109]⟩++Na (k+1) k ⟨#[]⟩ by rw[Br,if_neg h0]);have n:=Ai9;clear h0;go_enter func71,ntmps71
  go_wp2
  go_loopw [0,3] (fun i o wr=>∃ (m f:Nat) (l:ByteArray),i=U .i64 m/\o=Q l/\m<f/\l.size+m<=k/\Na f m l=Na (k+1) k ⟨#[]⟩/\Ah w wr) (fun i _ _=>(jI i).toNat)
  case atStart=>exact⟨k,k+1,⟨#[]⟩,rfl,rfl,by omega,by simp[ByteArray.size],rfl,BRN⟩
  case round=>
   obtain⟨m,f,l,rfl,rfl,p,q,a,c⟩:=hrel;have h:=c.size;by_cases hm:m=0
   ·subst hm;rw[AbR]at a;have d:=Ab a;clear a;go_wp2
    go_ret
    exact⟨by rw[Aa g,<-Aa d];rfl,c⟩
   ·have r:(0 :Int)<(m:Int):=by omega
    obtain⟨b,rfl⟩:∃b,f=b+1:=⟨f-1,by omega⟩
    rw[To b m l hm]at a;have d:=Ab a;clear a;have s:=KC (48+(m:Int) % 10);go_wp2
    go_roundw
    case rel=>exact⟨m / 10,b,_,by go_num,rfl,by omega,by rw[Px,KC];omega,Aa d,c.alloc h _⟩
    case measure=>simp[jI];omega
theorem BN (x:Int)(w:Z)(h0: 0<=x)(a:x<=35184372088832):
  jE j4 71 #[U .i64 x] w fun e w'=>e=jH (Q (Br x.toNat))/\Ah w w':=by
 obtain⟨n,rfl⟩:=yJ h0;rw[zV];exact UA n w (by omega)
theorem Qc (a f:Option jD)(n c c':Nat)(ss:List ByteArray)(w:Z)(h:Ap w a n c ss)(j:Ap w f n c' ss):
  jE j4 115 #[Y a n c,Y f n c'] w fun e w'=>e=jH (.bool jA)/\Ah w w':=by
 have o:n<=9223372036854775807:=by have:=h.cap;have:=h.small;unfold jM at this;omega
 go_enter func115,ntmps115
 go_wp2
 go_loopw [5] (fun i wr=>∃k:Nat,k<=n/\i=U .i64 k/\Ah w wr) (fun i _=>n-(jI i).toNat)
 case atStart=>exact⟨0,zD _,rfl,BRN⟩
 case round=>
  obtain⟨k,p,rfl,d⟩:=hrel;by_cases g:k<n
  ·obtain⟨b,q,l,_,hc⟩:=(h.below d NLN).cells k g;obtain⟨r,s,m,_,t⟩:=(j.below d NLN).cells k g;subst l;subst m;have u:(k:Int)<(n:Int):=by omega
   go_wp2
   go_quiet (fail)
   go_wp2
   go_roundw
   case rel=>exact⟨k+1,by omega,by go_num,jg d _⟩
   case measure=>simp[jI];omega
  ·go_wp2
   go_ret
   exact⟨rfl,d⟩
section
structure FE (ss tt:List ByteArray) (i j:Nat):Prop where
 i_le:i<=ss.length
 j_le:j<=tt.length
 A:∀p q,p<i->j<=q->q<tt.length->sl (Aw ss p) (Aw tt q)=jA
 B:∀p q,q<j->i<=p->p<ss.length->sl (Aw tt q) (Aw ss p)=jA
theorem FE.start (ss tt:List ByteArray):FE ss tt 0 0:=⟨zD _,zD _,fun p q h=>by omega,fun p q h=>by omega⟩
variable {ss tt : List ByteArray} {i j : Nat}
theorem Wi {a b:ByteArray}(h:sl a b=jA):eqS b a=jC:=by
 rw[zv];intro k;rw[FG]at k;subst k;rw[Dx]at h;cases h
theorem Tm {a b:ByteArray}(h:sl a b=jA):eqS a b=jC:=by
 rw[zv];intro k;rw[FG]at k;subst k;rw[Dx]at h;cases h
theorem Aaz (a:By tt=jA){p q:Nat}(b:p<=q)(hq:q<tt.length){x:ByteArray}(h:sl x (Aw tt p)=jA):sl x (Aw tt q)=jA:=by
 by_cases e:p=q
 ·subst e;exact h
 ·exact Ju h ((Fg tt).1 a p q (by omega) hq)
theorem FE.left (h:FE ss tt i j)(c:By tt=jA)(hi:i<ss.length)(hc:j<tt.length->sl (Aw ss i) (Aw tt j)=jA):FE ss tt (i+1) j/\Kb tt (Aw ss i)=jC:=by
 have b:∀q,j<=q->q<tt.length->sl (Aw ss i) (Aw tt q)=jA:=fun q hq a=>Aaz c hq a (hc (by omega));refine⟨⟨by omega,h.j_le,fun p q hp hq a=>?_,fun p q hq hp d=>h.B p q hq (by omega) d⟩,M9 _ _ fun q hq=>?_⟩
 ·by_cases e:p=i
  ·subst e;exact b q hq a
  ·exact h.A p q (by omega) hq a
 ·by_cases e:q<j
  ·exact Tm (h.B i q e NLN hi)
  ·exact Wi (b q (by omega) hq)
theorem FE.right (h:FE ss tt i j)(hs:By ss=jA)(b:j<tt.length)(hc:i<ss.length->sl (Aw tt j) (Aw ss i)=jA):FE ss tt i (j+1)/\Kb ss (Aw tt j)=jC:=by
 have hB:∀p,i<=p->p<ss.length->sl (Aw tt j) (Aw ss p)=jA:=fun p hp a=>Aaz hs hp a (hc (by omega));refine⟨⟨h.i_le,by omega,fun p q hp hq c=>h.A p q hp (by omega) c,fun p q hq hp a=>?_⟩,M9 _ _ fun p hp=>?_⟩
 ·by_cases e:q=j
  ·subst e;exact hB p hp a
  ·exact h.B p q (by omega) hp a
 ·by_cases e:p<i
  ·exact Tm (h.A p j e NLN b)
  ·exact Wi (hB p (by omega) hp)
theorem FE.both (h:FE ss tt i j)(hs:By ss=jA)(c:By tt=jA)(hi:i<ss.length)(d:j<tt.length)(h1:sl (Aw ss i) (Aw tt j)=jC)(h2:sl (Aw tt j) (Aw ss i)=jC):
  FE ss tt (i+1) (j+1)/\Kb tt (Aw ss i)=jA/\Aw ss i=Aw tt j:=by
 have e:=Uy _ _ h1 h2;refine⟨⟨by omega,by omega,fun p q hp hq a=>?_,fun p q hq hp b=>?_⟩,?_,e⟩
 ·by_cases k:p=i
  ·subst k;rw[e];exact(Fg tt).1 c j q (by omega) a
  ·exact h.A p q (by omega) (by omega) a
 ·by_cases k:q=j
  ·subst k;rw[<-e];exact(Fg ss).1 hs i p (by omega) b
  ·exact h.B p q (by omega) (by omega) b
 ·exact AaA _ _ j d ((FG _ _).2 e.symm)
structure KL (ss tt:List ByteArray) (i j:Nat) (K:List ByteArray):Prop where
 out:K=Dd (ss.take i) tt jC
structure KB (ss tt:List ByteArray) (i j:Nat) (K:List ByteArray):Prop where
 out:K=Dd (ss.take i) tt jA
structure KA (ss tt:List ByteArray) (i j:Nat) (K:List ByteArray):Prop where
 rise:By K=jA
 mem:∀x,x∈K↔x∈ss.take i\/x∈tt.take j
theorem KL.start:KL ss tt 0 0 []:=⟨rfl⟩
theorem KB.start:KB ss tt 0 0 []:=⟨rfl⟩
theorem KA.start:KA ss tt 0 0 []:=⟨by rfl,by simp⟩
variable {K : List ByteArray}
theorem KL.left (k:KL ss tt i j K)(h:FE ss tt i j)(a:By tt=jA)(hi:i<ss.length)(hc:j<tt.length->sl (Aw ss i) (Aw tt j)=jA):KL ss tt (i+1) j (K++[Aw ss i]):=
 ⟨by rw[Qf ss tt jC i hi (by rw[(h.left a hi hc).2];rfl),k.out]⟩
theorem KL.right (k:KL ss tt i j K):KL ss tt i (j+1) K:=⟨k.out⟩
theorem KL.both (k:KL ss tt i j K)(h:FE ss tt i j)(hs:By ss=jA)(a:By tt=jA)(hi:i<ss.length)(b:j<tt.length)(h1:sl (Aw ss i) (Aw tt j)=jC)(h2:sl (Aw tt j) (Aw ss i)=jC):KL ss tt (i+1) (j+1) K:=
 ⟨by rw[Uz ss tt jC i hi (by rw[(h.both hs a hi b h1 h2).2.1];rfl),k.out]⟩
theorem KL.last (k:KL ss tt ss.length j K):K=Dd ss tt jC:=by rw[k.out,Z2]
theorem KB.left (k:KB ss tt i j K)(h:FE ss tt i j)(a:By tt=jA)(hi:i<ss.length)(hc:j<tt.length->sl (Aw ss i) (Aw tt j)=jA):KB ss tt (i+1) j K:=
 ⟨by rw[Uz ss tt jA i hi (by rw[(h.left a hi hc).2];rfl),k.out]⟩
theorem KB.right (k:KB ss tt i j K):KB ss tt i (j+1) K:=⟨k.out⟩
theorem KB.both (k:KB ss tt i j K)(h:FE ss tt i j)(hs:By ss=jA)(a:By tt=jA)(hi:i<ss.length)(b:j<tt.length)(h1:sl (Aw ss i) (Aw tt j)=jC)(h2:sl (Aw tt j) (Aw ss i)=jC):KB ss tt (i+1) (j+1) (K++[Aw ss i]):=
 ⟨by rw[Qf ss tt jA i hi (by rw[(h.both hs a hi b h1 h2).2.1];rfl),k.out]⟩
theorem KB.last (k:KB ss tt ss.length j K):K=Dd ss tt jA:=by rw[k.out,Z2]
theorem Tn (x:ByteArray)(h:By K=jA)(hx:∀y∈K,sl y x=jA):By (K++[x])=jA:=by
 rw[By,zI]at*;rw[List.pairwise_append];refine⟨h,by simp,fun a d b c=>?_⟩;simp only[zS]at c;subst c;exact hx a d
theorem FH (x:ByteArray)(h:x∈ss.take i):∃p,p<i/\p<ss.length/\Aw ss p=x:=by
 obtain⟨p,hp,e⟩:=(LY _ _).1 h;have a:(ss.take i).length<=i:=List.length_take_le _ _;have b:(ss.take i).length<=ss.length:=by simp;omega
 refine⟨p,by omega,by omega,?_⟩;rw[<-e,Bv _ p hp,Bv _ p (by omega),List.getElem_take]
theorem KA.left (k:KA ss tt i j K)(h:FE ss tt i j)(hs:By ss=jA)(hi:i<ss.length):KA ss tt (i+1) j (K++[Aw ss i]):=
 ⟨Tn _ k.rise fun y hy=>by
  rcases(k.mem y).1 hy with hy|hy
  ·obtain⟨p,hp,a,rfl⟩:=FH y hy;exact(Fg ss).1 hs p i hp hi
  ·obtain⟨q,hq,b,rfl⟩:=FH y hy;exact h.B i q hq NLN hi,
 fun x=>by rw[zN,k.mem,Cq ss i hi,zN];simp only[zS];constructor<;>intro h<;>(rcases h with(h|h)|h<;>simp[h])⟩
theorem KA.right (k:KA ss tt i j K)(h:FE ss tt i j)(b:By tt=jA)(a:j<tt.length):KA ss tt i (j+1) (K++[Aw tt j]):=
 ⟨Tn _ k.rise fun y hy=>by
  rcases(k.mem y).1 hy with hy|hy
  ·obtain⟨p,hp,c,rfl⟩:=FH y hy;exact h.A p j hp NLN a
  ·obtain⟨q,hq,d,rfl⟩:=FH y hy;exact(Fg tt).1 b q j hq a,
 fun x=>by rw[zN,k.mem,Cq tt j a,zN];simp only[zS];constructor<;>intro h<;>(first|(rcases h with(h|h)|h<;>simp[h])|(rcases h with h|h|h<;>simp[h]))⟩
theorem KA.both (k:KA ss tt i j K)(h:FE ss tt i j)(hs:By ss=jA)(hi:i<ss.length)(b:j<tt.length)(h1:sl (Aw ss i) (Aw tt j)=jC)(h2:sl (Aw tt j) (Aw ss i)=jC):KA ss tt (i+1) (j+1) (K++[Aw ss i]):=by
 have e:=Uy _ _ h1 h2;have a:=k.left h hs hi;refine⟨a.rise,fun x=>?_⟩;rw[a.mem,Cq tt j b,zN,Cq ss i hi,zN,e];simp only[zS];constructor<;>intro h
 ·rcases h with(h|h)|h<;>simp[h]
 ·rcases h with(h|h)|(h|h)<;>simp[h]
end
section
structure CZ (w:Z) (aS aO aZ aW:jD):Prop where
 g0:w.cell? ⟨3,0,T⟩=X (jB 297 (jK (X aS)))
 g1:w.cell? ⟨7,0,T⟩=X (jB 297 (jK (X aO)))
 g2:w.cell? ⟨8,0,T⟩=X (jB 297 (jK (X aZ)))
 g3:w.cell? ⟨9,0,T⟩=X (jB 297 (jK (X aW)))
 big: 10<=w.heap.size
 rS:∃c t,w.heap[aS.block]? =X (jF c t (0,0))
 rO:∃c t,w.heap[aO.block]? =X (jF c t (0,0))
 rZ:∃c t,w.heap[aZ.block]? =X (jF c t (0,0))
 rW:∃c t,w.heap[aW.block]? =X (jF c t (0,0))
 nSO:aS≠aO
 nSZ:aS≠aZ
 nSW:aS≠aW
 nOZ:aO≠aZ
 nOW:aO≠aW
 nZW:aZ≠aW
theorem J9 {B:Nat}{a:jD}(h:∃c t,w.heap[a.block]? =X (jF c t (0,0)))(b:Below B w w')(hB:w.heap.size<=B):∃c t,w'.heap[a.block]? =X (jF c t (0,0)):=by
 obtain⟨c,t,h⟩:=h;have d:a.block<w.heap.size:=(z4.1 h).1;exact⟨c,t,(b.block _ (by omega)).trans h⟩
theorem CZ.below {B:Nat}{aS aO aZ aW:jD}(h:CZ w aS aO aZ aW)(a:Below B w w')(hB:w.heap.size<=B):CZ w' aS aO aZ aW where
 g0:=(a.cell (p:=⟨3,0,T⟩) (by have:=h.big;show 3 <B;omega)).trans h.g0
 g1:=(a.cell (p:=⟨7,0,T⟩) (by have:=h.big;show 7 <B;omega)).trans h.g1
 g2:=(a.cell (p:=⟨8,0,T⟩) (by have:=h.big;show 8 <B;omega)).trans h.g2
 g3:=(a.cell (p:=⟨9,0,T⟩) (by have:=h.big;show 9 <B;omega)).trans h.g3
 big:=zB h.big a.size
 rS:=J9 h.rS a hB
 rO:=J9 h.rO a hB
 rZ:=J9 h.rZ a hB
 rW:=J9 h.rW a hB
 nSO:=h.nSO
 nSZ:=h.nSZ
 nSW:=h.nSW
 nOZ:=h.nOZ
 nOW:=h.nOW
 nZW:=h.nZW
variable {aS aO aZ aW : jD}
def Sb (aS aO aZ aW:jD) (c:Int):R:=if c=0 then .nilIface else if c=1 then jB 297 (jK (X aO))else if c=2 then jB 297 (jK (X aZ))else if c=3 then jB 297 (jK (X aW))else jB 297 (jK (X aS))
end
theorem LD (h1: -9223372036854775808<=x)(h2:x<=9223372036854775807):wrap64 x=x:=by unfold wrap64;omega
theorem Yv (x:Int): -9223372036854775808<=wrap64 x/\wrap64 x<=9223372036854775807:=by unfold wrap64;omega
theorem Ac8 (x:Int):∃k:Int,wrap64 x=x+k*18446744073709551616:=⟨-((x+9223372036854775808) / 18446744073709551616),by unfold wrap64;omega⟩
theorem Py {a:Int}(h1: -9223372036854775808<=x)(h2:x<=9223372036854775807)(h0:a≠0)(hm:a≠-1\/x≠-9223372036854775808): -9223372036854775808<=x.tdiv a/\x.tdiv a<=9223372036854775807:=by
 have b:(x.tdiv a).natAbs<=x.natAbs:=by rw[Int.natAbs_tdiv];exact Nat.div_le_self _ _
 have he:=Int.mul_tdiv_add_tmod x a;have c:(x.tmod a).natAbs<a.natAbs:=by rw[Int.natAbs_tmod];exact Nat.mod_lt _ (by omega)
 refine⟨by omega,?_⟩;by_cases e:x.tdiv a=9223372036854775808
 ·rw[e]at he b;omega
 ·omega
theorem AhQ {a b:Int}(h0:a≠0)(c: -9223372036854775808<=b)(d:b<=9223372036854775807)(h1: -9223372036854775808<=a*b)(h2:a*b<=9223372036854775807):(wrap64 ((wrap64 (a*b)).tdiv a)!=b)=jC/\wrap64 (a*b)=a*b:=by
 have e:=LD h1 h2;refine⟨?_,e⟩;rw[e,Int.mul_tdiv_cancel_left b h0,LD c d];simp
theorem Af0 {a b:Int}(g: -9223372036854775808<=a)(i:a<=9223372036854775807)(h0:a≠0)(hm:a≠-1)(h:a*b< -9223372036854775808\/9223372036854775807<a*b):(wrap64 ((wrap64 (a*b)).tdiv a)!=b)=jA:=by
 obtain⟨c,r2⟩:=Yv (a*b);obtain⟨k,j⟩:=Ac8 (a*b);generalize wrap64 (a*b)=x at*;obtain⟨d,f⟩:=Py c r2 h0 (.inl hm);rw[LD d f];have he:=Int.mul_tdiv_add_tmod x a;have l:(x.tmod a).natAbs<a.natAbs:=by rw[Int.natAbs_tmod];exact Nat.mod_lt _ (by omega)
 simp only[bne_iff_ne,ne_eq];intro e;rw[e]at he;generalize a*b=p at*;omega
end Go.Proofs.YteiieikcjcfkkaaGreatDoor
