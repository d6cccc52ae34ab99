import Derived.Test.YtnjpihpohilnjaaGreatDoorMXAU
import Derived.Test.YtnjpihpohilnjaaGreatDoorMXAT
open List renaming length->T,length->ja
open Option renaming none->U,some->Q
open Array renaming size->R,size->jh
open Go renaming World->jB,Value->jF,Addr->jG
open Bool renaming true->jD
namespace Go.Proofs.YtnjpihpohilnjaaGreatDoor
open Proofs.Tryz
open Value renaming int->V,slice->Y,string->jC,ownBlock->jL,agg->jM,pointer->jP
open IntKind renaming i64->X,i64->jd
open World renaming heap->Z,cell?->jI,setCell->jJ,alloc->jK,ownsRow->jO,drew->jR
open Addr renaming mk->jA
open Proofs.Tryz renaming prog->jZ
open Go.RowKit
set_option linter.unusedVariables false
variable{wild:Bool}{s:K9}{L:List (K9×Int)}{ss tt:L4}{zs:L2}{N A:L6}{k b:L7}{B n c g7 c7 top q:Nat}{x:Nd}{a:L3}{nd v' u:jF}{w w':jB}
theorem MB {lo:Nat}{L:L2}(h:jO w lo 3 1 (Y a n c) n<|Ak L)(b:T L=n)(d:n<=1048576):AP w a n c L:=by
 refine⟨b,d,λj f=>?_⟩;obtain⟨x,c',e,hx⟩:=Ae h;cases e;obtain⟨g,rfl,hg,hc⟩:=hx Oa;refine⟨g,0,rfl,(h.lt g rfl).2,?_⟩
 grind [Ak]
def EC (L:L9):L7:=L.flatMap λs=> [V X s.aC,jC s.name,V X s.cond,V X s.aG]
theorem WK:∀(L:L9),T (EC L)=T L*4:=by intro L;induction L<;>intros<;>grind [List.length_cons,zC,EC]
theorem UU:∀(L:L9) (j:Nat) (h:j<T L),∀r,r<4->(EC L)[j*4+r]? =([Value.int X L[j].aC,jC L[j].name,V X L[j].cond,V X L[j].aG]:L7)[r]?
 |s ::L,0,_,r,hr=>by grind [EC]
 |s ::L,j+1,h,r,hr=>by
  have a:=UU L j Q6 r hr;rw[EC,List.flatMap_cons,List.getElem?_append_right O0];have e:(j+1)*4+r-T ([Value.int X s.aC,jC s.name,V X s.cond,V X s.aG]:L7)=j*4+r:=O0
  grind [EC]
 |[],_,h,_,_=>H9 h Ox
theorem Cv.nds {lo:Nat}{l:L7}(h:Cv w lo (Y a n c) N k l)(r:T N=n)(hs:n<=1048576)(ok:∀x∈N,okN x/\x.text.size<=1048576):IN w a n c N:=by
 refine⟨r,hs,λx hx=>(ok x hx).2,λj b=>?_⟩;have m:j<T k:=by rw[h.len];exact b
 have o:j<T l:=by rw[h.bY];exact b
 have d:=Zs N k l j b m o;have s:=d 0 Ob;have t:=d 1 Ob;have u:=d 2 Ob;have p:=d 3 Ob;have q:=d 4 Ob;simp only[nd5,zX,Z3,Z4]at s t u p q;obtain⟨g,A⟩:∃g,a=Q (jA g 0 U):=by
  obtain⟨_,h0⟩|⟨g,cap,E,hv,_⟩:=h.aN.2
  all_goals grind
 subst A;subst r;have f:∀i,i<5->jI w ⟨g,0+j*5+i,U⟩=(Yv N k l)[j*5+i]? :=λi hi=>by rw[zY];exact h.aN.cellAt (g:=g) (n:=T N) (j*5+i) Oa
 obtain⟨an,cn,hu⟩:=AA<|h.aB j b m;obtain⟨B,C,D⟩:=AA<|h.aD j b o;have v:=h.aB j b m;have y:=h.aD j b o;rw[hu]at p v;rw[D]at q y;have z:=ok _<|zI b;refine⟨g,0,rfl,(h.aN.lt g rfl).2,an,_,cn,B,_,C,(f 0 Oa).trans s,(f 1 Oa).trans t,(f 2 Oa).trans u,(f 3 Oa).trans p,(f 4 Oa).trans q,Aq.bG v λi hi=>?_,MB y rfl z.1.2.1⟩;rw[Dd _ i hi];exact z.1.2.2 _<|zI hi
theorem FF {lo:Nat}{L:L9}(h:jO w lo 113 4 (Y a n c) n<|EC L)(d:T L=n)(f:n<=1048576)(ok:∀s∈L,s.name.size<=1048576):Po w a n c L:=by
 refine⟨d,f,ok,λj i=>?_⟩;have b:=UU L j i;have k:=b 0 Ob;have l:=b 1 Ob;have m:=b 2 Ob;have o:=b 3 Ob;simp only[zX,Z3,Z4]at k l m o;obtain⟨x,c',e,hx⟩:=Ae h;cases e;obtain⟨g,rfl,hg,hc⟩:=hx Oa;refine⟨g,0,rfl,(h.lt g rfl).2,?_,?_,?_,?_⟩
 all_goals grind
def Lu (k:Nat):K9:= [⟨#[108,101,118,101,108]⟩,⟨#[110,111,119]⟩,⟨#[99,108,105,101,110,116]⟩,⟨#[117,115,101,114]⟩,⟨#[97,115,107,101,100]⟩,⟨#[97,103,114,101,101,100]⟩].getD k ⟨#[]⟩
def Gj (L:List<|K9×Int) (ty x:Int):Nat->L0 K9
 |0=>U
 |i+1=>if (L.getD i (⟨#[]⟩,0)).2=ty/\((i:Int)+x) % 2=0 then Q (L.getD i (⟨#[]⟩,0)).1 else Gj L ty x i
def AbE (zs:L2):Nat->Nat->Int->Int×Nat
 |0,p,v=>(v,p)
 |k+1,p,v=>AbE zs k (nx zs p).2<|bits .or X (wrap64<|v*256) (nx zs p).1
def Qa (zs:L2) (x:Int) (p:Nat):Int×Nat:=
 if x % 8=0 then (9223372036854775807-x / 8 % 3,p)
 else if x % 8=1 then (-9223372036854775808+x / 8 % 3,p)
 else if x % 8=2 then (x / 8 % 3,p)
 else if x % 8=3 then (-(x / 8 % 3),p)
 else if x % 8=4 then ((nx zs p).1*16777216+(nx zs (nx zs p).2).1,(nx zs (nx zs p).2).2)
 else if x % 8=5 then AbE zs 8 p 0
 else if x % 8=6 then (3037000499+x / 8 % 3,p)
 else (x-128,p)
def SF (zs:L2) (p:Nat):Int×Nat:=Qa zs (nx zs p).1 (nx zs p).2
def Ag6 (y:Int):Int:=if y<0 then -(y+1)else y
def Pq (zs:L2) (L:List<|K9×Int) (ty x:Int) (p:Nat) (y:Nd) (q:Nat):Prop:=
 if x % 3=2/\(Gj L ty x<|T L).isSome=jD then Q y.text=Gj L ty x (T L)/\y=⟨5,0,y.text,[],[]⟩/\q=p
 else if x % 3=1/\ty≠1 then y=⟨5,0,Lu ((ty-2)*2+x / 3 % 2).toNat,[],[]⟩/\q=p
 else if ty=1 then y=⟨3,x / 3 % 2,⟨#[]⟩,[],[]⟩/\q=p
 else if ty=3 then (if 250<x then y=⟨2,0,⟨#[]⟩,[],[]⟩/\q=p else y=⟨2,0,(Gb zs p).1,[],[]⟩/\q=(Gb zs p).2)
 else if ty=4 then y=⟨4,0,⟨#[]⟩,y.aB,[]⟩/\Nq zs p y.aB q
 else if 220<x then y=⟨1,Ag6 (SF zs p).1,⟨#[]⟩,[],[]⟩/\q=(SF zs p).2
 else y=⟨1,x / 3 % 6,⟨#[]⟩,[],[]⟩/\q=p
def Cy (zs:L2) (L:List<|K9×Int) (ty:Int) (p:Nat) (N:L6) (q:Nat) (N':L6):Prop:=∃y,Pq zs L ty (nx zs p).1 (nx zs p).2 y q/\N'=N++[y]
def opN (op:Int) (ks:L2):Nd:=⟨op,0,⟨#[]⟩,[],ks⟩
def Fl (N:L6):Int:=(T N:Int)-1
def Lv (ty x:Int):L0<|Int×Int×N7:=
 if ty=1 then
  if x / 8 % 8=0\/x / 8 % 8=1 then Q (25+x / 8 / 8 % 2,ty,Q ty)
  else if x / 8 % 8=2 then Q (26,ty,Q ty)
  else if x / 8 % 8=3 then Q (9,ty,U)
  else if x / 8 % 8=4 then Q (23,3,Q 4)
  else if x / 8 % 8=5 then Q (24,4,Q 4)
  else if x / 8 % 8=6 then Q (21+x / 8 / 8 % 2,2,Q 2)
  else Q (19+x % 2,1+x / 8 / 8,Q<|1+x / 8 / 8)
 else if ty=2 then
  if x / 8 % 8=6 then Q (10,4,U)
  else if x / 8 % 8=7 then Q (8,ty,U)
  else Q (11+x / 8 % 5,ty,Q ty)
 else if ty=4 then Q (16+x / 8 % 3,ty,Q ty)
 else U
abbrev Drw:=Int->Nat->L6->Nat->L6->Prop
def SU (Lf E:Drw) (ty x:Int) (p:Nat) (N:L6) (q:Nat) (N':L6):Prop:=
 if x % 8=7 then ∃q1 N1 q2 N2 N3,E 1 p N q1 N1/\E ty q1 N1 q2 N2/\E ty q2 N2 q N3/\N'=N3++[opN 27 [Fl N1,Fl N2,Fl N3]]
 else if x % 8<2 then Lf ty p N q N'
 else match Lv ty x with
  |none=>Lf ty p N q N'
  |some (op,t1,U)=>∃N1,E t1 p N q N1/\N'=N1++[opN op [Fl N1]]
  |some (op,t1,Q t2)=>∃q1 N1 N2,E t1 p N q1 N1/\E t2 q1 N1 q N2/\N'=N2++[opN op [Fl N1,Fl N2]]
def MI (zs:L2) (L:List<|K9×Int) (wild:Bool):Nat->Drw
 |0=>Cy zs L
 |d+1=>λty p N q N'=>if T zs<=p\/300<T N then Cy zs L ty p N q N'
   else SU (Cy zs L) (MI zs L wild d) (if wild=jD/\(nx zs p).1=201 then 1+ty % 4 else ty) (nx zs p).1 (nx zs p).2 N q N'
def DpX (zs:L2) (L:List<|K9×Int):Nat->Nat->L6->Nat->L6->Prop
 |0,p,N,q,N'=>False
 |1,p,N,q,N'=>Cy zs L 1 p N q N'
 |k+2,p,N,q,N'=>∃N1,DpX zs L (k+1) p N q N1/\N'=N1++[opN 9 [Fl N1]]
structure Gs where
 p:Nat
 P:M1
 I:M2
 st:L2
 sl:L2
def LA (zs:L2) (x:Int) (p:Nat) (v:Vl) (q:Nat):Prop:=
 if x % 4=0 then v=⟨1,x / 4 % 2,⟨#[]⟩,[]⟩/\q=p
 else if x % 4=1 then v=⟨2,(SF zs p).1,⟨#[]⟩,[]⟩/\q=(SF zs p).2
 else if x % 4=2 then v=⟨3,0,(Gb zs p).1,[]⟩/\q=(Gb zs p).2
 else v=⟨4,0,⟨#[]⟩,v.aB⟩/\Nq zs p v.aB q
def VaX (zs:L2) (s s':Gs):Prop:=∃v q,LA zs (nx zs s.p).1 (nx zs s.p).2 v q/\s'=⟨q,s.P++[v],s.I++[⟨1,T s.P⟩],s.st++[v.aC],s.sl⟩
def IM (s:Gs) (ty:Int):Gs:=⟨s.p,s.P++[⟨ty,0,⟨#[]⟩,[]⟩],s.I++[⟨1,T s.P⟩],s.st,s.sl⟩
def UA (want st:L2):Prop:=T want<=T st/\∀i,i<T want->(0<want.getD i 0->want.getD i 0=st.getD (T st-T want+i) 0)/\(want.getD i 0=0->st.getD (T st-T want+i) 0=st.getD (T st-T want) 0)
def Id (st:L2):Int:=st.getD (T st-1) 0
def Mk (s:Gs) (m:Nat):Gs:=⟨s.p,s.P,s.I,s.st.take<|T s.st-m,s.sl⟩
def ET (s:Gs) (op arg:Int):Gs:=⟨s.p,s.P,s.I++[⟨op,arg⟩],s.st,s.sl⟩
def Nr (s:Gs) (ty:Int):Gs:=⟨s.p,s.P,s.I,s.st++[ty],s.sl⟩
def PT (s:Gs) (u:Nat) (v:Int):Gs:=⟨s.p,s.P,s.I.modify u λi=>⟨i.op,v⟩,s.st,s.sl⟩
def YA (s:Gs) (j:Nat) (v:Int):Gs:=⟨s.p,s.P,s.I,s.st,s.sl.set j v⟩
abbrev Mv:=Gs->Gs->Prop
open Classical in
def GC (Br:Mv) (zs:L2) (k low Cz:Nat) (x:Int) (s s':Gs):Prop:=
 if 0<x % 3/\low+T (Ds<|8+x % 17).1<=T s.st/\UA (Ds<|8+x % 17).1 s.st then s'=Nr (Mk (ET s (5+x % 17) 0)<|T (Ds<|8+x % 17).1) (Ds<|8+x % 17).2
 else if x % 7=6/\low<T s.st/\0<k then
  (if s.sl.getD (x / 7 % k).toNat 0=0/\Cz=0\/s.sl.getD (x / 7 % k).toNat 0=Id s.st then s'=Mk (ET (YA s (x / 7 % k).toNat<|Id s.st) 4<|x / 7 % k) 1 else s'=s)
 else if x % 7=5/\0<k/\0<s.sl.getD (x / 7 % k).toNat 0 then s'=Nr (ET s 3<|x / 7 % k) (s.sl.getD (x / 7 % k).toNat 0)
 else if x % 7=4 then s'=Nr (ET s 2<|x / 7 % 6) (BI<|x / 7 % 6)
 else if x % 7=3/\Cz<3/\low<T s.st/\Id s.st=1 then Br s s'
 else VaX zs s s'
def YB (zs:L2) (s:Gs):Gs:=⟨(nx zs s.p).2,s.P,s.I,s.st,s.sl⟩
def Mh (Br:Mv) (zs:L2) (k low Cz:Nat):Nat->Mv
 |0,s,s'=>s'=s
 |n+1,s,s'=>if s.p<T zs/\T s.I<300 then ∃s1,GC Br zs k low Cz (nx zs s.p).1 (YB zs s) s1/\Mh Br zs k low Cz n s1 s' else s'=s
def brF (u kp:Nat) (s:Gs):Gs:=
 PT ((s.st.drop kp).foldl IM<|PT (ET s 22 0) u<|T s.I+1) (T s.I) (T ((s.st.drop kp).foldl IM<|PT (ET s 22 0) u<|T s.I+1).I)
def Ie (zs:L2) (k:Nat):Nat->Mv
 |0,_,_=>False
 |d+1,s,s'=>∃s1 s2,Mh (Ie zs k d) zs k (T s.st-1) (3-d) 2 (ET (Mk s 1) 23 0) s1/\VaX zs s1 s2/\s'=brF (T s.I) (T s.st-1) s2
def mI:Nat->Nat
 |0=>1
 |d+1=>4+2*mI d+2*2 ^ d
structure Grw (m st low:Nat) (s s':Gs):Prop where
 low:low<=T s'.st
 st:T s'.st<=T s.st+st
 aK:T s'.I<=T s.I+m
 inl:T s.I<=T s'.I
 aI:T s'.P<=T s.P+m
 sl:T s'.sl=T s.sl
theorem Abz:∀(l:L2) (s:Gs),T (l.foldl IM s).I=T s.I+T l/\T (l.foldl IM s).P=T s.P+T l/\(l.foldl IM s).st=s.st/\(l.foldl IM s).sl=s.sl:=by intro l;induction l<;>intros<;>grind [IM]
theorem VaX.bQ {s a:Gs}(h:VaX zs s a):T a.I=T s.I+1/\T a.P=T s.P+1/\T a.st=T s.st+1/\a.sl=s.sl:=by
 obtain⟨v,q,_,rfl⟩:=h;simp
theorem Ads:∀d,1<=mI d
 |0=>NLN
 |d+1=>by rw[mI];omega
theorem GC.bQ {b:Mv}{d:Nat}{low:Nat}(i:∀s a,low<T s.st->b s a->Grw (mI d) (2 ^ d) low s a){zs:L2}{k Cz:Nat}{x:Int}{s a:Gs}(h:GC b zs k low Cz x s a)(f:low<=T s.st):Grw (mI d) (2 ^ d) low s a:=by
 have j:=Ads d;have l: 1<=2 ^ d:=Nat.one_le_two_pow;unfold GC at h;split at h
 .rename_i c;subst h;refine⟨?_,?_,?_,?_,?_,rfl⟩<;>simp[Nr,Mk,ET]<;>omega
 .split at h
  .rename_i c;split at h
   .subst h;refine⟨?_,?_,?_,?_,?_,?_⟩<;>simp[YA,Mk,ET]<;>omega
   .subst h;exact⟨f,Oa,Oa,Oa,Oa,rfl⟩
  .split at h
   .subst h;refine⟨?_,?_,?_,?_,?_,rfl⟩<;>simp[Nr,ET]<;>omega
   .split at h
    .subst h;refine⟨?_,?_,?_,?_,?_,rfl⟩<;>simp[Nr,ET]<;>omega
    .split at h
     .grind
     .have g:=h.bQ;exact⟨Oa,Oa,Oa,Oa,Oa,by rw[g.2.2.2]⟩
theorem Mh.bQ {i:Mv}{d:Nat}{low:Nat}(j:∀s c,low<T s.st->i s c->Grw (mI d) (2 ^ d) low s c){zs:L2}{k Cz:Nat} :∀(n:Nat) {s c:Gs},Mh i zs k low Cz n s c->low<=T s.st->Grw (n*mI d) (n*2 ^ d) low s c
 |0,s,c,h,hl=>by obtain rfl:c=s:=h;exact⟨hl,Oa,Oa,Oa,Oa,rfl⟩
 |n+1,s,c,h,hl=>by
  unfold Mh at h;rw[Nat.add_mul,Nat.one_mul,Nat.add_mul,Nat.one_mul];split at h
  .obtain⟨s1,a,b⟩:=h;have g:=a.bQ j (by exact hl);have f:=Mh.bQ j n b g.low;exact⟨f.low,by have:=g.st;have:=f.st;simp only[YB]at*;omega,by have:=g.aK;have:=f.aK;simp only[YB]at*;omega,zB g.inl f.inl,by have:=g.aI;have:=f.aI;simp only[YB]at*;omega,f.sl.trans g.sl⟩
  .subst h;exact⟨hl,Nat.le_add_right _ _,Nat.le_add_right _ _,NLN,Nat.le_add_right _ _,rfl⟩
theorem Ie.bQ (zs:L2)(k:Nat):∀(d low:Nat) (s f:Gs),low<T s.st->Ie zs k d s f->Grw (mI d) (2 ^ d) low s f
 |0,_,_,_,_,h=>h.elim
 |d+1,low,s,f,hl,h=>by
  obtain⟨s1,s2,a,b,rfl⟩:=h;have g:=Mh.bQ (low:=T s.st-1) (λt j ht l=>Ie.bQ zs k d _ t j ht l) 2 a (by simp[ET,Mk]);have g1:=g.low;have g2:=g.st;have g3:=g.aK;have m:=g.inl;have n:=g.aI;have i:=g.sl;simp only[ET,Mk,zg,zC,z1]at g2 g3 m n i;have v:=b.bQ;have c:=Abz (s2.st.drop<|T s.st-1)<|PT (ET s2 22 0) (T s.I)<|T s2.I+1;simp only[PT,ET,List.length_modify,zC,z1,List.length_drop]at c;refine⟨?_,?_,?_,?_,?_,?_⟩<;>simp only[brF,PT,ET,List.length_modify,mI,c.1,c.2.1,c.2.2.1,c.2.2.2]<;>first|omega|(rw[v.2.2.2];exact i)
theorem Cv.bN {c w2:jB}{lo:Nat}{v k:jF}{a:L7}(h:Cv c lo v N a b)
  (hu:jO c lo 9 1 u (T x.aB)<|x.aB.map Value.string)(z:jO c lo 3 1 k (T x.aD)<|Ak x.aD)(A:∀j,(d:j<T a)->∀q,jL a[j]=Q q->jL u≠Q q)(B:∀j,(d:j<T b)->∀q,jL b[j]=Q q->jL k≠Q q)
  (p:jO w2 lo 170 5 v' (T N+1)<|Yv N a b++nd5 x u k)(hg:c.grownBy w2<|jL v):Cv w2 lo v' (N++[x]) (a++[u])<|b++[k]:=by
 have l:=h.len;have m:=h.bY;have r:∀{n:Nat} {y:jF} {f:L7},jO c lo 9 1 y n f->jO w2 lo 9 1 y n f:=λo=>Ad o λq hq=>hg.block q (o.lt q hq).2 λe=>Al o h.aN Ob q hq e.symm;have s:∀{n:Nat} {y:jF} {f:L7},jO c lo 3 1 y n f->jO w2 lo 3 1 y n f:=λo=>Ad o λq hq=>hg.block q (o.lt q hq).2 λe=>Al o h.aN Ob q hq e.symm;refine⟨by simp[l],by simp[m],by rw[zC,z1,Xh _ _ _ _ _ _ l m];exact p,λj d t=>?_,λj d t=>?_,λi j w d q hq=>?_,λi j w d q hq=>?_⟩
 .by_cases g:j<T a
  .have a1:(a++[u])[j]=a[j]:=zx g;have a2:(N++[x])[j]=N[j]' Oa:=zx Oa;rw[a1,a2];exact r<|h.aB j Oa g
  grind
 .by_cases g:j<T b
  .have a1:(b++[k])[j]=b[j]:=zx g;have a2:(N++[x])[j]=N[j]' Oa:=zx Oa;rw[a1,a2];exact s<|h.aD j Oa g
  grind
 all_goals grind [Cv.bA,Cv.apartk]
theorem BL {a b:jB}{o:Obj}{row:N8}(hg:(jK a o).grownBy b row):∀q,q<R (Z a)->row≠Q q->(Z b)[q]? =(Z a)[q]? :=λq c d=>(hg.block q O0 λe=>d e.symm).trans<|Below.heap_alloc a o q c
def ndG (x:Nd):Prop:=okN x/\x.text.size<=1000000/\x.num<=9223372036854775807/\T x.aB<=64/\(∀s∈x.aB,s.size<=1000)/\T x.aD<=3
def SV (L:List<|K9×Int):L7:=L.flatMap λx=> [jC x.1,V X x.2]
theorem Aca (L:List<|K9×Int)(x:K9×Int):SV (L++[x])=SV L++[jC x.1,V X x.2]:=by simp[SV]
theorem AaL:∀(L:List<|K9×Int) (j:Nat) (h:j<T L),(SV L)[j*2]? =Q (jC L[j].1)/\(SV L)[j*2+1]? =Q (V X L[j].2)
 |x ::L,0,_=>⟨rfl,rfl⟩
 |x ::L,j+1,h=>by
  have a:=AaL L j Q6;have e1:(j+1)*2=j*2+2:=Oa;rw[e1];exact a
structure SW (w:jB) (B R gb:Nat) (a:L3) (n c:Nat) (zs:L2) (p:Nat) (N:L6) (L:List (K9×Int)) (nd lt:jF) (nv kv:L7) (wild:Bool):Prop where
 row:Ag w gb #[jP<|Q<|jA R 0 U,nd,lt,.bool wild] 163
 rd:JU w R a n c zs p
 aQ:Cv w B nd N nv kv
 aU:jO w B 167 2 lt (T L)<|SV L
 low:(B<=gb/\B<=R)/\(0<n->∀q,a=Q q->Addr.block q<B)
 bL:(∀x∈N,ndG x)/\∀x∈L,x.1.size<=1000
structure Gk (B R gb:Nat) (lt nd:jF) (w:jB) (nd':jF) (w':jB):Prop where
 low:Below B w w'
 block:∀k,k<jh (Z w)->k≠gb->k≠R->jL nd≠Q k->jL lt≠Q k->(Z w')[k]? =(Z w)[k]?
 newN:∀q,jL nd'=Q q->jL nd=Q q\/jh (Z w)<=q
theorem Gk.trans {B R a:Nat}{lt nd b c:jF}{w d w2:jB}(h:Gk B R a lt nd w b d)(k:Gk B R a lt b d c w2):Gk B R a lt nd w c w2:=by
 refine⟨h.low.trans k.low,λq f g h3 i h5=>?_,λq hq=>?_⟩
 .refine(k.block q (zL f h.low.size) g h3 (λe=>?_) h5).trans (h.block q f g h3 i h5)
  grind [Gk.newN]
 .obtain e|e:=k.newN q hq
  .exact h.newN q e
  .have:=h.low.size;exact .inr Oa
theorem Gk.aH {R a:Nat}{lt nd:jF}(h:Ai w w')(b:B<=jh (Z w)):Gk B R a lt nd w nd w':=
 ⟨h.mono b,λk c _ _ _ _=>h.block k c,λq hq=> .inl hq⟩
theorem Gk.bO {R a:Nat}{lt nd:jF}(h:AU R (R+1) w w')(c:B<=R)(d:R<jh (Z w)):Gk B R a lt nd w nd w':=
 ⟨⟨h.os,h.tape,h.output,h.size,λk f=>h.block k Oa<|.inl Oa⟩,λk b _ h3 _ _=>h.block k b Oa,λq hq=> .inl hq⟩
theorem SW.below {R d:Nat}{n c:Nat}{p:Nat}{f g:L7}(h:SW w B R d a n c zs p N L nd v' f g wild)(b:Ai w w'):SW w' B R d a n c zs p N L nd v' f g wild:=
 ⟨h.row.aA b NLN,h.rd.aA b h.rd.lt,h.aQ.bM λk _ i=>b.block k i,Ad h.aU λq hq=>b.block q (h.aU.lt q hq).2,h.low,h.bL⟩
theorem Bm {b c:Nat}{f g:Array jF}{t u:TypeId}(h:Ag w b f t)(k:Ag w c g u)(i:t≠u):b≠c:=λe=>by
 have d:=h.out;have a:=k.out;rw[e]at d;rw[d]at a;injection a with a;injection a with _ a;exact i a
theorem SW.aR {R g:Nat}{n c:Nat}{p:Nat}{i k:L7}(h:SW w B R g a n c zs p N L nd v' i k wild)(t:AU R (R+1) w w')(r:JU w' R a n c zs q):SW w' B R g a n c zs q N L nd v' i k wild:=by
 have l:=h.rd;have d:∀q,q<jh (Z w)->q≠R->(Z w')[q]? =(Z w)[q]? :=λq s y=>t.block q s Oa;have f:∀{e size m:Nat} {v:jF} {u:L7},jO w B e size v m u->64≠e->∀q,jL v=Q q->q≠R:=λo x q hq e=>Ac l.row o x O9;exact⟨⟨(d g h.row.lt<|Bm h.row l.row Ob).trans h.row.out⟩,r,
  h.aQ.cF (λq hq=>d q (h.aQ.bW.1 q hq).2<|f h.aQ.aN Ob q hq) (λj b q hq=>d q (h.aQ.bW.2.1 j b q hq).2<|f (h.aQ.aB j (by rw[<-h.aQ.len];exact b) b) Ob q hq) (λj b q hq=>d q (h.aQ.bW.2.2 j b q hq).2<|f (h.aQ.aD j (by rw[<-h.aQ.bY];exact b) b) Ob q hq),
  Ad h.aU (λq hq=>d q (h.aU.lt q hq).2<|f h.aU Ob q hq),h.low,h.bL⟩
theorem SW.pushN {f g:jB}{R d:Nat}{n c:Nat}{p:Nat}{k:jF}{m r:L7}(C:SW f B R d a n c zs p N L nd v' m r wild)(o:Obj)(D:B<=jh (Z f))(hu:jO f B 9 1 u (T x.aB)<|x.aB.map Value.string)(v:jO f B 3 1 k (T x.aD)<|Ak x.aD)
  (E:∀j,(h:j<T m)->∀q,jL m[j]=Q q->jL u≠Q q)(F:∀j,(h:j<T r)->∀q,jL r[j]=Q q->jL k≠Q q)(hx:ndG x)
  (hg:(jK f o).grownBy g<|jL nd)(G:jO g B 170 5 (Y (Q<|jA g7 0 U) (T N+1) c7) (T N+1)<|Yv N m r++nd5 x u k)(hat:jL nd=Q g7\/g7=jh (Z f)+1):
  SW (jJ g (jA d 1 U)<|Y (Q<|jA g7 0 U) (T N+1) c7) B R d a n c zs p (N++[x]) L (Y (Q<|jA g7 0 U) (T N+1) c7) v' (m++[u]) (r++[k]) wild/\Gk B R d v' nd f (Y (Q<|jA g7 0 U) (T N+1) c7) (jJ g (jA d 1 U)<|Y (Q<|jA g7 0 U) (T N+1) c7):=by
 have t:=AE f o;have H:=C.below t;have I:=Ad (w':=jK f o) hu λq hq=>t.block q (hu.lt q hq).2;have J:=Ad (w':=jK f o) v λq hq=>t.block q (v.lt q hq).2;have n1:jL nd≠Q d:=Ac C.row C.aQ.aN Ob;have s:Ag g d #[jP<|Q<|jA R 0 U,nd,v',.bool wild] 163:=⟨(BL hg d C.row.lt n1).trans C.row.out⟩
 have l:=H.aQ.bN I J E F G hg;have w:jO g B 167 2 v' (T L)<|SV L:=Ad C.aU λq hq=>BL hg q (C.aU.lt q hq).2 λe=>Al C.aU C.aQ.aN Ob q hq e;have sc:∀q,q≠d->(Z<|jJ g (jA d 1 U)<|Y (Q<|jA g7 0 U) (T N+1) c7)[q]? =(Z g)[q]? :=λq hq=>K0 g (jA d 1 U) q _ hq;have i:=C.rd;have K:R≠d:=Bm i.row C.row Ob;have z:Below B f<|jJ g (jA d 1 U)<|Y (Q<|jA g7 0 U) (T N+1) c7:=((t.mono D).grown hg O0 λq hq=>(C.aQ.bW.1 q hq).1).setCell (p:=(jA d 1 U)) C.low.1.1 _;refine⟨⟨s.set 1 _,?_,l.cF (λq hq=>sc q λe=>Ac s l.aN Ob O9) (λj h q hq=>sc q λe=>Ac s (l.aB j (by rw[<-l.len];exact h) h) Ob O9) λj h q hq=>sc q λe=>Ac s (l.aD j (by rw[<-l.bY];exact h) h) Ob O9,Ad w λq hq=>sc q λe=>Ac s w Ob O9,C.low,⟨λy hy=>?_,C.bL.2⟩⟩,⟨?_,λq M O _ h3 _=>(sc q O).trans<|BL hg q M h3,λq hq=>?_⟩⟩
 .refine⟨⟨((sc R K).trans<|BL hg R i.row.lt<|Ac i.row C.aQ.aN Ob).trans i.row.out⟩,i.len,i.le,i.aJ,λj h=>?_⟩;obtain⟨b,A,e1,e2,e3,e4⟩:=i.cells j h;exact⟨b,A,e1,e2,(z.cell (p:=⟨b,A+j,U⟩)<|show b<B from C.low.2 Oa _ e1).trans e3,e4⟩
 .grind [SW.bL]
 .exact z
 .have e:g7=q:=O8
  grind
theorem Aeu (n k:Nat)(h:k<n):n-(intOf<|V X<|(k:Int)+1).toNat<n-(intOf<|V X (k:Int)).toNat:=by
 simp[intOf];omega
structure Alq (p:Prop):Prop where
 out:p
theorem Alh {P Q:Prop}(h:Alq P->Q)(p:P):Q:=h ⟨p⟩
def Ek:Ex->Nat->L6
 |.un i op k,b=>Ek k b++[⟨op,0,⟨#[]⟩,[],[((b+k.aL-1 :Nat):Int)]⟩]
 |.bin i op l r,b=>Ek l b++Ek r (b+l.aL)++[⟨op,0,⟨#[]⟩,[],[((b+l.aL-1 :Nat):Int),((b+l.aL+r.aL-1 :Nat):Int)]⟩]
 |.ite i c t e,b=>Ek c b++Ek t (b+c.aL)++Ek e (b+c.aL+t.aL)++[⟨27,0,⟨#[]⟩,[],[((b+c.aL-1 :Nat):Int),((b+c.aL+t.aL-1 :Nat):Int),((b+c.aL+t.aL+e.aL-1 :Nat):Int)]⟩]
 |e,_=> [Ef e]
theorem Zf:(jZ.info? 170).map (λi=>(i.zero,i.size,i.bytes))=Q (Q<|jM #[V X 0,V X 0,jC ByteArray.empty,Y U 0 0,Y U 0 0],5,80):=Oy
theorem Aiq (w:jB):Ai w<|jR w:=⟨rfl,rfl,rfl,NLN,λ_ _=>rfl⟩
set_option maxRecDepth 100000
set_option maxHeartbeats 6400000
theorem QT {R i:Nat}{n c:Nat}{p:Nat}{s t:L7}(D:SW w B R i a n c zs p N L nd v' s t wild)(aG:T N+1<=1000000)
  (x:Nd)(hx:ndG x)(b:L3)(d:Nat)(f:L3)(g:Nat)(hu:jO w B 9 1 (Y b (T x.aB) d) (T x.aB)<|x.aB.map Value.string)(E:jO w B 3 1 (Y f (T x.aD) g) (T x.aD)<|Ak x.aD)
  (P:∀j,(ao:j<T s)->∀q,jL s[j]=Q q->jL (Value.slice b (T x.aB) d)≠Q q)(S:∀j,(ao:j<T t)->∀q,jL t[j]=Q q->jL (Value.slice f (T x.aD) g)≠Q q):
  Calls jZ 138 #[jP<|Q<|jA i 0 U,jM #[V X x.op,V X x.num,jC x.text,Y b (T x.aB) d,Y f (T x.aD) g]] w λr w'=>r= .returned (V X (T N:Int))/\∃W,SW w' B R i a n c zs p (N++[x]) L W v' (s++[Y b (T x.aB) d]) (t++[Y f (T x.aD) g]) wild/\Gk B R i v' nd w W w':=by
 have ap:=D.row.lt;have aa:B<=jh (Z w):=H2 D.low.1.1;obtain⟨aq,ar,au,av,aw⟩:=info_parts Zf;have ab:=Ab<|K6 P S;have ax:=Ab hx;have v:=AE w<|EQ x.op x.num x.text b (T x.aB) d f (T x.aD) g;have A:=Ag.new w #[V X x.op,V X x.num,jC x.text,Y b (T x.aB) d,Y f (T x.aD) g] 170;have l:=D.below v;have F:Gk B R i v' nd w nd<|jK w<|EQ x.op x.num x.text b (T x.aB) d f (T x.aD) g:=Gk.aH v aa;have G:=Ad (w':=jK w<|EQ x.op x.num x.text b (T x.aB) d f (T x.aD) g) hu λq hq=>v.block q (hu.lt q hq).2;have H:=Ad (w':=jK w<|EQ x.op x.num x.text b (T x.aB) d f (T x.aD) g) E λq hq=>v.block q (E.lt q hq).2;have ac:jh (Z w)<jh (Z<|jK w<|EQ x.op x.num x.text b (T x.aB) d f (T x.aD) g):=Ox;clear P S hu E v hx;go_enter func138,ntmps138
 go_wp2_with fail
 generalize jK w (EQ x.op x.num x.text b (T x.aB) d f (T x.aD) g)=h at l F G H A ac|-;generalize jh (Z w)=y at A ac ap aa|-;obtain⟨z,cn,m,-⟩:=Ae l.aQ.aN;have I:=Ab m;have m:=Aa I;obtain⟨e0,e1,e2,e3,e4⟩:=Cm A;have J:jI h (jA i 1 U)=Q (nd):=l.row.cell 1;rw[m]at J;have ad:=l.row.frozen 1;have ae:=G4<|G8 h<|EQ x.op x.num x.text b (T x.aB) d f (T x.aD) g;have ay:jI (jR h) (jA i 1 U)=Q (Y z (T<|N) cn)/\World.frozen? (jR h) (jA i 1 U)=false:=⟨J,ad⟩
 have d1:jI (jR h) (jA y 0 U)=Q (V X x.op):=e0;have d2:jI (jR h) (jA y 1 U)=Q (V X x.num):=e1;have d3:jI (jR h) (jA y 2 U)=Q (jC x.text):=e2;have d4:jI (jR h) (jA y 3 U)=Q (Y b (T x.aB) d):=e3;have d5:jI (jR h) (jA y 4 U)=Q (Y f (T x.aD) g):=e4;have af:jO (jR<|jK h<|EQ x.op x.num x.text b (T x.aB) d f (T x.aD) g) B 170 5 (Y z (T<|N) cn) (T<|N)<|Yv (N) (s)<|t:=by
  have:=l.aQ.aN;rw[m]at this;exact(G1 this _).drew
 have C:Ag (jR<|jK h<|EQ x.op x.num x.text b (T x.aB) d f (T x.aD) g) i #[jP<|Q<|jA R 0 U,nd,v',.bool wild] 163:=⟨(l.row.alloc<|EQ x.op x.num x.text b (T x.aB) d f (T x.aD) g).out⟩
 have az:jI (jR<|jK h<|EQ x.op x.num x.text b (T x.aB) d f (T x.aD) g) (jA i 1 U)=Q (Y z (T<|N) cn):=by
  have:=C.cell 1;rw[m]at this;exact this
 have ag:jL (Value.slice z (T<|N) cn)≠Q i:=by rw[<-m];exact Ac l.row l.aQ.aN Ob
 have aA:B<=jh (Z h):=by have:=l.row.lt;have:=l.low.1.1;omega
 clear e0 e1 e2 e3 e4 J ad m;go_region_law (refine step_append_lies _ rfl _ _ 67 rfl B 170 aq (jM #[V X 0,V X 0,jC ByteArray.empty,Y U 0 0,Y U 0 0]) 5 80 underlying67 ar au av aw rfl Ob (Y z (T<|N) cn) (T<|N) (Yv (N) (s)<|t) rfl af ⟨jh<|Z h,0,U⟩ 1 1 [V X x.op,V X x.num,jC x.text,Y b (T x.aB) d,Y f (T x.aD) g] rfl rfl ae (by intro u hu;simp at hu;obtain rfl|rfl|rfl|rfl|rfl:=hu<;>rfl) Ob O2 Oa O0 _ rfl ?_;intro g7 c7 K ah o hat aC;have M:Ag K i #[jP (Q (jA R 0 U)),nd,v',.bool wild] 163:=⟨(o.block i C.lt λe=>ag e.symm).trans C.out⟩;have ai:=M.cell 1;have aE:=M.frozen 1)
 all_goals
  have aj:(jK h<|EQ x.op x.num x.text b (T x.aB) d f (T x.aD) g).grownBy K<|jL<|nd:=by rw[Aa I];exact⟨o.os,o.tape,o.output,o.size,o.block⟩
  obtain⟨O,ak⟩:=l.pushN (g7:=g7) (c7:=c7) (x:=x) (u:= Y b (T x.aB) d) (k:= Y f (T x.aD) g) _ aA G H (Aa ab).1 (Aa ab).2 (Aa ax) aj ah (by rw[Aa I];exact hat.imp id λe=>by rw[e];show jh (Z<|jK h _)=_;simp);have al:=F.trans ak;clear ah o hat aC M C az ay d1 d2 d3 d4 d5 ae af aj ak;clear ai aE;generalize jJ K (jA i 1 U) (Y (Q (jA g7 0 U)) (T (N)+1) c7)=aF at O al|-;clear ag A l F G H;have ai:jI aF (jA i 1 U)=Q (Y (Q<|jA g7 0 U) (T (N)+1) c7):=O.row.cell 1;go_wp2
  go_ret
  exact⟨Ox,_,O,al⟩
def Kj (B R gb:Nat) (a:L3) (n c:Nat) (zs:L2) (wild:Bool) (p:Nat) (N:L6) (L:List<|K9×Int) (nd lt:jF) (w:jB):Prop:=
 ∃nv kv,SW w B R gb a n c zs p N L nd lt nv kv wild
def GnA (B R gb:Nat) (a:L3) (n c:Nat) (zs:L2) (wild:Bool) (N:L6) (top:Nat) (X:Nat->L6->Prop) (L:List<|K9×Int) (nd lt:jF) (w:jB) (r:Ending) (w':jB):Prop:=
 ∃q N' nd',r= .returned (V jd<|Fl N')/\Hid (X q N')/\T N<=T N'/\T N'<=T N+top/\Kj B R gb a n c zs wild q N' L nd' lt w'/\Gk B R gb lt nd w nd' w'
theorem GnA.to {R b:Nat}{n c:Nat}{d:Nat}{X Y:Nat->L6->Prop}{f:jB}{r:Ending}{w':jB}(h:GnA B R b a n c zs wild N top X L nd v' f r w')(K:Gk B R b v' nd w nd f)(g:∀q M,X q M->Y q M)(ht:top<=d):GnA B R b a n c zs wild N d Y L nd v' w r w':=by
 obtain⟨q,M,i,j,k,h3,m,h5,l⟩:=h;exact⟨q,M,i,j,Ab<|g q M<|Aa k,h3,Oa,h5,K.trans l⟩
theorem Kj.below {B R b:Nat}{a:L3}{n c:Nat}{zs:L2}{wild:Bool}{p:Nat}{N:L6}{L:List (K9×Int)}{nd lt:jF}{w:jB}{w':jB}(h:Kj B R b a n c zs wild p N L nd lt w)(d:Ai w w'):Kj B R b a n c zs wild p N L nd lt w':=by
 obtain⟨f,g,C⟩:=h;exact⟨f,g,C.below d⟩
theorem Kj.aR {B R b:Nat}{a:L3}{n c:Nat}{zs:L2}{wild:Bool}{p:Nat}{N:L6}{L:List (K9×Int)}{nd lt:jF}{w:jB}{w':jB}{q:Nat}(h:Kj B R b a n c zs wild p N L nd lt w)(t:AU R (R+1) w w')(d:JU w' R a n c zs q):Kj B R b a n c zs wild q N L nd lt w':=by
 obtain⟨f,g,C⟩:=h;exact⟨f,g,C.aR t d⟩
theorem Kj.lt {B R b:Nat}{a:L3}{n c:Nat}{zs:L2}{wild:Bool}{p:Nat}{N:L6}{L:List (K9×Int)}{nd lt:jF}{w:jB}(h:Kj B R b a n c zs wild p N L nd lt w):(B<=jh (Z w)/\b<jh (Z w)/\R<jh (Z w))/\(B<=b/\B<=R)/\JU w R a n c zs p:=by
 obtain⟨d,f,C⟩:=h;have g:=C.row.lt;have i:=C.rd.lt;have h3:=C.low.1
 grind [SW.rd]
theorem Kj.cells {R b:Nat}{n c:Nat}{p:Nat}(h:Kj B R b a n c zs wild p N L nd v' w):∃d cn f cl,nd=Y d (T N) cn/\v'=Y f (T L) cl/\jI w (jA b 0 U)=Q (jP<|Q<|jA R 0 U)/\jI w (jA b 1 U)=Q nd/\jI w (jA b 2 U)=Q v'/\jI w (jA b 3 U)=Q (.bool wild):=by
 obtain⟨j,k,C⟩:=h;obtain⟨d,cn,g,-⟩:=Ae C.aQ.aN;obtain⟨f,cl,i,-⟩:=Ae C.aU;exact⟨d,cn,f,cl,g,i,C.row.cell 0,C.row.cell 1,C.row.cell 2,C.row.cell 3⟩
theorem QU (N:L6)(x:Nd):Fl (N++[x])=(T N:Int):=by simp[Fl]
def Snc (p:Nat) (N:L6) (x:Nd) (q:Nat) (M:L6):Prop:=q=p/\M=N++[x]
theorem Ee {R d:Nat}{n c:Nat}{p:Nat}(h:Kj B R d a n c zs wild p N L nd v' w)(hm:T N+1<=1000000)(op num:Int)(b:K9)(f:num<=9223372036854775807)(g:b.size<=1000000):
  Calls jZ 138 #[jP<|Q<|jA d 0 U,jM #[V X op,V X num,jC b,Y U 0 0,Y U 0 0]] w (GnA B R d a n c zs wild N 1 (Snc p N ⟨op,num,b,[],[]⟩) L nd v' w):=by
 obtain⟨o,t,C⟩:=h;refine(QT C Oa ⟨op,num,b,[],[]⟩ ⟨⟨Ox,Ox,λs hs=>by cases hs⟩,g,f,Ox,λs hs=>(by cases hs),Ox⟩ U 0 U 0 H3 H3 (λj i q hq e=>O5) λj i q hq e=>O5).mono ?_;rintro r w' ⟨rfl,k,l,m⟩;exact⟨p,_,k,by rw[QU],Ab ⟨rfl,rfl⟩,Ox,Ox,⟨_,_,l⟩,m⟩
theorem Aev {R f:Nat}{n c:Nat}{p:Nat}{w0 w:jB}(h0:Kj B R f a n c zs wild p N L nd v' w0)(T:AU R (R+1) w0 w)(h:JU w R a n c zs q)(hm:ja N+1<=1000000)(K:L4)(x:L3)(cx:Nat)(b:A6 w (jh<|Z w0) x K cx)(i:ja K<=64):
  Calls jZ 138 #[jP<|Q<|jA f 0 U,jM #[V X 4,V X 0,jC ⟨#[]⟩,Y x (ja K) cx,Y U 0 0]] w (GnA B R f a n c zs wild N 1 (Snc q N ⟨4,0,⟨#[]⟩,K,[]⟩) L nd v' w):=by
 obtain⟨t,u,d⟩:=h0;have C:=d.aR T h;have k:B<=jh (Z w0):=by have:=d.row.lt;have:=d.low.1.1;omega
 refine(QT C Oa ⟨4,0,⟨#[]⟩,K,[]⟩ ⟨⟨(Oa:ja K<=1048576),Ox,λs hs=>by have:=b.aJ s hs;unfold maxLen;omega⟩,by show(⟨#[]⟩:K9).size<=1000000;decide,by show(0 :Int)<=9223372036854775807;decide,i,b.aJ,Ox⟩ x cx U 0 (Az b.aN k) H3 (λj g q hq e=>?_) λj g q hq e=>O5).mono ?_
 .have v:=(d.aQ.bW.2.1 j g q hq).2;have y:=(b.aN.lt q e).1;omega
 .rintro r w' ⟨rfl,l,m,o⟩;exact⟨q,_,l,by rw[QU],Ab ⟨rfl,rfl⟩,Ox,Ox,⟨_,_,m⟩,o⟩
theorem Acb (w:jB)(b:L2)(a:Array jF)(n:Nat)(hv:a.toList=Ak b)(h:a.size=n)(hm:n<=maxLen):jO (jK w<|.cells a 3) (R<|Z w) 3 1 (Y (Q ⟨R<|Z w,0,U⟩) n n) n<|Ak b:=by
 refine⟨by rw[<-hv];simp[h],.inr ⟨R<|Z w,n,a,rfl,NLN,G8 w _,NLN,hm,Oa,?_⟩⟩
 grind [zf]
theorem Acc {R k:Nat}{n c:Nat}{p:Nat}(h:Kj B R k a n c zs wild p N L nd v' w)(hm:T N+1<=1000000)(b:L2)(d:Array jF)(j:Nat)(hv:d.toList=Ak b)(f:d.size=j)(h3:j<=3)(op:Int)(g:jB)(l:Below (jh<|Z<|jK w<|.cells d 3) (jK w<|.cells d 3) g):
  Calls jZ 138 #[jP<|Q<|jA k 0 U,jM #[V X op,V X 0,jC ⟨#[]⟩,Y U 0 0,Y (Q ⟨jh<|Z w,0,U⟩) j j]] g (GnA B R k a n c zs wild N 1 (Snc p N<|opN op b) L nd v' g):=by
 obtain⟨z,A,i⟩:=h;have m:=AE w<|.cells d 3;have C:=(i.below m).below l;have o:B<=jh (Z w):=by have:=i.row.lt;have:=i.low.1.1;omega
 have t:T b=j:=by
  have:=congrArg T hv
  grind [Ak]
 subst t;have ok:=Acb w b d (T b) hv f O2;have u:=Ad (w':=g) ok λq hq=>l.block q (ok.lt q hq).2;refine(QT C Oa ⟨op,0,⟨#[]⟩,[],b⟩ ⟨⟨Ox,(Oa:T b<=1048576),λs hs=>by cases hs⟩,by show(⟨#[]⟩:K9).size<=1000000;decide,by show(0 :Int)<=9223372036854775807;decide,Ox,λs hs=>(by cases hs),(Oa:T b<=3)⟩ U 0 (Q ⟨jh<|Z w,0,U⟩) (T b) H3 (Az u o) (λj f q hq e=>O5) λj f q hq e=>?_).mono ?_
 .have D:jh (Z w)=q:=by simpa[jL]using e
  have:=(i.aQ.bW.2.2 j f q hq).2;omega
 .rintro r w' ⟨rfl,v,x,y⟩;exact⟨p,_,v,by rw[QU],Ab ⟨rfl,rfl⟩,Ox,Ox,⟨_,_,x⟩,y⟩
def UF (v:Int) (at_ n:Nat) (i:Be):Be:=
 if v % 12=0\/v % 12=1 then ⟨wrap64<|1+(wrap64<|i.op+v / 12).tmod 26,i.aY⟩
 else if v % 12=2 then ⟨i.op,wrap64<|i.aY+1⟩
 else if v % 12=3 then ⟨i.op,at_⟩
 else if v % 12=4 then ⟨i.op,n⟩
 else if v % 12=9 then ⟨4,0⟩
 else if v % 12=10 then ⟨2,v / 12 % 7⟩
 else if v % 12=11 then ⟨22,at_+1+v / 12 % 3⟩
 else i
def JZ (zs:L2) (p:Nat) (P:M1) (s:Int) (I:M2):M1×Int×M2:=
 let v:=(nx zs p).1
 let at_:=((nx zs (nx zs p).2).1*3).toNat % I.length
 if T I=0 then (P,s,I)
 else if v % 12=7 then (P,s,I.take<|T I-1)
 else ((if v % 12=8/\0<T P then P.modify (at_ % P.length) λx=>⟨wrap64<|1+x.aC.tmod 5,x.num,x.text,x.aB⟩else P),
  (if v % 12=5 then v / 12-1 else s),
  (I.modify at_<|UF v at_<|T I)++(if v % 12=6 then [⟨24,0⟩]else []))
theorem MP {lo:Nat}{a:L7}(d:∀j,(c:j<T a)->∀q,jL a[j]=Q q->lo<=q)(f:∀j,(c:j<T b)->∀q,jL b[j]=Q q->lo<=q):∀j,(c:j<T (a++b))->∀q,jL (a++b)[j]=Q q->lo<=q:=λj c q hq=>by
 by_cases h:j<T a
 .rw[zx h]at hq;exact d j h q hq
 .rw[z5 Oa]at hq;exact f _ (by simp at c;omega) q hq
theorem Xj {lo:Nat}{v:jF}(h:∀q,jL v=Q q->lo<=q):∀j,(a:j<[v].length)->∀q,[v][j].ownBlock=Q q->lo<=q:=S4
theorem TW {lo hi:Nat}{a:L7}(c:∀j,(b:j<T a)->∀q,jL a[j]=Q q->hi<=q)(h:lo<=hi):∀j,(b:j<T a)->∀q,jL a[j]=Q q->lo<=q:=S4
theorem AS:∀(e:Ex) (b:Nat),T (Ek e b)=e.aL:=by intro e;induction e<;>intros<;>grind [Ek,Ex.aL]
structure Sx where
 at':Int
 aC:Int
 name:K9
 cond:M3
 aG:M3
abbrev M0:=List Sx
def BK:M3->Nat
 |none=>0
 |some e=>e.aL
def Pn:M3->Nat->L6
 |none,_=> []
 |some e,b=>Ek e b
def JW:M3->Nat->Int
 |none,_=>-1
 |some e,b=>((b+e.aL-1 :Nat):Int)
theorem Jz (o:M3)(b:Nat):T (Pn o b)=BK o:=by
 cases o
 .rfl
 .exact AS _ _
def Ea:Nat->M0->L6
 |_,[]=> []
 |b,x ::S=>Pn x.cond b++Pn x.aG (b+BK x.cond)++Ea (b+BK x.cond+BK x.aG) S
def DA:Nat->M0->L9
 |_,[]=> []
 |b,x ::S=>⟨x.aC,x.name,JW x.cond b,JW x.aG<|b+BK x.cond⟩ ::DA (b+BK x.cond+BK x.aG) S
def Di (S:M0):Nat:=(S.map λx=>BK x.cond+BK x.aG).sum
theorem Ci (x:Sx)(S:M0):Di (x ::S)=BK x.cond+BK x.aG+Di S:=by simp[Di]
theorem Jd:∀(S:M0) (b:Nat),T (Ea b S)=Di S
 |[],_=>rfl
 |x ::S,b=>by rw[Ea,zC,zC,Jz,Jz,Jd S,Ci]
theorem Kn:∀(S:M0) (b:Nat),T (DA b S)=T S
 |[],_=>rfl
 |x ::S,b=>by rw[DA,List.length_cons,Kn S,List.length_cons]
theorem Xi (A B:M0):Di (A++B)=Di A+Di B:=by simp[Di]
theorem TU (x:Sx):∀(S:M0) (b:Nat),Ea b (S++[x])=Ea b S++Pn x.cond (b+Di S)++Pn x.aG (b+Di S+BK x.cond)
 |[],b=>by simp[Ea,Di]
 |y ::S,b=>by
  rw[List.cons_append,Ea,Ea,TU x S,Ci]
  grind
theorem TV (x:Sx):∀(S:M0) (b:Nat),DA b (S++[x])=DA b S++[⟨x.aC,x.name,JW x.cond<|b+Di S,JW x.aG<|b+Di S+BK x.cond⟩]
 |[],b=>by simp[DA,Di]
 |y ::S,b=>by
  rw[List.cons_append,DA,DA,TV x S,Ci]
  grind
theorem Ach (L:L9)(s:St):EC (L++[s])=EC L++[V X s.aC,jC s.name,V X s.cond,V X s.aG]:=by simp[EC]
theorem Ki (h:Ej s=jD):s.size<=32:=by
 unfold Ej at h;have e:T (Pe s)=s.size:=by simp[Pe]
 grind
theorem Vg (h:Co s=jD):s.size<=32:=by grind [Co]
theorem FN (h:Ay ss=jD):T ss<=64/\∀x∈ss,x.size<=32:=by
 unfold Ay at h;simp only[zF,zG]at h;refine⟨h.1,λx hx=>?_⟩;have:=zq.1 h.2.1 x hx
 grind [vnB]
theorem Ez {i:Nat}{Es:L8}(b:T Es=i)(a:∀j,(h:j<T Es)->AZ N j Es[j]){k:Int}(c: 0<=k/\k<i):∃ (m:Nat) (e:Ex),k=m/\m<i/\Es[m]? =Q e/\AZ N m e:=by refine⟨k.toNat,Es[k.toNat]' Oa,Oa,Oa,zM _,a _ _⟩
theorem AiQ {i:Nat}{an:L3}{nn cn:Nat}(hx:N[i]? =Q x)(a:Bq x=jD)(c:∀k∈x.aD,0<=k/\k<i)(H:x.num<=9223372036854775807){Es:L8}(d:T Es=i)
  (q:∀j,(h:j<T Es)->AZ N j Es[j])(I:∀e∈Es,e.fit w)(G:Aq w an nn cn x.aB):∃e,MkT Es i x an nn cn e/\AZ N i e/\e.fit w:=by
 unfold Bq at a;rw[zF,zG]at a;obtain⟨K,a⟩:=a;have z:∀n:Nat,BY x.op=n->T x.aD=n:=λn e=>Oa;have t:(1<=x.op/\x.op<=7)->x.aD=[]:=λh=>zd (z 0<|by rw[BY,H8 h];rfl);have r:∀{m:Nat} {e:Ex},Es[m]? =Q e->e.fit w:=λh=>I _<|zn h;by_cases A:x.op=1
 .rw[H8 A]at a;simp only[zF,zG]at a;exact⟨_,.int A,.int hx A<|t Oa,a.1.1,H⟩
 rw[H7 A]at a;by_cases B:x.op=2
 .rw[H8 B]at a;simp only[zF,zG]at a;exact⟨_,.text B,.text hx B<|t Oa,Vg a.1.1⟩
 rw[H7 B]at a;by_cases h3:x.op=3
 .exact⟨_,.bool h3,.bool hx h3<|t Oa,trivial⟩
 rw[H7 h3]at a;by_cases C:x.op=4
 .rw[H8 C]at a;simp only[zF,zG]at a;obtain⟨s1,s2⟩:=FN a.1.1;exact⟨_,.set C,.set hx C (t Oa) an nn cn,G,H2 G.len,s2⟩
 rw[H7 C]at a;by_cases h5:x.op=5
 .rw[H8 h5]at a;simp only[zF,zG]at a;exact⟨_,.name h5,.name hx h5<|t Oa,Ki a.1.1⟩
 rw[H7 h5]at a;by_cases L:x.op=6\/x.op=7
 .grind
 by_cases s: 8<=x.op/\x.op<=10
 .have u:=z 1 (by rw[BY,H7 Oa,H8 s];rfl)
  match b:x.aD,u with
  |[k],_=>
    obtain⟨m,e,rfl,hm,g1,g2⟩:=Ez d q (c k<|by rw[b];simp);exact⟨_,.un s b g1,.un hx s b hm g2,s,r g1⟩
 by_cases v: 11<=x.op/\x.op<=26
 .have u:=z 2 (by rw[BY,H7 Oa,H7 s,H8 v];rfl)
  match b:x.aD,u with
  |[k,l],_=>
    obtain⟨m,e,rfl,hm,g1,g2⟩:=Ez d q (c k<|by rw[b];simp);obtain⟨n,f,rfl,D,y,E⟩:=Ez d q (c l<|by rw[b];simp);exact⟨_,.bin v b g1 y,.bin hx v b ⟨hm,D⟩ g2 E,v,r g1,r y⟩
 by_cases F:x.op=27
 .have u:=z 3 (by rw[BY,H7 Oa,H7 s,H7 v,H8 F];rfl)
  match b:x.aD,u with
  |[k,l,o],_=>
    obtain⟨m,e,rfl,hm,g1,g2⟩:=Ez d q (c k<|by rw[b];simp);obtain⟨n,f,rfl,D,y,E⟩:=Ez d q (c l<|by rw[b];simp);obtain⟨p,g,rfl,J,q1,q2⟩:=Ez d q (c o<|by rw[b];simp);exact⟨_,.ite F b g1 y q1,.ite hx F b ⟨hm,D,J⟩ g2 E q2,r g1,r y,r q1⟩
 grind [BY]
theorem Sc (h:Ay ss=jD):T ss<=64/\JT ss=jD/\BM ss=jD:=by grind [Ay]
theorem Abn (a:T ss<=64)(b:JT ss=jD)(h3:BM ss=jD):Ay ss=jD:=by simp[Ay,a,b,h3]
theorem AfB {q:Bool}{x:K9} :x∈DU ss tt q↔x∈ss/\Lg tt x=q:=by grind [DU]
theorem Acz (tt:L4)(q:Bool)(h:BM ss=jD):BM (DU ss tt q)=jD:=by
 rw[BM,zG]at h|-;exact h.filter _
theorem Pg {K:L4}(h:JT ss=jD)(a:∀x∈K,x∈ss):JT K=jD:=by grind [JT]
theorem Ui (tt:L4)(q:Bool)(h:Ay ss=jD):Ay (DU ss tt q)=jD:=by grind [Acz,Jb,AfB,Abn,Sc,Pg]
theorem AfC (h:JT ss=jD)(a:JT tt=jD):JT (ss++tt)=jD:=by grind [JT]
theorem Xr {M:L4}(a:Ay ss=jD)(b:Ay tt=jD)(c:Ba (ss++tt) M)(d:T M<=64):Ay M=jD:=by grind [Ba.cU,Ba.mem,AfC,Abn,Sc,Pg]
theorem Ack (a:Ay ss=jD)(b:Ay tt=jD):Ay (Cl ss tt)=jD:=by grind [DU,Cl,Ui]
theorem Xs (a:Ay ss=jD)(b:Ay tt=jD):Ay (Bj ss tt)=jD:=by grind [DU,Ui,Bj]
def mx (a b:Int):Int:=if a<b then b else a
def ER:Ex->Int
 |.un _ _ k=>mx 0 (ER k)+1
 |.bin _ _ l r=>mx (mx 0<|ER l) (ER r)+1
 |.ite _ c t e=>mx (mx (mx 0<|ER c)<|ER t) (ER e)+1
 |_=>1
def dpO:M3->Int
 |none=>0
 |some e=>ER e
theorem OM (a b:Int):a<=mx a b/\b<=mx a b/\(mx a b=a\/mx a b=b):=by grind [mx]
theorem Gi:∀(e:Ex),1<=ER e/\ER e<=(e.aL:Int):=by intro e;induction e<;>intros<;>grind [ER,mx,OM,Ex.aL]
theorem Ex.cN:∀(e:Ex),1<=e.aL:=by intro e;cases e<;>intros<;>grind [Ex.aL]
def GQ (N:L6) (b:Nat) (M:L6):Prop:=∀j x,M[j]? =Q x->N[b+j]? =Q x
theorem GQ.left {B:L6}{b:Nat}(h:GQ N b<|A++B):GQ N b A:=λj x hx=>h j x (by
 have:=(zP.1 hx).1;rw[yA this];exact hx)
theorem GQ.right {B:L6}{b k:Nat}(h:GQ N b<|A++B)(a:T A=k):GQ N (b+k) B:=λj x hx=>by
 have:=h (k+j) x (by rw[List.getElem?_append_right Oa,<-a];rw[(Oa:T A+j-T A=j)];exact hx);rw[(Oa:b+k+j=b+(k+j))];exact this
theorem GQ.bH {b:Nat}(h:GQ N b [x]):(N.map Nd.aD)[b]? =Q x.aD:=by
 have:=h 0 x rfl
 grind
theorem mxN {a b:Int}(c: 0<=a)(d: 0<=b):(mx a b).toNat=max a.toNat b.toNat:=by grind [mx]
theorem Fu:∀(e:Ex) (N:L6) (b:Nat),GQ N b (Ek e b)->Av (N.map Nd.aD) b [(b+e.aL-1,(ER e).toNat)] (b+e.aL)
 |.un i op k,N,b,h=>by
  rw[Ek]at h;have d:=Fu k N b h.left;have f:=(h.right<|AS k b).bH;have c1:=k.cN;have d1:=(Gi k).1;have:=Av.cons d (show(N.map Nd.aD)[b+k.aL]? =Q (Au [(b+k.aL-1,(ER k).toNat)])from f)<|.nil _
  grind [ER,mxN,OM,Ex.aL,Cz]
 |.bin i op l r,N,b,h=>by
  rw[Ek]at h;have d:=Fu l N b h.left.left;have f:=Fu r N (b+l.aL)<|h.left.right<|AS l b;have h3:=(h.right (k:=l.aL+r.aL)<|by rw[zC,AS,AS]).bH;have c1:=l.cN;have c2:=r.cN;have d1:=(Gi l).1;have d2:=(Gi r).1;rw[<-Nat.add_assoc]at h3;have:=Av.cons (d.dG f) (show(N.map Nd.aD)[b+l.aL+r.aL]? =Q (Au [(b+l.aL-1,(ER l).toNat),(b+l.aL+r.aL-1,(ER r).toNat)])from h3)<|.nil _
  grind [ER,mx,OM,Ex.aL,Cz]
 |.ite i c t e,N,b,h=>by
  rw[Ek]at h;have d:=Fu c N b h.left.left.left;have f:=Fu t N (b+c.aL)<|h.left.left.right<|AS c b;have h3:=Fu e N (b+c.aL+t.aL) (by have:=h.left.right (k:=c.aL+t.aL) (by rw[zC,AS,AS]);rw[<-Nat.add_assoc]at this;exact this);have g:=(h.right (k:=c.aL+t.aL+e.aL)<|by rw[zC,zC,AS,AS,AS]).bH;have c2:=t.cN;have c3:=e.cN;have d1:=(Gi c).1;have d2:=(Gi t).1;have d3:=(Gi e).1;rw[(Oa:b+(c.aL+t.aL+e.aL)=b+c.aL+t.aL+e.aL)]at g;have:=Av.cons ((d.dG f).dG h3) (show(N.map Nd.aD)[b+c.aL+t.aL+e.aL]? =Q (Au [(b+c.aL-1,(ER c).toNat),(b+c.aL+t.aL-1,(ER t).toNat),(b+c.aL+t.aL+e.aL-1,(ER e).toNat)])from g)<|.nil _
  grind [ER,mx,OM,Ex.aL,Cz]
 |.int i n,N,b,h=>Av.cons (.nil b) (show(N.map Nd.aD)[b]? =Q (Au [])from h.bH)<|.nil _
 |.text i s,N,b,h=>Av.cons (.nil b) (show(N.map Nd.aD)[b]? =Q (Au [])from h.bH)<|.nil _
 |.bool i v,N,b,h=>Av.cons (.nil b) (show(N.map Nd.aD)[b]? =Q (Au [])from h.bH)<|.nil _
 |.set i a n c ss,N,b,h=>Av.cons (.nil b) (show(N.map Nd.aD)[b]? =Q (Au [])from h.bH)<|.nil _
 |.name i s,N,b,h=>Av.cons (.nil b) (show(N.map Nd.aD)[b]? =Q (Au [])from h.bH)<|.nil _
 |.attr i n,N,b,h=>Av.cons (.nil b) (show(N.map Nd.aD)[b]? =Q (Au [])from h.bH)<|.nil _
 |.lett i n,N,b,h=>Av.cons (.nil b) (show(N.map Nd.aD)[b]? =Q (Au [])from h.bH)<|.nil _
theorem QN (o:M3)(N:L6)(b:Nat)(h:GQ N b<|Pn o b)(hd:dpO o<=64):∃a,Av (N.map Nd.aD) b a (b+BK o)/\Au a=(if o.isSome then [JW o b]else [])/\∀p∈a,p.2<=64:=by
 cases o with
 |none=>exact⟨[],.nil _,rfl,λp c=>by cases c⟩
 |some e=>
   refine⟨_,Fu e N b h,?_,λp c=>?_⟩
   .simp[Au,JW]
   .rw[zR.1 c];have:ER e<=64:=hd;show(ER e).toNat<=64;omega
theorem QO (N:L6):∀(a:M0) (b:Nat),GQ N b (Ea b a)->(∀x∈a,dpO x.cond<=64/\dpO x.aG<=64/\(x.aC=3↔x.cond=U))->∃c,Av (N.map Nd.aD) b c (b+Di a)/\Au c=(DA b a).flatMap Ao/\∀p∈c,p.2<=64
 |[],b,_,_=>⟨[],.nil _,rfl,λp d=>by cases d⟩
 |x ::a,b,h,hx=>by
  rw[Ea]at h;have l1:T (Pn x.cond b)=BK x.cond:=by cases x.cond<;>simp[Pn,BK,AS]
  have f:T (Pn x.aG<|b+BK x.cond)=BK x.aG:=by cases x.aG<;>simp[Pn,BK,AS]
  obtain⟨g,i,o⟩:=hx x (za ..);obtain⟨f1,g1,j,d1⟩:=QN x.cond N b h.left.left g;obtain⟨f2,g2,l,d2⟩:=QN x.aG N (b+BK x.cond) (h.left.right l1) i;obtain⟨m,g3,n,d3⟩:=QO N a (b+BK x.cond+BK x.aG) (by have:=h.right (k:=BK x.cond+BK x.aG) (by rw[zC,l1,f]);rw[<-Nat.add_assoc]at this;exact this) λy hy=>hx y<|zi _ hy;refine⟨f1++f2++m,?_,?_,λp d=>?_⟩
  .grind [Ci,Av.dG]
  .rw[DA,List.flatMap_cons,<-n];have e0:∀A B:List<|Nat×Nat,Au (A++B)=Au A++Au B:=λA B=>by simp[Au]
   rw[e0,e0,j,l]
   congr 1
   rw[Ao]
   congr 1
   .cases hc:x.cond with
    |none=>grind
    |some e=>grind
   .cases hc:x.aG with
    |none=>simp[JW]
    |some e=>simp[JW]
  grind
end Go.Proofs.YtnjpihpohilnjaaGreatDoor
