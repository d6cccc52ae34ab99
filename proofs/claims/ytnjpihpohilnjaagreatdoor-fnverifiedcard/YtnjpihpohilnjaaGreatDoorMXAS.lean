import Derived.Test.YtnjpihpohilnjaaGreatDoorMXAY
import Derived.Test.YtnjpihpohilnjaaGreatDoorShelf
import Derived.Deep.OwnRows
open List renaming length->T
open Option renaming none->U,some->Q
open Array renaming size->R,size->jh
open Go renaming World->jB,Value->jF,Addr->jG
open Bool renaming true->jD,false->jE
namespace Go.Proofs.YtnjpihpohilnjaaGreatDoor
open Proofs.Tryz
open Value renaming int->V,int->jc,slice->Y,agg->jM,pointer->jP
open IntKind renaming i64->X,i64->jd
open World renaming heap->Z,cell?->jI,setCell->jJ,alloc->jK,ownsRow->jO,drew->jR
open Addr renaming mk->jA,block->jT
open Obj renaming cells->jH
open Ending renaming returned->jN
open Proofs.Tryz renaming prog->jZ
open Go.RowKit
set_option linter.unusedVariables false
set_option maxRecDepth 100000
set_option maxHeartbeats 3200000
variable{i:Be}{L:L2}{lo q n c m d:Nat}{a b:L3}{t:TypeId}{s:Vs}{w w':jB}
def Gr (w:jB) (q:Nat) (s:Vs):Prop:=∃a n c b m d,Ag w q #[Y a n c,Y b m d] 93/\AP w a n c s.stack/\AP w b m d s.aE/\n<=c/\m<=d/\c<=maxLen/\d<=maxLen
theorem Gr.below {w w':jB}{q B:Nat}{s:Vs}(h:Gr w q s)(f:Below B w w')(g:jh (Z w)<=B):Gr w' q s:=by
 obtain⟨a,n,c,b,m,d,R,i,j,h3⟩:=h;exact⟨a,n,c,b,m,d,R.aA f g,i.below f g,j.below f g,h3⟩
def FU (lo:Nat) (w:jB) (q:Nat):Prop:=lo<=q/\q<R (Z w)/\(∀ad n c,jI w (jA q 0 U)=Q (Y (Q ad) n c)->lo<=jT ad)/\∀ad n c,jI w (jA q 1 U)=Q (Y (Q ad) n c)->lo<=jT ad
theorem FU.below {B:Nat}(h:FU lo w q)(b:Below B w w')(i:R (Z w)<=B):FU lo w' q:=by
 obtain⟨d,f,h3,g⟩:=h;refine⟨d,zL f b.size,λa n c e=>h3 a n c ?_,λa n c e=>g a n c ?_⟩
 all_goals grind [Go.RowKit.Below.cell]
theorem FU.mk' (R:Ag w q #[Y a n c,Y b m d] t)(hq:lo<=q)(g:∀f,a=Q f->lo<=jT f)(h:∀f,b=Q f->lo<=jT f):FU lo w q:=by
 have c0:jI w (jA q 0 U)=Q (Y a n c):=Hz;have c1:jI w (jA q 1 U)=Q (Y b m d):=Hy;refine⟨hq,R.lt,λf n' c' e=>g f ?_,λf n' c' e=>h f ?_⟩
 all_goals grind
theorem FU.parts (h:FU lo w q)(R:Ag w q #[Y a n c,Y b m d] t):(∀f,a=Q f->lo<=jT f)/\∀f,b=Q f->lo<=jT f:=by
 have c0:jI w (jA q 0 U)=Q (Y a n c):=Hz;have c1:jI w (jA q 1 U)=Q (Y b m d):=Hy
 grind [Ag.cell,FU]
theorem Gr.bF (h:Gr w q s)(g:FU lo w q)(p:jG)(v:jF)(C:jT p<lo):Gr (jJ w p v) q s/\FU lo (jJ w p v) q:=by
 obtain⟨a,n,c,b,m,d,R,t,u,h3⟩:=h;obtain⟨i,l⟩:=g.parts R;have hq:=g.1;have R':=R.aF (p:=p) (Oa:q≠jT p) v;have F:∀{x:L3} {k e:Nat} {L:L2},AP w x k e L->(∀o,x=Q o->lo<=jT o)->AP (jJ w p v) x k e L:=λ{x k e L} hi hx=>⟨hi.len,hi.aJ,λj y=>by
  obtain⟨f,z,r,A,c0⟩:=hi.cells j y;have B:=hx _ r;refine⟨f,z,r,by simpa using A,?_⟩;rw[G9<|K0 w p f v<|by show f≠jT p;simp only at B;omega];exact c0⟩
 exact⟨⟨a,n,c,b,m,d,R',F t i,F u l,h3⟩,FU.mk' R' hq i l⟩
theorem AfY {op:Int}(h0: 1<=op)(a:op<=25):op=1\/op=2\/op=3\/op=4\/op=5\/op=6\/op=7\/op=8\/op=9\/op=10\/op=11\/op=12\/op=13\/op=14\/op=15\/op=16\/op=17\/op=18\/op=19\/op=20\/op=21\/op=22\/op=23\/op=24\/op=25:=Oa
theorem Fj (op:Int)(w:jB)(h0: 1<=op)(a:op<=25):
  Calls jZ 44 #[V X op] w λe w'=>e=jN (V X (AM op:Nat))/\w'=w:=by
 obtain e|e|e|e|e|e|e|e|e|e|e|e|e|e|e|e|e|e|e|e|e|e|e|e|e:=AfY h0 a
 all_goals
  subst e;clear h0 a;go_enter func44,ntmps44
  go_wp2
  go_ret
  exact⟨rfl,rfl⟩
theorem Jl (l:L2)(h: 0<T l):CA l=l[T l-1]' Oa:=by grind [CA]
theorem VA (q:Nat)(s:Vs)(w:jB)(h:Gr w q s):
  Calls jZ 72 #[jP<|Q<|jA q 0 U] w λe w'=>e=jN (V X<|CA s.stack)/\Ai w w':=by
 obtain⟨a,n,c,b,m,d,R,i,t,h3,u,h5,v⟩:=h;obtain⟨y,q1⟩:=Bo R;have j:=i.len;have z:=i.aJ;by_cases l:n=0
 .subst l;have f:=Ab (show CA s.stack=0 by have:s.stack=[]:=zd j;rw[this];rfl);go_enter func72,ntmps72
  go_wp2
  go_ret
  rw[Aa f];exact⟨rfl,BRN⟩
 .have o: 0<T s.stack:=Oa;have f:=Ab<|Jl s.stack o;obtain⟨g,A,p,_,hc⟩:=i.cells (T s.stack-1) Oa;subst p;have B:((n:Int)==0)=jE:=zA.2 Oa;obtain⟨k,r⟩:∃k,n=k+1:=⟨n-1,Oa⟩
  subst r;have e1:T s.stack-1=k:=Oa;generalize s.stack[T s.stack-1]=x at f hc;rw[e1]at hc;go_enter func72,ntmps72
  go_wp2_with fail
  go_region
  all_goals
   go_wp2
   go_ret
   rw[Aa f];exact⟨rfl,BRN.drew⟩
theorem AP.take {w:jB}{a:L3}{n c:Nat}{L:L2}(h:AP w a n c L)(k:Nat)(l:k<=n):AP w a k c<|L.take k:=
 ⟨by rw[zg,h.len];omega,H2 h.aJ,λj d=>by
  have m:=h.len;rw[zg]at d;obtain⟨b,f,g,i,hc⟩:=h.cells j Oa;exact⟨b,f,g,i,by rw[hc,List.getElem_take]⟩⟩
theorem AP.at {n c:Nat}(h:AP w a n c L)(j:Nat)(f:j<n):∃b d,a=Q (jA b d U)/\b<R (Z w)/\jI w ⟨b,d+j,U⟩=Q (V X<|L.getD j 0):=by
 obtain⟨b,d,g,i,hc⟩:=h.cells j Hd
 grind
def AkL (o:N7) (aT:jG) (w:jB) (e:Ending) (w':jB):Prop:=Uq o aT e/\Ai w w'
theorem KC (op:Int)(q:Nat)(s:Vs)(i:jG)(w:jB)(h:Gr w q s)(hv:Lk w i)(h0: 5<=op)(P:op<=21)(I:AM op<=T s.stack):
  Calls jZ 73 #[V X op,jP<|Q<|jA q 0 U] w λe w'=>AkL (FQ op s.stack) i w e w':=by
 have u:=Ab λj (y:Gr j q s)=>VA q s j y;have C:=Ab λl r j (y:Lk j i)=>Nm (op+3) l r i j y;have x:=Ab<|Fj op w Oa Oa;have D:=Ab h;have E:=Ab hv;by_cases S:op<=7
 .have F:AM op=1:=by
   have:op=5\/op=6\/op=7:=Oa;obtain rfl|rfl|rfl:=this<;>rfl
  have f:=Ab (show FQ op s.stack=MZ (op+3) (CA s.stack) 0 by rw[FQ,H8 F]);rw[F]at x;generalize CA s.stack=o at u f;go_enter func73,ntmps73
  go_wp2_with (first
   |(go_at_call 44;refine(Aa x).mono ?_;rintro e J ⟨rfl,z⟩;rw[z])
   |(go_at_call 72;refine(Aa u w<|Aa D).mono ?_;rintro e w2 ⟨rfl,p⟩)
   |(go_at_call 112;refine(Aa C _ _ w2<|(Aa E).below p NLN).mono ?_;rintro e K ⟨t,hb3⟩;unfold Uq at t;obtain rfl:=t))
  exact G2 (v:= .tuple #[V X<|(MZ (op+3) o 0).getD 0,AfX (MZ (op+3) o 0).isSome i]) (by simp[results,results73,go_sem]) rfl ⟨by rw[Aa f];rfl,p.trans<|hb3.mono p.size⟩
 .have L:AM op=2:=by
   obtain e|e|e|e|e|e|e|e|e|e|e|e|e|e|e|e|e|e|e|e|e|e|e|e|e:=AfY (op:=op) Oa Oa
   all_goals subst e
   all_goals first|rfl|omega
  have f:=Ab (show FQ op s.stack=MZ (op+3) (s.stack.getD (T s.stack-2) 0) (CA s.stack) by rw[FQ,H7 Oa]);rw[L]at x I;obtain⟨a,n,c,b,m,d,R,A,W,h3,aa,h5,ab⟩:=h;have ac:=A.len;have ad:=A.aJ;obtain⟨k,M⟩:∃k,n=k+2:=⟨n-2,Oa⟩
  subst M;obtain⟨g,ae,N,af,hc⟩:=A.at k Oa;subst N;have O:T s.stack-2=k:=Oa;rw[O]at f;generalize s.stack.getD k 0=G at hc f;generalize CA s.stack=o at u f;obtain⟨ag,q1⟩:=Bo R;go_enter func73,ntmps73
  go_wp2_with (first
   |(go_at_call 44;refine(Aa x).mono ?_;rintro e J ⟨rfl,z⟩;rw[z]))
  go_region
  all_goals
   have H:Ai w<|jR w:=BRN.drew;go_wp2_with (first
    |(go_at_call 72;refine(Aa u (jR w)<|(Aa D).below H NLN).mono ?_;rintro e w2 ⟨rfl,p⟩;have B:=H.trans p)
    |(go_at_call 112;refine(Aa C _ _ w2<|(Aa E).below B NLN).mono ?_;rintro e K ⟨t,hb3⟩;unfold Uq at t;obtain rfl:=t))
   exact G2 (v:= .tuple #[V X<|(MZ (op+3) G o).getD 0,AfX (MZ (op+3) G o).isSome i]) (by simp[results,results73,go_sem]) rfl ⟨by rw[Aa f];rfl,B.trans<|hb3.mono B.size⟩
set_option maxHeartbeats 6400000
theorem AcW (h0: 5<=i.op)(a:i.op<=21):AJ i s=(FQ i.op s.stack).isSome:=by grind [AJ]
theorem AfZ (b:Bool)(a:jG):b=jD/\AfX b a= .nilIface\/b=jE/\AfX b a= .iface 273 (jP<|Q a):=by
 cases b
 .exact .inr ⟨rfl,rfl⟩
 .exact .inl ⟨rfl,rfl⟩
theorem AcX (i:Be)(q:Nat)(s:Vs)(y:jG)(w:jB)(h:Gr w q s)(hv:Lk w y)(h0: 1<=i.op)(H:i.op<=25)(B:AM i.op<=T s.stack)(C:i.op=4->0<=i.aY/\i.aY<T s.aE):
  Calls jZ 45 #[jM #[V X i.op,V X i.aY],jP<|Q<|jA q 0 U] w λe w'=>e=jN (.bool<|AJ i s)/\Ai w w':=by
 obtain⟨op,l⟩:=i;simp only at h0 H B C;have f:=AE w<|jH #[V X op,V X l] 80;have t:=h.below f NLN;have I:=hv.below f NLN;obtain⟨aa,ab⟩:=Bo<|Ag.new w #[V X op,V X l] 80;by_cases u: 5<=op/\op<=21
 .have j:=Ab<|AcW (i:=⟨op,l⟩) (s:=s) u.1 u.2;have D:=Ab<|KC op q s y _ t I u.1 u.2 B;simp only at j;generalize FQ op s.stack=J at j D;have e1:(op==1)=jE:=zA.2 Oa;have e2:(op==2)=jE:=zA.2 Oa;have e3:(op==3)=jE:=zA.2 Oa;have e4:(op==4)=jE:=zA.2 Oa;have ac:(op==22)=jE:=zA.2 Oa;have ad:(op==23)=jE:=zA.2 Oa;have ae:(op==24)=jE:=zA.2 Oa;have af:(op==25)=jE:=zA.2 Oa;go_enter func45,ntmps45
  go_wp2_with fail
  refine(Aa D).mono ?_;rintro e w2 ⟨he,o⟩;unfold Uq at he;obtain rfl:=he;obtain⟨E,hv⟩|⟨E,hv⟩:=AfZ J.isSome y
  all_goals
   rw[hv];go_wp2
   go_ret
   rw[Aa<|Ab<|(Aa j).trans E];exact⟨rfl,f.trans<|o.mono f.size⟩
 by_cases F:op=1\/op=2\/op=3\/op=22\/op=24
 .have j:=Ab (show AJ ⟨op,l⟩ s=jD by unfold AJ;rw[H8 F]);obtain rfl|rfl|rfl|rfl|rfl:=F
  all_goals
   go_enter func45,ntmps45
   go_wp2
   go_ret
   rw[Aa j];exact⟨rfl,f⟩
 have p:=Ab λG (K:Gr G q s)=>VA q s G K;by_cases L:op=23
 .subst L;have j:=Ab<|show AJ ⟨23,l⟩ s=decide (CA s.stack=1)from rfl;generalize CA s.stack=r at p j;go_enter func45,ntmps45
  go_wp2_with (go_at_call 72;refine(Aa p _ t).mono ?_;rintro e w2 ⟨rfl,o⟩)
  go_ret
  rw[Aa j];refine⟨?_,f.trans<|o.mono f.size⟩
  first|rfl|(congr 2;by_cases e:r=1<;>simp[e])
 by_cases M:op=25
 .subst M;have j:=Ab<|show AJ ⟨25,l⟩ s=decide (CA s.stack=4)from rfl;generalize CA s.stack=r at p j;go_enter func45,ntmps45
  go_wp2_with (go_at_call 72;refine(Aa p _ t).mono ?_;rintro e w2 ⟨rfl,o⟩)
  go_ret
  rw[Aa j];refine⟨?_,f.trans<|o.mono f.size⟩
  first|rfl|(congr 2;by_cases e:r=4<;>simp[e])
 have N:op=4:=Oa;subst N;have j:=Ab<|show AJ ⟨4,l⟩ s=decide (RZ s.aE l=0\/RZ s.aE l=CA s.stack)from rfl;obtain⟨O,ag⟩:=C rfl;obtain⟨k,rfl⟩:=zo O;obtain⟨a,n,c,b,m,d,R,ah,i2,l1,ai,aj,ak⟩:=id t;have hm:=i2.len;have P:k<m:=Oa;obtain⟨g,al,S,ao,hc⟩:=i2.at k P;subst S;have v:=Ab<|show AJ ⟨4,(k:Int)⟩ s=decide (s.aE.getD k 0=0\/s.aE.getD k 0=CA s.stack)from rfl;generalize s.aE.getD k 0=x at hc v;generalize CA s.stack=r at p v;obtain⟨ap,q1⟩:=Bo R;have aq:(k:Int)<(m:Int):=Oa;by_cases z:x=0
 .subst z;have A:=Ab (show AJ ⟨4,(k:Int)⟩ s=jD by rw[Aa v];simp);go_enter func45,ntmps45
  go_wp2_with fail
  go_region
  all_goals
   go_wp2
   go_ret
   rw[Aa A];exact⟨rfl,f.drew⟩
 .have ar:(x==0)=jE:=zA.2 z;have A:=Ab (show AJ ⟨4,(k:Int)⟩ s=decide (x=r) by rw[Aa v];simp[z]);go_enter func45,ntmps45
  go_wp2_with fail
  go_region
  all_goals
   have W:=(Below.refl (jh<|Z<|jK w<|jH #[V X 4,V X k] 80)<|jK w<|jH #[V X 4,V X k] 80).drew;go_wp2_with (go_at_call 72;refine(Aa p _<|t.below W NLN).mono ?_;rintro e w2 ⟨rfl,o⟩)
   go_ret
   rw[Aa A];refine⟨?_,f.drew.trans<|o.mono f.size⟩
   first|rfl|(congr 2;by_cases e:x=r<;>simp[e])
section
open Go.RowKit Go.Lib
def Ah9 (w:jB) (L:L2) (e:Ending) (w':jB):Prop:=∃x c,e=jN (Y x (T L) c)/\jO w' (R<|Z w) 3 1 (Y x (T L) c) (T L) (Ak L)/\Ai w w'
theorem Sr (a:L3)(n c:Nat)(L:L2)(w:jB)(h:AP w a n c L):
  Calls jZ 76 #[Y a n c] w λe w'=>Ah9 w L e w':=by
 have g:=h.len;have hs:=h.aJ;cases a with
 |none=>
   have i:L=[]:=by
    cases L with
    |nil=>rfl
    |cons x L=>
      obtain⟨b,f,d,_⟩:=h.cells 0 Ox;cases d
   grind [AP.len,AP.cells,AP.at,AA,Ak,AP.aJ,Ah9,Go.Proofs.Tryz.slices_Clone_int_nil,Go.RowKit.Below.refl,Go.World.ownsRow_nil,Go.Calls.mono]
 |some k=>
   cases L with
   |nil=>grind [AP.len,AP.cells,AP.at,AA,Ak,AP.aJ,Ah9,Go.Proofs.Tryz.slices_Clone_int_zero,Go.Calls.mono]
   |cons y L=>
     obtain⟨b,f,d,_⟩:=h.cells 0 Ox;cases d;refine(Tryz.slices_Clone_int b f n c (y ::L) w Oa Oa λj l=>?_).mono ?_
     all_goals grind [AP.len,AP.cells,AP.at,AA,Ak,AP.aJ,Ah9]
theorem Ur (L:L2)(k:Nat)(x:Int):(Ak L).set k (V X x)=Ak (L.set k x):=by rw[Ak,Ak,List.map_set]
def Alv (w:jB) (a:L3) (L:L2) (e:Ending) (w':jB):Prop:=∃x c,e=jN (Y x (T L) c)/\AP w' x (T L) c L/\T L<=c/\c<=maxLen/\(x=a\/∀ad,x=Q ad->R (Z w)<=jT ad)/\Ai w w'
theorem Af0 (L:L2)(k:Nat)(x:Int)(h:L.getD k 0=x)(a:k<T L):L.set k x=L:=by
 apply List.ext_getElem
 all_goals grind
theorem VB (a:L3)(n c k:Nat)(L:L2)(x:Int)(w:jB)(h:AP w a n c L)(t:k<n)(hc:n<=c)(u:c<=maxLen)(K:n<=600):
  Calls jZ 74 #[Y a n c,V X k,V X x] w λe w'=>Alv w a (L.set k x) e w':=by
 have d:=h.len;obtain⟨b,M,v,N,m⟩:=h.at k t;subst v;have z:=Ab<|Sr _ n c L w h;have A:=h.aJ;have B:=Ab h;have l:=Ab d;have O:(k:Int)<(n:Int):=Oa;by_cases hx:L.getD k 0=x
 .have o:=Ab<|Af0 L k x hx Oa;subst hx;clear h d;generalize L.getD k 0=y at m o;go_enter func74,ntmps74
  go_wp2
  go_ret
  rw[Aa o];have d:=Aa l;subst d;exact⟨_,_,rfl,Aa B,hc,u,.inl rfl,BRN⟩
 .have C:(L.getD k 0==x)=jE:=zA.2 hx;clear h d hx;generalize L.getD k 0=y at m C;go_enter func74,ntmps74
  go_wp2_with fail
  refine(Aa z).mono ?_;rintro e P ⟨D,c1,rfl,f,E⟩;have d:=Aa l;have F:k<T L:=Oa;obtain⟨g,hg,q⟩:∃g,D=Q (jA g 0 U)/\T L<=c1/\c1<=maxLen:=by
   obtain⟨_,h0⟩|⟨g,cap,S,hv,_,_,G,H,_⟩:=f.2
   .omega
   .simp only[Value.slice.injEq]at hv;obtain⟨I,_,rfl⟩:=hv;exact⟨g,I,G,H⟩
  subst hg;have c0:=(f.cellAt k Oa).trans (by rw[Ak,zr,zM F]);simp only[Option.map_some]at c0;have W:=λi=>f.frozenAt i;have J:=Ab (f.stored k<|V X x).1;have r:=(f.lt g rfl).1;have aa:(k:Int)<(T L:Int):=Oa;clear f d;go_wp2
  go_ret
  have s:=Aa J;rw[Ur]at s;have j:T (L.set k x)=T L:=Ox;refine⟨Q<|jA g 0 U,c1,by rw[j];rfl,Cd (by rw[j];exact s)<|by rw[j,Aa l];exact A,by rw[j];exact q.1,q.2,.inr (λab e=>by cases e;exact r),E.setCell (p:=(jA g k U)) r _⟩
set_option maxHeartbeats 3200000
theorem PX.at {n c:Nat}{L:M2}(h:PX w a n c L)(j:Nat)(f:j<n):∃b d,a=Q (jA b d U)/\b<R (Z w)/\jI w ⟨b,d+j*2,U⟩=Q (V X (L.getD j ⟨0,0⟩).op)/\jI w ⟨b,d+j*2+1,U⟩=Q (V X (L.getD j ⟨0,0⟩).aY):=by
 have g:j<T L:=Hd
 grind [PX.cells]
theorem Yl (t:Nat)(a b:L3)(n c m d:Nat)(s:Int)(z:jF)(A:Int)(I:M2)(k:Nat)(w:jB)(u:Ag w t #[Y a n c,V X s,Y b m d,z,V X A] 56)(B:PX w b m d I)(C:k<m)(E:n<=1048576)(hs: 0<=s)(v: 1<=(I.getD k ⟨0,0⟩).op/\(I.getD k ⟨0,0⟩).op<=25):
  Calls jZ 43 #[jP<|Q<|jA t 0 U,V X k] w λe w'=>e=jN (.bool<|AF n s.toNat m k<|I.getD k ⟨0,0⟩)/\Ai w w':=by
 obtain⟨g,F,D,G,x,y⟩:=B.at k C;subst D;obtain⟨H,q1,q2,J,K⟩:=Cm u;generalize I.getD k ⟨0,0⟩=i at x y v;obtain⟨op,f⟩:=i;simp only at x y v;have L:(k:Int)<(m:Int):=Oa;have j:=AE w<|jH #[V X op,V X f] 80;obtain⟨S,rfl⟩:=zo hs;rw[zS];obtain⟨M,N,O,P,W⟩:=Cm<|u.alloc<|jH #[V X op,V X f] 80;obtain⟨aa,ab⟩:=Bo<|Ag.new w #[V X op,V X f] 80;by_cases o:op=1
 .subst o;have h:=Ab<|show AF n S m k ⟨1,f⟩=decide (f<n)from rfl;go_enter func43,ntmps43
  go_wp2_with fail
  go_region
  all_goals
   go_wp2
   go_ret
   rw[Aa h];exact⟨rfl,j.drew⟩
 by_cases p:op=2
 .subst p;have h:=Ab<|show AF n S m k ⟨2,f⟩=decide (f<6)from rfl;go_enter func43,ntmps43
  go_wp2
  go_ret
  rw[Aa h];exact⟨rfl,j⟩
 by_cases h3:op=3\/op=4
 .have h:=Ab (show AF n S m k ⟨op,f⟩=decide (f<S) by unfold AF;rw[H7 o,H7 p,H8 h3]);obtain rfl|rfl:=h3
  all_goals
   go_enter func43,ntmps43
   go_wp2_with fail
   go_region
   all_goals
    go_wp2
    go_ret
    rw[Aa h];exact⟨rfl,j.drew⟩
 by_cases l:op=22\/op=23
 .have h:=Ab (show AF n S m k ⟨op,f⟩=decide ((k:Int)<f/\f<m) by unfold AF;rw[H7 o,H7 p,H7 h3,H8 l]);by_cases q:(k:Int)<f
  .have r:=Ab (show AF n S m k ⟨op,f⟩=decide (f<m) by rw[Aa h];simp[q]);obtain rfl|rfl:=l
   all_goals
    go_enter func43,ntmps43
    go_wp2_with fail
    go_region
    all_goals
     go_wp2
     go_ret
     rw[Aa r];exact⟨rfl,j.drew⟩
  .have r:=Ab (show AF n S m k ⟨op,f⟩=jE by rw[Aa h];simp[q]);have ac:decide ((k:Int)<f)=jE:=zH q;obtain rfl|rfl:=l
   all_goals
    go_enter func43,ntmps43
    go_wp2_with fail
    go_region
    all_goals
     go_wp2
     go_ret
     rw[Aa r];exact⟨rfl,j.drew⟩
 .have h:=Ab (show AF n S m k ⟨op,f⟩=jD by unfold AF;rw[H7 o,H7 p,H7 h3,H7 l]);have e1:(op==1)=jE:=zA.2 o;have e2:(op==2)=jE:=zA.2 p;have e3:(op==3)=jE:=zA.2 λe=>h3<|.inl e;have e4:(op==4)=jE:=zA.2 λe=>h3<|.inr e;have ad:(op==22)=jE:=zA.2 λe=>l<|.inl e;have ae:(op==23)=jE:=zA.2 λe=>l<|.inr e;go_enter func43,ntmps43
  go_wp2
  go_ret
  rw[Aa h];exact⟨rfl,j⟩
set_option maxHeartbeats 6400000
theorem SC.at {n c:Nat}{L:M1}(h:SC w a n c L)(j:Nat)(f:j<n):∃b d,a=Q (jA b d U)/\b<R (Z w)/\jI w ⟨b,d+j*4,U⟩=Q (V X<|(L.map Vl.aC).getD j 0):=by
 have g:j<T L:=Hd;obtain⟨b,d,i,k,an,nn,cn,c0,_⟩:=h.cells j g
 grind
theorem Ym {PK:L2}(h0: 5<=i.op)(a:i.op<=21):BR PK i s=(FQ i.op s.stack).getD 0:=by grind [BR]
def Pj (np S:Nat) (i:Be):Prop:=0<=i.aY/\(i.op=1->i.aY<np)/\(i.op=2->i.aY<6)/\(i.op=3\/i.op=4->i.aY<S)
theorem Ss (m:Nat)(a:L3)(n c:Nat)(E F G H:jF)(P:M1)(i:Be)(q:Nat)(s:Vs)(o:jG)(w:jB)(I:Ag w m #[Y a n c,E,F,G,H] 56)(p:SC w a n c P)(h:Gr w q s)(hv:Lk w o)(h0: 1<=i.op)(J:i.op<=25)(r:AM i.op<=T s.stack)(K:Pj n (T s.aE) i):
  Calls jZ 75 #[jP<|Q<|jA m 0 U,jM #[V X i.op,V X i.aY],jP<|Q<|jA q 0 U] w λe w'=>e=jN (V X<|BR (P.map Vl.aC) i s)/\Ai w w':=by
 obtain⟨op,j⟩:=i;obtain⟨t,u,v,x⟩:=K;simp only at h0 J r t u v x;have d:=AE w<|jH #[V X op,V X j] 80;have z:=h.below d NLN;have A:=hv.below d NLN;obtain⟨ae,af⟩:=Bo<|Ag.new w #[V X op,V X j] 80;obtain⟨ag,ah,ai,aj,ak⟩:=Cm<|I.alloc<|jH #[V X op,V X j] 80;obtain⟨k,rfl⟩:=zo t;by_cases f: 5<=op/\op<=21
 .have b:=Ab<|Ym (PK:=P.map Vl.aC) (i:=⟨op,(k:Int)⟩) (s:=s) f.1 f.2;have B:=Ab<|KC op q s o _ z A f.1 f.2 r;simp only at b;generalize FQ op s.stack=al at b B;have e1:(op==1)=jE:=zA.2 Oa;have e2:(op==2)=jE:=zA.2 Oa;have e3:(op==3)=jE:=zA.2 Oa;have e4:(op==4)=jE:=zA.2 Oa;have ao:(op==22)=jE:=zA.2 Oa;have ap:(op==23)=jE:=zA.2 Oa;have aq:(op==24)=jE:=zA.2 Oa;have ar:(op==25)=jE:=zA.2 Oa;go_enter func75,ntmps75
  go_wp2_with fail
  refine(Aa B).mono ?_;rintro e w2 ⟨he,L⟩;unfold Uq at he;obtain rfl:=he;go_wp2
  go_ret
  rw[Aa b];exact⟨rfl,d.trans<|L.mono d.size⟩
 by_cases C:op=4\/op=22\/op=23\/op=24\/op=25
 .have b:=Ab (show BR (P.map Vl.aC) ⟨op,(k:Int)⟩ s=0 by
   unfold BR;rw[H7 (Oa:¬ op=1),H7 (Oa:¬ op=2),H7 (Oa:¬ op=3),H8 C])
  obtain rfl|rfl|rfl|rfl|rfl:=C
  all_goals
   go_enter func75,ntmps75
   go_wp2
   go_ret
   rw[Aa b];exact⟨rfl,d⟩
 by_cases M:op=1
 .subst M;have N:k<n:=H2<|u rfl;have b:=Ab<|show BR (P.map Vl.aC) ⟨1,(k:Int)⟩ s=(P.map Vl.aC).getD k 0 from rfl;obtain⟨g,O,l,S,hc⟩:=(p.below d NLN).at k N;subst l;have au:=p.aJ;generalize (P.map Vl.aC).getD k 0=y at b hc;have D:(k:Int)<(n:Int):=Oa;go_enter func75,ntmps75
  go_wp2_with fail
  go_region
  all_goals
   go_wp2
   go_ret
   rw[Aa b];exact⟨rfl,d.drew⟩
 by_cases W:op=3
 .subst W;have av:k<T s.aE:=H2<|x<|.inl rfl;have b:=Ab<|show BR (P.map Vl.aC) ⟨3,(k:Int)⟩ s=s.aE.getD k 0 from rfl;obtain⟨aw,ax,sc,ay,sm,sd,aa,az,i2,l1,aA,aB,aD⟩:=z;have hm:=i2.len;obtain⟨g,O,l,S,hc⟩:=i2.at k Oa;subst l;generalize s.aE.getD k 0=y at b hc;obtain⟨aF,aG⟩:=Bo aa;have D:(k:Int)<(sm:Int):=Oa;go_enter func75,ntmps75
  go_wp2_with fail
  go_region
  all_goals
   go_wp2
   go_ret
   rw[Aa b];exact⟨rfl,d.drew⟩
 have ab:op=2:=Oa;subst ab;have aH:k<6:=H2<|v rfl;have b:=Ab<|show BR (P.map Vl.aC) ⟨2,(k:Int)⟩ s=F7 k from rfl;have ad:jI (jK w<|jH #[V X 2,V X k] 80) ⟨3,k*2+1,U⟩=Q (V X<|F7 k):=by
  rw[A.ac];have:k=0\/k=1\/k=2\/k=3\/k=4\/k=5:=Oa;obtain rfl|rfl|rfl|rfl|rfl|rfl:=this<;>rfl
 have D:(k:Int)<6:=Oa;generalize F7 k=y at b ad;go_enter func75,ntmps75
 go_wp2
 go_ret
 rw[Aa b];exact⟨rfl,d⟩
def AjK (w:jB) (q:Nat) (s:Vs) (e:Ending) (w':jB):Prop:=∃q',e=jN (jP<|Q<|jA q' 0 U)/\Gr w' q' s/\Ai w w'/\∀lo,lo<=R (Z w)->FU lo w q->FU lo w' q'
theorem PR (op:Int):AM op<=2:=by grind [AM]
theorem ZZ (ac:Nat)(a:L3)(n c:Nat)(al ao ap aq:jF)(P:M1)(i:Be)(q:Nat)(s:Vs)(ar:jG)(w:jB)(ad:Ag w ac #[Y a n c,al,ao,ap,aq] 56)(ae:SC w a n c P)(h:Gr w q s)(hv:Lk w ar)(h0: 1<=i.op)(af:i.op<=25)(y:AM i.op<=T s.stack)(au:Pj n (T s.aE) i)(bb:T s.aE<=600)(bc:T s.stack<=200)(ag:i.op=4\/BR (P.map Vl.aC) i s=0):
  Calls jZ 46 #[jP<|Q<|jA ac 0 U,jM #[V X i.op,V X i.aY],jP<|Q<|jA q 0 U] w λe w'=>AjK w q (AT (P.map Vl.aC) i s) e w':=by
 have aQ:=au;obtain⟨op,av⟩:=i;obtain⟨aw,ah,ai,K⟩:=au;simp only at h0 af y aw ah ai K;have A:=AE w<|jH #[V X op,V X av] 80;have ax:=h.below A NLN;have ay:=hv.below A NLN;obtain⟨bd,aR⟩:=Bo<|Ag.new w #[V X op,V X av] 80;obtain⟨k,rfl⟩:=zo aw;have B:=Ab λG:jB=>Fj op G h0 af;have az:=PR op;have aS:=Ab ax;obtain⟨C,m,sc,D,sm,sd,L,H,i2,l1,M,N,O⟩:=ax;have aB:=H.len;have hm:=i2.len;obtain⟨bf,S⟩:=Bo L;have u:=Ab (show ∀lo,lo<=R (Z w)->FU lo w q->(∀f,C=Q f->lo<=jT f)/\∀f,D=Q f->lo<=jT f from λlo o l=>(l.below A NLN).parts L);obtain⟨z,E⟩:∃z,m=z+AM op:=⟨m-AM op,Oa⟩
 have aD:=Ab<|H.take z Oa;have aF:=Ab (Oa:T s.stack-AM op=z);have bg:m<=sc:=l1;by_cases v:op=4
 .clear ag;have x:=Ab (show AT (P.map Vl.aC) ⟨op,(k:Int)⟩ s=⟨s.stack.take z,s.aE.set k<|CA s.stack⟩ by
   rw[<-Aa aF];subst v;rfl)
  obtain⟨g,aj,aT,bh,bi⟩:=H.at 0 (by subst v;have:AM 4=1:=rfl;omega);subst aT;have aU:=Ab (show 0<m by have:AM 4=1:=rfl;subst v;omega);have aG:=Ab λaH (aV:Gr aH q s)=>VA q s aH aV;generalize AM op=pv at B E az y;subst v;have aW:IntKind.i64.wrap ((m:Int)-(pv:Int))=(z:Int):=by
   rw[(Oa:(m:Int)-(pv:Int)=(z:Int))];have:z<=200:=Oa;simp[IntKind.wrap,IntKind.bits,IntKind.signed];omega
  have aI: ¬ (sc=0):=by
   have:=Aa aU;omega
  have aX:(z:Int)<=(sc:Int):=Oa;have aZ:(0 :Int)<=(z:Int):=Oa;have F:=L.lt;have aJ:R (Z w)<R (Z<|jK w<|jH #[V X 4,V X k] 80):=Ox;have a0:=Ab<|i2.below BRN.drew.drew NLN;have a1:k<sm:=H2<|K<|.inr rfl;have a2:sm<=600:=Oa;have I:=Ab<|(Aa aD).below BRN.drew.drew NLN;have a3:=Ab<|(Aa aS).below BRN.drew.drew NLN;generalize CA s.stack=aK at aG x;clear h hv ay ad ae ah ai K aB hm y E H i2;go_enter func46,ntmps46
  go_wp2_with fail
  go_region_held3 (λw'=>jI w' (jA q 0 U)=Q (Y (Q<|jA g aj U) m sc)/\jI w' ⟨R<|Z w,0,U⟩=Q (V X 4)) (first|assumption|go_keep) ((go_at_call 44;refine(Aa B _).mono ?_;rintro e G ⟨rfl,r⟩;rw[r];clear r))
  go_wp2_with fail
  go_region_held3 (λw'=>jI w' (jA q 1 U)=Q (Y D sm sd)/\jI w' ⟨R<|Z w,1,U⟩=Q (V X k)) (first|assumption|go_keep)
   (first
    |(go_at_call 72;refine(Aa aG _<|Aa a3).mono ?_;rintro e w2 ⟨rfl,b⟩;have W:=(b.cell (p:=(jA q 1 U)) F).trans S;have a4:=(b.cell (p:=⟨R<|Z w,1,U⟩) aJ).trans aR)
    |(go_at_call 74;refine(VB D sm sd k s.aE aK w2 ((Aa a0).below b NLN) a1 M O a2).mono ?_;rintro e aa ⟨aL,c3,rfl,aM,aN,a5,aO,hb3⟩;have a6:=Ab aO;clear aO;have bj:=(hb3.cell (p:=(jA q 1 U))<|zL F b.size).trans W;have bk:=(hb3.cell (p:=⟨R<|Z w,1,U⟩)<|zL aJ b.size).trans a4))
  go_wp2
  go_ret
  rw[Aa x];have a7:T (s.aE.set k aK)=T s.aE:=Ox;rw[a7]at aM aN;have j:=AE aa<|jH #[Y (Q<|jA g aj U) z sc,Y aL (T s.aE) c3] 93;have a8:=(((Aa I).below b NLN).below hb3 NLN).below j NLN;have d:Ai w w2:=A.drew.drew.trans<|b.mono A.size;exact⟨R<|Z aa,rfl,⟨Q<|jA g aj U,z,sc,aL,_,c3,Ag.new aa _ _,a8,aM.below j NLN,Oa,aN,N,a5⟩,(d.trans<|hb3.mono d.size).trans<|j.mono (d.trans<|hb3.mono d.size).size,λlo o l=>FU.mk' (Ag.new aa _ _) (by have:=d.size;have:=hb3.size;omega) (Aa u lo o l).1 (λf e=>by
   obtain h3|h3:=Aa a6
   .exact(Aa u lo o l).2 f (h3 ▸ e)
   .have:=h3 f e;have:=d.size;omega)⟩
 .have t:=A.drew;have ab:=Ab<|Ss ac a n c al ao ap aq P ⟨op,(k:Int)⟩ q s ar _ (ad.aA t NLN) (ae.below t NLN) (h.below t NLN) (hv.below t NLN) h0 af y aQ;have x:=Ab (show AT (P.map Vl.aC) ⟨op,(k:Int)⟩ s=if BR (P.map Vl.aC) ⟨op,(k:Int)⟩ s=0 then ⟨s.stack.take z,s.aE⟩else ⟨s.stack.take z++[BR (P.map Vl.aC) ⟨op,(k:Int)⟩ s],s.aE⟩ by
   rw[<-Aa aF];unfold AT;rw[H7 v])
  have aP:=ag.resolve_left v;generalize BR (P.map Vl.aC) ⟨op,(k:Int)⟩ s=bl at ab x aP;clear ag;generalize AM op=pv at B E az y;have e4:(op==4)=jE:=zA.2 v;have aW:IntKind.i64.wrap ((m:Int)-(pv:Int))=(z:Int):=by
   rw[(Oa:(m:Int)-(pv:Int)=(z:Int))];have:z<=200:=Oa;simp[IntKind.wrap,IntKind.bits,IntKind.signed];omega
  have aX:(z:Int)<=(sc:Int):=Oa;have aZ:(0 :Int)<=(z:Int):=Oa;have bm:z<=200:=Oa;have F:=L.lt;have I:=Ab<|(Aa aD).below BRN.drew NLN;have ak:=Ab<|i2.below BRN.drew NLN;clear h hv ay ad ae ah ai K aB hm y H i2;have a9:sc=0\/(¬ (sc=0)/\C=U)\/(¬ (sc=0)/\∃f,C=Q f):=by
   by_cases e:sc=0
   .exact .inl e
   .cases C with
    |none=>exact .inr<|.inl ⟨e,rfl⟩
    |some f=>exact .inr<|.inr ⟨e,f,rfl⟩
  .subst aP;obtain J|⟨aI,rfl⟩|⟨aI,f,rfl⟩:=a9
   .have bn:(sc=0)=True:=eq_true J;have ba:=Ab J;clear E J;go_enter func46,ntmps46
    go_wp2_with fail
    go_region_held3 (λw'=>jI w' (jA q 0 U)=Q (Y C m sc)/\jI w' ⟨R<|Z w,0,U⟩=Q (V X op)) (first|assumption|go_keep) ((go_at_call 44;refine(Aa B _).mono ?_;rintro e G ⟨rfl,r⟩;rw[r];clear r))
    go_wp2_with (go_at_call 75;refine(Aa ab).mono ?_;rintro e w2 ⟨rfl,b⟩;have W:=(b.cell (p:=(jA q 1 U)) F).trans S)
    go_ret
    have J:=Aa ba;subst J;rw[Aa x,H8 trivial];have j:=AE w2<|jH #[Y C z 0,Y D sm sd] 93;have d:Ai w w2:=t.trans<|b.mono t.size;exact⟨R<|Z w2,rfl,⟨_,_,_,_,_,_,Ag.new w2 _ _,((Aa I).below b NLN).below j NLN,((Aa ak).below b NLN).below j NLN,Oa,M,N,O⟩,d.trans<|j.mono d.size,λlo o l=>FU.mk' (Ag.new w2 _ _) Ho (Aa u lo o l).1 (Aa u lo o l).2⟩
   .clear E;go_enter func46,ntmps46
    go_wp2_with fail
    go_region_held3 (λw'=>jI w' (jA q 0 U)=Q (Y U m sc)/\jI w' ⟨R<|Z w,0,U⟩=Q (V X op)) (first|assumption|go_keep) ((go_at_call 44;refine(Aa B _).mono ?_;rintro e G ⟨rfl,r⟩;rw[r];clear r))
    go_wp2_with (go_at_call 75;refine(Aa ab).mono ?_;rintro e w2 ⟨rfl,b⟩;have W:=(b.cell (p:=(jA q 1 U)) F).trans S)
    go_ret
    rw[Aa x,H8 trivial];have j:=AE w2<|jH #[Y U z sc,Y D sm sd] 93;have d:Ai w w2:=t.trans<|b.mono t.size;exact⟨R<|Z w2,rfl,⟨_,_,_,_,_,_,Ag.new w2 _ _,((Aa I).below b NLN).below j NLN,((Aa ak).below b NLN).below j NLN,Oa,M,N,O⟩,d.trans<|j.mono d.size,λlo o l=>FU.mk' (Ag.new w2 _ _) Ho (Aa u lo o l).1 (Aa u lo o l).2⟩
   .clear E;go_enter func46,ntmps46
    go_wp2_with fail
    go_region_held3 (λw'=>jI w' (jA q 0 U)=Q (Y (Q f) m sc)/\jI w' ⟨R<|Z w,0,U⟩=Q (V X op)) (first|assumption|go_keep) ((go_at_call 44;refine(Aa B _).mono ?_;rintro e G ⟨rfl,r⟩;rw[r];clear r))
    go_wp2_with (go_at_call 75;refine(Aa ab).mono ?_;rintro e w2 ⟨rfl,b⟩;have W:=(b.cell (p:=(jA q 1 U)) F).trans S)
    go_ret
    rw[Aa x,H8 trivial];have j:=AE w2<|jH #[Y (Q f) z sc,Y D sm sd] 93;have d:Ai w w2:=t.trans<|b.mono t.size;exact⟨R<|Z w2,rfl,⟨_,_,_,_,_,_,Ag.new w2 _ _,((Aa I).below b NLN).below j NLN,((Aa ak).below b NLN).below j NLN,Oa,M,N,O⟩,d.trans<|j.mono d.size,λlo o l=>FU.mk' (Ag.new w2 _ _) Ho (Aa u lo o l).1 (Aa u lo o l).2⟩
theorem AcY (B j:Nat):((jA B 0 U):jG).add j=(jA B j U):=Hl
theorem Aaa {b B:Nat}{a:L7}(h:∀j u,a[j]? =Q u->jI w (((jA b 0 U):jG).add j)=Q u)(c:Below B w w')(d:b<B):∀j u,a[j]? =Q u->jI w' (((jA b 0 U):jG).add j)=Q u:=by grind [AcY,Go.RowKit.Below.cell]
theorem Aab (L:L2)(x:Int):Ak L++[V X x]=Ak (L++[x]):=by simp[Ak]
theorem AcZ (ae:Nat)(a:L3)(n c:Nat)(au av aw ax:jF)(P:M1)(i:Be)(q:Nat)(s:Vs)(ay:jG)(w:jB)(az:Ag w ae #[Y a n c,au,av,aw,ax] 56)(aB:SC w a n c P)(h:Gr w q s)(hv:Lk w ay)(h0: 1<=i.op)(B:i.op<=25)(E:AM i.op<=T s.stack)(aD:Pj n (T s.aE) i)(bD:T s.aE<=600)(bE:T s.stack<=200)(a4:i.op≠4)(F:BR (P.map Vl.aC) i s≠0):
  Calls jZ 46 #[jP<|Q<|jA ae 0 U,jM #[V X i.op,V X i.aY],jP<|Q<|jA q 0 U] w λe w'=>AjK w q (AT (P.map Vl.aC) i s) e w':=by
 have a5:=aD;obtain⟨op,aF⟩:=i;obtain⟨aG,aH,aI,aK⟩:=aD;simp only at h0 B E aG aH aI aK;have G:=AE w<|jH #[V X op,V X aF] 80;have aL:=h.below G NLN;have a6:=hv.below G NLN;obtain⟨bF,bG⟩:=Bo<|Ag.new w #[V X op,V X aF] 80;obtain⟨k,rfl⟩:=zo aG;have H:=Ab λI:jB=>Fj op I h0 B;have a7:=PR op;have bH:=Ab aL;obtain⟨t,m,sc,af,sm,sd,ag,ah,i2,l1,a8,bI,a9⟩:=aL;have ba:=ah.len;have hm:=i2.len;obtain⟨bJ,bb⟩:=Bo ag;have bc:=Ab (show ∀lo,lo<=R (Z w)->FU lo w q->(∀d,t=Q d->lo<=jT d)/\∀d,af=Q d->lo<=jT d from λlo aM ai=>(ai.below G NLN).parts ag);obtain⟨z,aN⟩:∃z,m=z+AM op:=⟨m-AM op,Oa⟩
 have aO:=Ab<|ah.take z Oa;have bd:=Ab (Oa:T s.stack-AM op=z);have bK:m<=sc:=l1;have aP: ¬ op=4:=a4;have x:=G.drew;have aQ:=Ab<|Ss ae a n c au av aw ax P ⟨op,(k:Int)⟩ q s ay _ (az.aA x NLN) (aB.below x NLN) (h.below x NLN) (hv.below x NLN) h0 B E a5;have aj:=Ab (show AT (P.map Vl.aC) ⟨op,(k:Int)⟩ s=if BR (P.map Vl.aC) ⟨op,(k:Int)⟩ s=0 then ⟨s.stack.take z,s.aE⟩else ⟨s.stack.take z++[BR (P.map Vl.aC) ⟨op,(k:Int)⟩ s],s.aE⟩ by
  rw[<-Aa bd];unfold AT;rw[H7 aP])
 generalize BR (P.map Vl.aC) ⟨op,(k:Int)⟩ s=b at aQ aj F;have bL:(b==0)=jE:=zA.2 F;have bf:=Ab F;clear F;generalize AM op=pv at H aN a7 E;have e4:(op==4)=jE:=zA.2 aP;have bM:IntKind.i64.wrap ((m:Int)-(pv:Int))=(z:Int):=by
  rw[(Oa:(m:Int)-(pv:Int)=(z:Int))];have:z<=200:=Oa;simp[IntKind.wrap,IntKind.bits,IntKind.signed];omega
 have bN:(z:Int)<=(sc:Int):=Oa;have bO:(0 :Int)<=(z:Int):=Oa;have ak:z<=200:=Oa;have aR:=ag.lt;obtain⟨L,J⟩:∃L,L=s.stack.take z:=⟨_,rfl⟩
 rw[<-J]at aO aj;have bP:=Ab J;have bg:=Ab (show T L=z by rw[J,zg];omega);clear J;have bh:=Ab<|(Aa aO).below BRN.drew NLN;have bi:=Ab<|i2.below BRN.drew NLN;obtain⟨aS,hi,aT,aU,ak⟩:=info_parts If;have bQ:T L<=200:=by rw[Aa bg];omega
 clear h hv a6 az aB aH aI aK ba hm E ah i2;have bj:sc=0\/(¬ (sc=0)/\t=U)\/(¬ (sc=0)/\∃d,t=Q d):=by
  by_cases e:sc=0
  .exact .inl e
  .cases t with
   |none=>exact .inr<|.inl ⟨e,rfl⟩
   |some d=>exact .inr<|.inr ⟨e,d,rfl⟩
 have aV:=Ab λ(c':Nat) (aW:jB) (al:AP aW t z sc L)=>Sr t z c' L aW ⟨al.len,al.aJ,al.cells⟩;obtain ao|⟨bk,rfl⟩|⟨bk,d,rfl⟩:=bj
 case' inl=>
  have bR:(sc=0)=True:=eq_true ao;replace ao:=Ab ao
 all_goals
  clear aN;go_enter func46,ntmps46
  go_wp2_with fail
  first
  |go_region_held3 (λw'=>jI w' (jA q 0 U)=Q (Y t m sc)/\jI w' ⟨R<|Z w,0,U⟩=Q (V X op)) (first|assumption|go_keep) ((go_at_call 44;refine(Aa H _).mono ?_;rintro e I ⟨rfl,o⟩;rw[o];clear o))
  |go_region_held3 (λw'=>jI w' (jA q 0 U)=Q (Y U m sc)/\jI w' ⟨R<|Z w,0,U⟩=Q (V X op)) (first|assumption|go_keep) ((go_at_call 44;refine(Aa H _).mono ?_;rintro e I ⟨rfl,o⟩;rw[o];clear o))
  |go_region_held3 (λw'=>jI w' (jA q 0 U)=Q (Y (Q d) m sc)/\jI w' ⟨R<|Z w,0,U⟩=Q (V X op)) (first|assumption|go_keep) ((go_at_call 44;refine(Aa H _).mono ?_;rintro e I ⟨rfl,o⟩;rw[o];clear o))
  go_wp2_with (go_at_call 75;refine(Aa aQ).mono ?_;rintro e w2 ⟨rfl,C⟩;have aX:=(C.cell (p:=(jA q 1 U)) aR).trans bb)
  have D:q<R (Z w2):=zL aR C.size;have K:=Ab<|(Aa bh).below C NLN;have r:=Ab (AE w2<|jH #[V X b] 3).drew;have bl:=Ab λc'=>Aa aV c' (jR w2) ⟨(Aa K).len,(Aa K).aJ,(Aa K).cells⟩;have bm:=Ab λc'=>Aa aV c' _<|(Aa K).below (Aa r) NLN;have bn:=((Aa r).cell (p:=(jA q 1 U)) D).trans aX;have bo:=G4<|G8 w2<|jH #[V X b] 3;have bp:∀j u,[Value.int X b][j]? =Q u->jI (jR<|jK w2<|jH #[V X b] 3) ((⟨R<|Z w2,0,U⟩:jG).add j)=Q u:=bo;have aZ:R (Z<|jR<|jK w2<|jH #[V X b] 3)=R (Z w2)+1:=Ox;have br:=Ab aZ;clear aZ;go_region_held3 (λw'=>jI w' (jA q 1 U)=Q (Y af sm sd)) (first|assumption|go_keep)
   (first
    |(go_at_call 76;refine(Aa bl _).mono ?_;rintro e f ⟨M,c5,rfl,N,l⟩;have ap:=(l.cell (p:=(jA q 1 U)) D).trans aX;have O:q<R (Z f):=zL D l.size;have S:=AE f<|jH #[V X b] 3;have bs:=S.cell (p:=(jA q 1 U)) O |>.trans ap;have W:=G1 N<|jH #[V X b] 3;have aq:=G4<|G8 f<|jH #[V X b] 3;have aa:R (Z w2)<=R (Z<|jK f<|jH #[V X b] 3):=zB l.size S.size;have a0:Ai w2<|jK f<|jH #[V X b] 3:=(BRN.drew.trans l).trans<|S.mono l.size;have own:=N.lt)
    |(go_at_call 76;refine(Aa bm _).mono ?_;rintro e f ⟨M,c5,rfl,N,l⟩;have O:q<R (Z f):=zL D<|zB (Aa r).size l.size;have ap:=(l.cell (p:=(jA q 1 U))<|zL D (Aa r).size).trans bn;have aq:=Aaa bp l (by rw[Aa br];exact Nat.lt_succ_self _);have aa:R (Z w2)<=R (Z f):=zB (Aa r).size l.size;have W:jO f (R<|Z w2) 3 1 (Y M (T L) c5) (T L)<|Ak L:=Az N (Aa r).size;have a0:Ai w2 f:=(Aa r).trans<|l.mono (Aa r).size;have own:=W.lt)
    |(refine step_append_lies _ rfl _ _ 44 rfl (R (Z w2)) 3 aS (V X 0) 1 8 underlying44 hi aT aU ak rfl Ob (Y M (T L) c5) (T L) (Ak L) rfl W ⟨R (Z f),0,U⟩ 1 1 [V X b] rfl rfl aq He Ob O2 Oa aa _ rfl ?_;intro g7 ab y ac v hat bt;have bu:=(v.cell_far (jA q 1 U) (zL O S.size) λe=>by have bv:R (Z w2)<=q:=(own q e.symm).1;omega).trans bs;have a1:=Ab v;clear v hat)
    |(refine step_append_lies _ rfl _ _ 44 rfl (R (Z w2)) 3 aS (V X 0) 1 8 underlying44 hi aT aU ak rfl Ob (Y M (T L) c5) (T L) (Ak L) rfl W ⟨R (Z w2),0,U⟩ 1 1 [V X b] rfl rfl aq He Ob O2 Oa aa _ rfl ?_;intro g7 ab y ac v hat bt;have bu:=(v.cell_far (jA q 1 U) O λe=>by have bv:R (Z w2)<=q:=(own q e.symm).1;omega).trans ap;have a1:=Ab v;clear v hat)
    |fail)
  all_goals
   go_wp2
   go_ret
   rw[Aa aj,H7<|Aa bf];have a2:=ac;rw[Aab]at a2;have ad:Ai w2 y:=a0.grown (Aa a1) aa λbw bx=>(own bw bx).1;have A:Ai w w2:=x.trans<|C.mono x.size;have ar:=AE y<|jH #[Y (Q<|jA g7 0 U) (T L+1) ab,Y af sm sd] 93;have bz:=(A.trans<|ad.mono A.size).trans<|ar.mono (A.trans<|ad.mono A.size).size;have bA:=(Cd a2 Oa).below ar NLN;have bB:=(((Aa bi).below C NLN).below ad NLN).below ar NLN;have a3:T L+1<=ab/\ab<=maxLen:=by
    obtain⟨_,h0⟩|⟨g,cap,bS,hv,_,_,B,bC,_⟩:=ac.2
    .omega
    .simp only[Value.slice.injEq]at hv;obtain⟨bT,_,rfl⟩:=hv;exact⟨B,bC⟩
   exact⟨R<|Z y,rfl,⟨_,_,_,_,_,_,Ag.new y _ _,bA,bB,a3.1,a8,a3.2,a9⟩,bz,λlo aM ai=>FU.mk' (Ag.new y _ _) (by have:=A.size;have:=ad.size;omega) (λd e=>by cases e;have:=(ac.lt g7 rfl).1;have:=A.size;show lo<=g7;omega) (Aa bc lo aM ai).2⟩
set_option maxHeartbeats 3200000
theorem Aac (b:Nat)(a:L3)(n c:Nat)(d f g j:jF)(P:M1)(i:Be)(q:Nat)(s:Vs)(k:jG)(w:jB)(l:Ag w b #[Y a n c,d,f,g,j] 56)(m:SC w a n c P)(h:Gr w q s)(hv:Lk w k)(h0: 1<=i.op)(o:i.op<=25)(p:AM i.op<=T s.stack)(r:Pj n (T s.aE) i)(t:T s.aE<=600)(u:T s.stack<=200):
  Calls jZ 46 #[jP<|Q<|jA b 0 U,jM #[V X i.op,V X i.aY],jP<|Q<|jA q 0 U] w λe w'=>AjK w q (AT (P.map Vl.aC) i s) e w':=by
 by_cases v:i.op=4\/BR (P.map Vl.aC) i s=0
 all_goals grind [ZZ,AcZ]
theorem CU (w:jB)(B:Nat)(a:R (Z w)=B)(L:L2)(t:TypeId)(c:Nat)(hs:T L<=1048576):AP (jK w<|jH (L.map<|Value.int X).toArray t) (Q<|jA B 0 U) (T L) c L:=by
 subst a;exact⟨rfl,hs,λj b=>⟨R<|Z w,0,rfl,Ox,by
  have h:=(Ag.new w (L.map<|Value.int X).toArray t).cell j;rw[zY,h];simp[b]⟩⟩
theorem AkM (s t:Vs):decide (s=t)=(decide (s.stack=t.stack)&&decide (s.aE=t.aE)):=by
 obtain⟨a,b⟩:=s;obtain⟨c,d⟩:=t;simp
theorem Aad (q r:Nat)(s t:Vs)(w:jB)(h:Gr w q s)(ht:Gr w r t):
  Calls jZ 78 #[jP<|Q<|jA q 0 U,jP<|Q<|jA r 0 U] w λe w'=>e=jN (.bool<|decide (s=t))/\Ai w w':=by
 obtain⟨a,n,c,b,m,d,R,k,l,_⟩:=h;obtain⟨o,n',c',p,u,v,R',x,y,_⟩:=ht;obtain⟨z,q1⟩:=Bo R;obtain⟨A,B⟩:=Bo R';have g:=Ab<|AkM s t;have i:=Ab λf=>WR a o n c n' c' s.stack t.stack (w.drewN f) (k.below (An w f) NLN)<|x.below (An w f) NLN;have j:=Ab λf=>WR b p m d u v s.aE t.aE (w.drewN f) (l.below (An w f) NLN)<|y.below (An w f) NLN;generalize decide (s.stack=t.stack)=b1 at g i;generalize decide (s.aE=t.aE)=b2 at g j;cases b1
 all_goals
  go_enter func78,ntmps78
  go_wp2_with fail
  go_quiet (first
   |(go_at_call 113;with_reducible refine Calls.quiet_of<|Aa i _)
   |(go_at_call 113;with_reducible refine Calls.quiet_of<|Aa j _))
  go_wp2
  go_ret
  rw[Aa g];exact⟨Ox,An _ _⟩
theorem Su (t:Nat)(a b:L3)(n c m d:Nat)(A B C:jF)(I:M2)(k:Nat)(w:jB)(u:Ag w t #[Y a n c,A,Y b m d,B,C] 56)(r:PX w b m d I)(D:k<m)(v: 1<=(I.getD k ⟨0,0⟩).op/\(I.getD k ⟨0,0⟩).op<=25)(s: 0<=(I.getD k ⟨0,0⟩).aY):
  Calls jZ 77 #[jP<|Q<|jA t 0 U,V X k] w λe w'=>∃x c',e=jN (Y x (T<|AI k<|I.getD k ⟨0,0⟩) c')/\AP w' x (T<|AI k<|I.getD k ⟨0,0⟩) c' ((AI k<|I.getD k ⟨0,0⟩).map Int.ofNat)/\(∀o,x=Q o->R (Z w)<=jT o)/\Ai w w':=by
 obtain⟨g,G,E,H,y,z⟩:=r.at k D;subst E;have J:=r.aJ;obtain⟨K,q1,q2,L,M⟩:=Cm u;generalize I.getD k ⟨0,0⟩=i at y z v s;obtain⟨op,f⟩:=i;simp only at y z v s;obtain⟨f,rfl⟩:=zo s;have N:(k:Int)<(m:Int):=Oa;have q:=AE w<|jH #[V X op,V X f] 80;obtain⟨O,P⟩:=Bo<|Ag.new w #[V X op,V X f] 80;clear u r;by_cases h:op=24\/op=25
 .have l:=Ab (show AI k ⟨op,f⟩=[] by unfold AI;rw[H8 h]);rw[Aa l];obtain rfl|rfl:=h
  all_goals
   go_enter func77,ntmps77
   go_wp2
   go_ret
   exact⟨U,0,rfl,⟨rfl,Ob,λj F=>H9 F Ox⟩,λo e=>O5,q⟩
 by_cases p:op=22
 .have l:=Ab (show AI k ⟨op,f⟩=[f] by unfold AI;rw[H7 h,H8 p];simp);rw[Aa l];subst p;go_enter func77,ntmps77
  go_wp2
  go_ret
  exact⟨Q<|jA _ 0 U,_,rfl,CU _ _ Ox [(f:Int)] _ _ Ox,λo e=>(by cases e;exact zU _),q.alloc Ox _⟩
 by_cases h3:op=23
 .have l:=Ab (show AI k ⟨op,f⟩=[k+1,f] by unfold AI;rw[H7 h,H7 p,H8 h3];simp);rw[Aa l];subst h3;go_enter func77,ntmps77
  go_wp2
  go_ret
  exact⟨Q<|jA _ 0 U,_,rfl,CU _ _ Ox [(k:Int)+1,(f:Int)] _ _ Ox,λo e=>(by cases e;exact zU _),q.alloc Ox _⟩
 .have l:=Ab (show AI k ⟨op,f⟩=[k+1] by unfold AI;rw[H7 h,H7 p,H7 h3]);rw[Aa l];have S:(op==24)=jE:=zA.2 λe=>h<|.inl e;have W:(op==25)=jE:=zA.2 λe=>h<|.inr e;have aa:(op==22)=jE:=zA.2 p;have ab:(op==23)=jE:=zA.2 h3;go_enter func77,ntmps77
  go_wp2
  go_ret
  exact⟨Q<|jA _ 0 U,_,rfl,CU _ _ Ox [(k:Int)+1] _ _ Ox,λo e=>(by cases e;exact zU _),q.alloc Ox _⟩
set_option maxHeartbeats 6400000
def ptV (o:N8):jF:= jP (o.map λq=>(jA q 0 U))
structure Te (w:jB) (lo kb:Nat) (K:List M5) (pt:List N8):Prop where
 row:Ag w kb (pt.map ptV).toArray 91
 len:T pt=T K
 low:kb<lo
 dI:∀j s,K.getD j U=Q s->∃q,pt.getD j U=Q q/\Gr w q s/\FU lo w q
 not:∀j,K.getD j U=U->pt.getD j U=U
theorem Te.below {w w':jB}{lo c B:Nat}{K:List M5}{d:List N8}(h:Te w lo c K d)(a:Below B w w')(b:R (Z w)<=B):Te w' lo c K d:=
 ⟨h.row.aA a b,h.len,h.low,λj s f=>by
  obtain⟨q,g,i,h3⟩:=h.dI j s f;exact⟨q,g,i.below a b,h3.below a b⟩,h.not⟩
theorem Te.at {b:Nat}{K:List M5}{a:List N8}(h:Te w lo b K a)(j:Nat)(c:j<T K):jI w (jA b j U)=Q (ptV<|a.getD j U):=by
 have d:j<T a:=by rw[h.len];exact c
 have:=h.row.cell j
 grind
theorem Te.set {w:jB}{lo d:Nat}{K:List M5}{b:List N8}(h:Te w lo d K b)(n q:Nat)(t:Vs)(hs:Gr w q t)(f:FU lo w q):Te (jJ w (jA d n U)<|jP<|Q<|jA q 0 U) lo d (K.set n<|Q t) (b.set n<|Q q) where
 row:=by
  have R:=h.row.set n<|jP<|Q<|jA q 0 U;have e:((b.map ptV).toArray.setIfInBounds n<|jP<|Q<|jA q 0 U)=((b.set n<|Q q).map ptV).toArray:=by
   rw[zZ,List.map_set];rfl
  rw[<-e];exact R
 len:=by simp[h.len]
 low:=h.low
 dI:=λj s a=>by
  by_cases e:n=j
  .subst e;by_cases c:n<T K
   .rw[List.getD,Z2 c]at a;simp only[Option.getD_some,Option.some.injEq]at a;subst a;refine⟨q,?_,hs.bF f _ _ h.low⟩;rw[List.getD,Z2<|by rw[h.len];exact c];rfl
   .rw[List.getD,Z8 O0]at a;cases a
  .rw[List.getD,Z6 e]at a;obtain⟨g,i,k,h3⟩:=h.dI j s a;refine⟨g,?_,k.bF h3 _ _ h.low⟩;rw[List.getD,Z6 e];exact i
 not:=λj a=>by
  by_cases e:n=j
  .subst e;by_cases c:n<T K
   .rw[List.getD,Z2 c]at a;cases a
   .rw[List.getD,Z8<|by simp[h.len];omega];rfl
  .rw[List.getD,Z6 e]at a;rw[List.getD,Z6 e];exact h.not j a
theorem AP.bF {x:L3}{n c lo:Nat}(hi:AP w x n c L)(hx:∀b,x=Q b->lo<=jT b)(p:jG)(v:jF)(k:jT p<lo):AP (jJ w p v) x n c L:=⟨hi.len,hi.aJ,λj f=>by
  obtain⟨a,g,d,h,c0⟩:=hi.cells j f;have i:=hx _ d;refine⟨a,g,d,Q6,?_⟩;rw[G9<|K0 w p a v<|by show a≠jT p;simp only at i;omega];exact c0⟩
theorem Abu (t:Vs)(n:Nat)(ns:N6)(K:List M5)(h:n=T K):G3 t (n ::ns) K=(8,K):=by rw[G3,H8 h]
theorem Abv (t:Vs)(n:Nat)(ns:N6)(K:List M5)(h: ¬ n=T K)(a:K.getD n U=U):G3 t (n ::ns) K=G3 t ns (K.set n<|Q t):=by rw[G3,H7 h,a]
theorem Yn (t:Vs)(n:Nat)(ns:N6)(K:List M5)(u:Vs)(h: ¬ n=T K)(a:K.getD n U=Q u)(he:u=t):G3 t (n ::ns) K=G3 t ns K:=by grind [G3]
theorem Us (t:Vs)(n:Nat)(ns:N6)(K:List M5)(u:Vs)(h: ¬ n=T K)(a:K.getD n U=Q u)(he: ¬ u=t):G3 t (n ::ns) K=(9,K):=by grind [G3]
def GoA (w:jB) (base vb lo kb:Nat) (cs:Array jF) (r:Int×List M5) (e:Ending) (w':jB):Prop:=e=jN (V X r.1)/\∃pt,Te w' lo kb r.2 pt/\Ag w' vb cs 56/\Below base w w'
theorem Af1 (base C g lo q k:Nat)(a b:L3)(n c m d:Nat)(O P:jF)(I:M2)(K:List M5)(ah:List N8)(t:Vs)(w:jB)(l:Ag w C #[Y a n c,O,Y b m d,Y (Q<|jA g 0 U) m m,P] 56)(y:PX w b m d I)(r:k<m)(ai: 1<=(I.getD k ⟨0,0⟩).op/\(I.getD k ⟨0,0⟩).op<=25)(aj: 0<=(I.getD k ⟨0,0⟩).aY)(h:Te w lo g K ah)(hm:T K=m)(z:Gr w q t)(D:FU lo w q)(ab:∀x∈AI k (I.getD k ⟨0,0⟩),x<=m)(aV:base<=C)(av:base<=g)(ak:C≠g):
  Calls jZ 47 #[jP<|Q<|jA C 0 U,V X k,jP<|Q<|jA q 0 U] w λe w'=>GoA w base C lo g #[Y a n c,O,Y b m d,Y (Q<|jA g 0 U) m m,P] (G3 t (AI k<|I.getD k ⟨0,0⟩) K) e w':=by
 have al:=Ab<|Su C a b n c m d O (Y (Q<|jA g 0 U) m m) P I k w l y r ai aj;have aW:=y.aJ;generalize AI k (I.getD k ⟨0,0⟩)=ns at al ab;have aw:=Ab ab;have ax:=Ab hm;have ay:=Ab ak;clear y ai aj r ab hm ak;go_enter func47,ntmps47
 go_wp2_with (first|(go_at_call 77;refine(Aa al).mono ?_;rintro e aX ⟨x,c',rfl,ac,ao,H⟩)|fail)
 have az:=h.row.lt;have aZ:=l.lt;have a0:=ac.aJ;have aB:=Ab ao;have aC:=Ab ac;have aD:=Ab<|h.below H NLN;have aE:=Ab<|l.aA H NLN;have aG:=Ab<|z.below H NLN;have aH:=Ab<|D.below H NLN;have aI:=Ab<|H.mono (Oa:base<=R (Z w));clear ao ac H h l z D;go_loopw [13] (λi wr=>∃ (j:Nat) (o:N6) (s:List M5) (J:List N8),i=V X j/\Hid (ns.drop j=o)/\j<=T ns/\Hid (G3 t o s=G3 t ns K)/\Hid (T s=m)/\Te wr lo g s J/\Ag wr C #[Y a n c,O,Y b m d,Y (Q<|jA g 0 U) m m,P] 56/\Gr wr q t/\FU lo wr q/\AP wr x (T ns) c' (ns.map Int.ofNat)/\Below base w wr) (λi _=>T ns-(RowKit.intOf i).toNat)
 case atStart=>exact⟨0,ns,K,ah,rfl,Ab rfl,zE _,Ab rfl,ax,Aa aD,Aa aE,Aa aG,Aa aH,Aa aC,Aa aI⟩
 case round=>
  obtain⟨j,o,s,J,rfl,S,ad,M,N,h,l,z,D,y,A⟩:=hrel;have a1:=Ab ad;obtain⟨a2,q1,q2,a3,a4⟩:=Cm l;cases o with
  |nil=>
   have e:T ns=j:=by have:=congrArg T<|Aa S;simp at this;omega
   have a5:=Ab e;have a6: ¬ ((j:Int)<(T ns:Int)):=Oa;clear ad e;go_wp2
   go_ret
   rw[<-Aa M];exact⟨rfl,J,h,l,A⟩
  |cons f o=>
   have B:j<T ns:=by
    have:=congrArg T<|Aa S;simp at this;omega
   have ae:ns[j]=f:=by
    have:=congrArg (·[0]?)<|Aa S;simpa[List.getElem?_eq_getElem B]using this
   have ap:=Ab (show ns.drop (j+1)=o by
    have:=congrArg List.tail<|Aa S;simpa using this)
   have W:f<=m:=Aa aw f<|ae ▸ zI B;obtain⟨aK,aL,hx,a7,cx⟩:=y.cells j (by simpa using B);have a8:jI wr ⟨aK,aL+j,U⟩=Q (V X (f:Int)):=by rw[cx];simp[ae]
   have aq:=Ab B;have a9:(j:Int)<(T ns:Int):=Oa;subst hx;clear cx ad ae;by_cases E:f=m
   .have F:=Ab (Abu t f o s<|by rw[Aa N];exact E);have aM:((f:Int)==(m:Int))=jD:=by rw[E];simp
    clear E W B;go_wp2
    go_ret
    rw[<-Aa M,Aa F];exact⟨rfl,J,h,l,A⟩
   .have aM:((f:Int)==(m:Int))=jE:=zA.2 Oa;have ba:(f:Int)<(m:Int):=Oa;have L: ¬ f=T s:=by rw[Aa N];exact E
    have G:=h.at f (by rw[Aa N];omega);cases r:s.getD f U with
    |none=>
     have F:=Ab<|Abv t f o s L r;rw[h.not f r]at G;have aN:=Ab<|h.set f q t z D;have aO:=Ab<|l.aF (p:=(jA g f U)) (Aa ay)<|jP<|Q<|jA q 0 U;have ar:=Ab<|z.bF D (jA g f U) (jP<|Q<|jA q 0 U) h.low;have aP:=Ab<|y.bF (lo:=R<|Z w) (Aa aB) (jA g f U) (jP<|Q<|jA q 0 U) az;have aQ:=Ab<|A.setCell (p:=(jA g f U)) av<|jP<|Q<|jA q 0 U;have bb:=h.row.frozen f;have aR:jI wr (jA g f U)=Q (jP U):=G;clear E W L r B G h l z D y A;go_wp2_with fail
     have af:j<T ns:=Aa aq;go_roundw
     case rel=>exact⟨j+1,o,_,_,O1,ap,af,Ab<|(Aa F).symm.trans<|Aa M,Ab<|by rw[zv];exact Aa N,Aa aN,Aa aO,(Aa ar).1,(Aa ar).2,Aa aP,Aa aQ⟩
     case measure=>simp[RowKit.intOf];omega
    |some u=>
     obtain⟨au,aS,aT,bc⟩:=h.dI f u r;rw[aS]at G;have aa:=Ab<|Aad au q u t wr aT z;have aR:jI wr (jA g f U)=Q (jP<|Q<|jA au 0 U):=G;by_cases he:u=t
     .have F:=Ab<|Yn t f o s u L r he;rw[zJ he]at aa;clear E W L r B G he;go_wp2_with (first|(go_at_call 78;with_reducible refine(Aa aa).mono ?_;rintro e aU ⟨rfl,v⟩)|fail)
      have af:j<T ns:=Aa aq;have ag:=v.mono (show base<=R (Z wr) by have:=A.size;omega);go_roundw
      case rel=>exact⟨j+1,o,s,J,O1,ap,af,Ab<|(Aa F).symm.trans<|Aa M,N,h.below v NLN,l.aA v NLN,z.below v NLN,D.below v NLN,y.below v NLN,A.trans ag⟩
      case measure=>simp[RowKit.intOf];omega
     .have F:=Ab<|Us t f o s u L r he;rw[zH he]at aa;clear E W L r B G he;go_wp2_with (first|(go_at_call 78;with_reducible refine(Aa aa).mono ?_;rintro e aU ⟨rfl,v⟩)|fail)
      have ag:=v.mono (show base<=R (Z wr) by have:=A.size;omega);go_ret
      rw[<-Aa M,Aa F];exact⟨rfl,J,h.below v NLN,l.aA v NLN,A.trans ag⟩
theorem AjL:(jZ.info? 91).map (λi=>(i.zero,i.size,i.bytes))=Q (Q<|jP U,1,8):=Oy
theorem KZ (z:jF)(n:Nat):madeCells #[z] n=(List.replicate n z).toArray:=by
 apply Array.ext
 .rw[size_madeCells];simp
 .intro i a b;simp[madeCells,Nat.mod_one]
def Vw (S:Nat):Vs:=⟨[],List.replicate S 0⟩
def NvA (w:jB) (a b:L3) (n c m d S:Nat) (e:Ending) (w':jB):Prop:=∃pt,e=jN (jP<|Q ⟨R (Z w)+2,0,U⟩)/\Ag w' (R (Z w)+2) #[Y a n c,V X S,Y b m d,Y (Q ⟨R (Z w)+1,0,U⟩) m m,V X 0] 56/\Te w' (R (Z w)+3) (R (Z w)+1) ((List.replicate m U).set 0<|Q<|Vw S) pt/\Ai w w'
theorem Pu (a b:L3)(n c m d:Nat)(S:Nat)(w:jB)(hm: 0<m)(A:m<=1048576)(B:S<=600):
  Calls jZ 17 #[jM #[Y a n c,jc jd S,Y b m d]] w λe w'=>NvA w a b n c m d S e w':=by
 have C:∀w',(Instr.makeSlice 54 (jc jd (m:Int))<|jc jd (m:Int)).run jZ w'= .ok (Y (Q ⟨R<|Z w',0,U⟩) m m) (jK w'<|jH (List.replicate m<|jP U).toArray 91):=λw'=>by
  rw[<-KZ];exact run_make_row' 54 91 (jP U) 8 underlying54 AjL rfl jd jd m Oa Oa w'
 have D:∀w',(Instr.makeSlice 44 (jc jd (S:Int))<|jc jd (S:Int)).run jZ w'= .ok (Y (Q ⟨R<|Z w',0,U⟩) S S) (jK w'<|jH (List.replicate S<|jc jd 0).toArray 3):=λw'=>by
  rw[<-KZ];exact run_make_row' 44 3 (jc jd 0) 8 underlying44 If rfl jd jd S Oa Oa w'
 have E:(0 :Int)<(m:Int):=Oa;have F:=Ab hm;go_enter func17,ntmps17
 go_wp2_with fail
 go_region
 go_wp2_with fail
 refine Mm (P:=λg=>Code.wp _ _ _ _<|jR g) λV i RC h f=>?_;have k:=(SH V).drew;have o:=i.trans<|k.mono i.size;replace RC:=RC.aA k NLN;replace h:=h.aA k NLN;replace f:=f.aA k NLN;generalize jR V=g at o RC h f|-;have G:=f.lt;have q:=(h.alloc<|jH (Array.replicate S<|jc jd 0) 3).alloc<|jH #[Y U 0 0,Y (Q ⟨R<|Z g,0,U⟩) S S] 93;have u:=q.cell 0;rw[show(Array.replicate m<|Value.pointer U)[0]? =Q (jP U) by simp[hm]]at u;have H:=q.frozen 0;obtain⟨_,_,_,I,_⟩:=Cm f;obtain⟨_,_,_,J,_⟩:=Cm<|f.alloc<|jH (Array.replicate S<|jc jd 0) 3;obtain⟨_,_,_,K,_⟩:=Cm<|(f.alloc<|jH (Array.replicate S<|jc jd 0) 3).alloc<|jH #[Y U 0 0,Y (Q ⟨R<|Z g,0,U⟩) S S] 93;have L:jI g ⟨R<|Z w,1,U⟩=Q (jc jd S):=by simpa using RC.cell 1
 have r:=Ab<|K6 h f;clear q f RC h i k;go_region
 all_goals
  go_wp2
  go_ret
  refine To (P:=λV=>NvA _ _ _ _ _ _ _ _ _<|jR<|jJ V _ _) λV i s RS=>?_;have h:=(Aa r).1.aA i NLN;have f:=(Aa r).2.aA i NLN;have v:AP V (Q ⟨R<|Z g,0,U⟩) S S<|List.replicate S 0:=⟨Ox,Oa,λj l=>⟨R<|Z g,0,rfl,s.lt,by rw[s.cell];simp at l;simp[l]⟩⟩
  have x:Te V (R (Z w)+3) (R (Z w)+1) (List.replicate m U)<|List.replicate m U:=⟨by simpa[ptV]using h,Ox,Oa,S4,S4⟩
  have y:=x.set 0 (R (Z g)+1) (Vw S) ⟨U,0,0,_,S,S,RS,⟨rfl,Oa,λj l=>H9 l<|by simp[Vw]⟩,v,NLN,NLN,O2,O2⟩ (FU.mk' RS Oa (λz e=>O5) λz e=>by cases e;show R (Z w)+3<=R (Z g);omega);have t:∀X:jB,Ai X X.drew:=λX=>(Below.refl _ X).drew;exact⟨_,rfl,(f.aF (p:=⟨R (Z w)+1,0,U⟩) P8 _).aA (t _) NLN,y.below (t _) NLN,((o.trans<|i.mono o.size).setCell (p:=⟨R (Z w)+1,0,U⟩) D9 _).drew⟩
def InA (w:jB) (base vb lo kb:Nat) (a b:L3) (n c m d S:Nat) (bd:Nat) (PK:L2) (k:Nat) (i:Be) (K:List M5) (e:Ending) (w':jB):Prop:=
 ∃r,e=jN (V X r)/\Below base w w'/\((K.getD k U=U/\r=2)\/∃s,K.getD k U=Q s/\(((As PK S m k i s).1≠0/\r=(As PK S m k i s).1)\/((As PK S m k i s).1=0/\r=(G3 (As PK S m k i s).2 (AI k i) K).1/\∃pt,Te w' lo kb (G3 (As PK S m k i s).2 (AI k i) K).2 pt/\Ag w' vb #[Y a n c,V X S,Y b m d,Y (Q<|jA kb 0 U) m m,V X ((max bd (max (T s.stack)<|T (As PK S m k i s).2.stack):Nat):Int)] 56)))
theorem Te.bF {w:jB}{lo a:Nat}{K:List M5}{b:List N8}(h:Te w lo a K b)(p:jG)(v:jF)(c:jT p<lo)(d:a≠jT p):Te (jJ w p v) lo a K b:=
 ⟨h.row.aF d v,h.len,h.low,λj s f=>by
  obtain⟨q,g,i,h3⟩:=h.dI j s f;exact⟨q,g,i.bF h3 p v c⟩,h.not⟩
theorem AkO (x y z:Nat):(if (if x<y then (y:Int)else (x:Int))<(z:Int)then (z:Int)else if x<y then (y:Int)else (x:Int))=((max x (max y z):Nat):Int):=Oa
theorem Ut {a S m k:Nat}(h:AF a S m k i=jD)(h0: 0<=i.aY):Pj a S i:=by
 obtain⟨op,b⟩:=i;unfold AF at h;refine⟨h0,λe=>?_,λe=>?_,λe=>?_⟩
 all_goals grind
theorem Mg {a S m k:Nat}(h:AF a S m k i=jD)(b:k<m)(h0: 0<=i.aY):∀x∈AI k i,x<=m:=by
 obtain⟨op,c⟩:=i;simp only at h0;intro x hx;unfold AF at h;unfold AI at hx
 grind
theorem Pv (w0:jB)(h y lo k:Nat)(a b:L3)(n c m d S B:Nat)(P:M1)(I:M2)(K:List M5)(bg:List N8)(a3:jG)(w:jB)(ad:Ag w h #[Y a n c,V X S,Y b m d,Y (Q<|jA y 0 U) m m,V X B] 56)(av:Ai w0 w)(bS:SC w0 a n c P)(bh:PX w0 b m d I)(ak:k<m)(aw: 1<=(I.getD k ⟨0,0⟩).op/\(I.getD k ⟨0,0⟩).op<=25)(J: 0<=(I.getD k ⟨0,0⟩).aY)(L:Te w lo y K bg)(hm:T K=m)(bT:Lk w0 a3)(bi:∀j s,K.getD j U=Q s->T s.stack<=100/\T s.aE=S)(cs:S<=600)(ct:n<=1048576)(df:B<=100)(al:R (Z w0)<=h)(bU:R (Z w0)<=y)(a4:h≠y)(bV:lo<=R (Z w))(ao:h<lo):
  Calls jZ 18 #[jP<|Q<|jA h 0 U,V X k] w λe w'=>InA w (R<|Z w0) h lo y a b n c m d S B (P.map Vl.aC) k (I.getD k ⟨0,0⟩) K e w':=by
 have a5:=bS.below av NLN;have ae:=bh.below av NLN;have hv:=bT.below av NLN;obtain⟨g,W,l,dg,bj,bk⟩:=ae.at k ak;subst l;have dh:=ae.aJ;obtain⟨cu,q1,q2,cv,cw⟩:=Cm ad;have ap:=L.at k (by rw[hm];exact ak);have di:=L.row.lt;have dj:=ad.lt;have cx:=a5.len;have D:=Ab (show ∀f,Ai w f->Ag f h #[Y a n c,V X S,Y (Q<|jA g W U) m d,Y (Q<|jA y 0 U) m m,V X B] 56/\SC f a n c P/\PX f (Q<|jA g W U) m d I/\Te f lo y K bg/\Lk f a3 from λf l=>⟨ad.aA l NLN,a5.below l NLN,ae.below l NLN,L.below l NLN,hv.below l NLN⟩);have bl:=Ab λf l=>Yl h a (Q<|jA g W U) n c m d S (Y (Q<|jA y 0 U) m m) B I k f (Aa D f l).1 (Aa D f l).2.2.1 ak ct Oa aw;have ax:=Ab λ(x:Int) q t f ad ae L=>Af1 (R<|Z w0) h y lo q k a (Q<|jA g W U) n c m d (V X S) (V X x) I K bg t f ad ae ak aw J L hm;have bW:=Ab (show ∀f,Ai w0 f->PX f (Q<|jA g W U) m d I from λf l=>bh.below l NLN);have bX:=Ab av;have bm:n=T P:=cx.symm;clear bS bh bT av;generalize I.getD k ⟨0,0⟩=i at bj bk aw J bl ax;cases hs:K.getD k U with
 |none=>
  rw[L.not k hs]at ap;have bY:jI w (jA y k U)=Q (jP U):=ap;have E:=Ab hs;have cy:(k:Int)<(m:Int):=Oa;have aa:=AE w<|jH #[V X i.op,V X i.aY] 80;clear hs ap ad a5 ae L hv bi hm;go_enter func18,ntmps18
  go_wp2_with fail
  go_region
  all_goals
   go_wp2
   go_ret
   exact⟨2,rfl,aa.drew.mono Oa,.inl ⟨Aa E,rfl⟩⟩
 |some s=>
  obtain⟨q,hq,bZ,b0⟩:=L.dI k s hs;obtain⟨dk,b1⟩:=bi k s hs;rw[hq]at ap;have bY:jI w (jA y k U)=Q (jP<|Q<|jA q 0 U):=ap;have E:=Ab hs;have cy:(k:Int)<(m:Int):=Oa;obtain⟨op,o⟩:=i;simp only at bj bk aw J;obtain⟨a6,a7⟩:=aw;have aa:=(AE w<|jH #[V X op,V X o] 80).drew;have a8:Ag (jR<|jK w<|jH #[V X op,V X o] 80) (R<|Z w) #[V X op,V X o] 80:=⟨(Ag.new w #[V X op,V X o] 80).out⟩
  have ab:=Ab (show ∀f,Ai w f->Gr f q s/\FU lo f q from λf l=>⟨bZ.below l NLN,b0.below l NLN⟩);have b2:=Ab λf l=>AcX ⟨op,o⟩ q s a3 f (Aa ab f l).1 (Aa D f l).2.2.2.2 a6 a7;have b3:=Ab λf l=>Aac h a n c (V X S) (Y (Q<|jA g W U) m d) (Y (Q<|jA y 0 U) m m) (V X B) P ⟨op,o⟩ q s a3 f (Aa D f l).1 (Aa D f l).2.1 (Aa ab f l).1 (Aa D f l).2.2.2.2 a6 a7;have dl:=Ab λf=>Fj op f a6 a7;have F:=Ab (Oa:R (Z w0)<=R (Z w));have b4:=Ab bV;clear hs ap ad a5 ae L hv bi hm hq bZ b0 bV;go_enter func18,ntmps18
  go_wp2_with fail
  go_region
  have bn:R (Z w)<R (Z<|jR<|jK w<|jH #[V X op,V X o] 80):=a8.lt;obtain⟨s1,s2⟩:=Bo a8;have b5:=Ab a8;clear bj bk cu q1 q2 cv cw bY a8;have aq:=Ab<|Aa bl _ aa;clear bl;generalize jR (jK w (jH #[V X op,V X o] 80))=dm at aa bn s1 s2 b5 aq|-;by_cases ay:AF (T P) S m k ⟨op,o⟩=jD
  .have az:AF n S m k ⟨op,o⟩=jD:=by rw[bm];exact ay
   have G:=Ab ay;rw[zS,az]at aq;clear ay az;go_wp2_with (first|(go_at_call 43;with_reducible refine(Aa aq).mono ?_;rintro e w2 ⟨rfl,af⟩)|fail)
   have bo:=aa.trans<|af.mono aa.size;obtain⟨cz,dn⟩:=Aa ab w2 bo;obtain⟨cA,a9,sc,cB,sm,sd,b6,b7,bp,l1,dp,dq,dr⟩:=cz;obtain⟨b8,b9⟩:=Bo b6;have ca:=b7.len;have cb:=bp.len;have cc:=(af.cell (p:=⟨R<|Z w,0,U⟩) bn).trans s1;have cd:=(af.cell (p:=⟨R<|Z w,1,U⟩) bn).trans s2;have cC:=Ab<|(Aa b5).aA af NLN;have ba:=Ab λcD=>Fj op (w2.drewN cD) a6 a7;have bb:=Ab bo;have cE:=Ab bp;have ce:=Ab ca;have cf:=Ab cb;have ds:a9<=200:=Oa;have cg:=PR op;clear bo b6 b7 bp aq af s1 s2 ca cb;by_cases ar:AM op<=T s.stack
   .have cF: ¬ ((a9:Int)<((AM op:Nat):Int)):=by rw[Aa ce]at ar;omega
    have bc:=Ab ar;have ch:=Ab λf l=>Aa b2 f l ar;clear ar b2;generalize AM op=pv at cF ba cg;go_quiet (first|(go_at_call 44;with_reducible refine Calls.quiet_of_same<|Aa ba _)|fail)
    have ag:=Ab<|(Aa bb).trans<|(An w2 nq).mono (Aa bb).size;have c0:(w2.drewN nq).cell? ⟨R<|Z w,0,U⟩=Q (V X op):=cc;have c1:(w2.drewN nq).cell? ⟨R<|Z w,1,U⟩=Q (V X o):=cd;have br:(w2.drewN nq).cell? (jA q 0 U)=Q (Y cA a9 sc):=b8;have d1:(w2.drewN nq).cell? (jA q 1 U)=Q (Y cB sm sd):=b9;have ci:=Ab<|(Aa cE).below (An w2 nq) NLN;have bs:=Ab<|(Aa cC).aA (An w2 nq) NLN;clear cc cd b8 b9;generalize w2.drewN nq=bd at ag c0 c1 br d1 ci bs|-;have bt:=Ut (Aa G) J;have bu:=Ab bt;have bf:=Ab<|Aa ch bd (Aa ag) λe=>⟨J,by have:=bt.2.2.2<|.inr e;simp only at this|-;omega⟩;clear bt ch;by_cases ht:AJ ⟨op,o⟩ s=jD
    .have cj:=Ab ht;rw[ht]at bf;clear ht;go_wp2_with (first|(go_at_call 45;with_reducible refine(Aa bf).mono ?_;rintro e C ⟨rfl,H⟩)|fail)
     have au:=Ab<|(Aa ag).trans<|H.mono (Aa ag).size;have ck:R (Z w)<R (Z bd):=(Aa bs).lt;have e0:=(H.cell (p:=⟨R<|Z w,0,U⟩) ck).trans c0;have e1:=(H.cell (p:=⟨R<|Z w,1,U⟩) ck).trans c1;have cl:=Ab<|(Aa bs).aA H NLN;have cm:q<R (Z bd):=(Aa ab bd<|Aa ag).2.2.1;have cn:=(H.cell (p:=(jA q 0 U)) cm).trans br;have f1:=(H.cell (p:=(jA q 1 U)) cm).trans d1;have co:=Ab<|(Aa ci).below H NLN;clear c0 c1 br d1 H;by_cases h3:op=3/\RZ s.aE o=0
     .have ac:=Ab (show As (P.map Vl.aC) S m k ⟨op,o⟩ s=(6,s) by
       unfold As;rw[zN,H7<|by rw[Aa G];decide,H7<|by show ¬ T s.stack<AM op;have:=Aa bc;omega,H7<|by rw[Aa cj];decide,H8 h3])
      obtain⟨rfl,cp⟩:=h3;obtain⟨r,rfl⟩:=zo J;have aB:r<sm:=by have:=(Aa bu).2.2.2<|.inl rfl;have:=Aa cf;simp only at*;omega
      obtain⟨cG,cH,bv,cI,bw⟩:=(Aa co).at r aB;subst bv;have cq:s.aE.getD r 0=0:=cp;rw[cq]at bw;have cJ:(r:Int)<(sm:Int):=Oa;have cK:(0 :Int)<=(r:Int):=Oa;clear cp cq aB;go_quiet (fail)
      go_wp2
      go_ret
      exact⟨6,rfl,((Aa au).trans<|(An C nq).mono (Aa au).size).mono<|Aa F,.inr ⟨s,Aa E,.inl ⟨by rw[Aa ac];simp,by rw[Aa ac]⟩⟩⟩
     .have aD:=Ab (show As (P.map Vl.aC) S m k ⟨op,o⟩ s=if 100<T (AT (P.map Vl.aC) ⟨op,o⟩ s).stack then (7,s)else (0,AT (P.map Vl.aC) ⟨op,o⟩ s) by
       unfold As;rw[zN,H7<|by rw[Aa G];decide,H7<|by show ¬ T s.stack<AM op;have:=Aa bc;omega,H7<|by rw[Aa cj];decide,H7 h3])
      have cr:((op==3)=jE)\/(op=3/\(s.aE.getD o.toNat 0==0)=jE):=by
       by_cases e3:op=3
       .exact .inr ⟨e3,zA.2 λe=>h3 ⟨e3,e⟩⟩
       .exact .inl (zA.2 e3)
      have bx:=Ab λf l=>Aa b3 f l (Aa bc) (by rw[bm,b1];exact Aa bu) (by rw[b1];exact cs) Oa;obtain⟨t,bz⟩:∃t,t=AT (P.map Vl.aC) ⟨op,o⟩ s:=⟨_,rfl⟩
      rw[<-bz]at aD bx;have dt:=Ab bz;clear h3 bz b3;have cL:Hid<|∀r:Nat,op=3->o=r->r<sm:=Ab (λr e du=>by have:=(Aa bu).2.2.2<|.inl e;have:=Aa cf;simp only at*;omega);obtain⟨r,rfl⟩:=zo J;rw[zS]at cr;obtain e3|⟨rfl,e3⟩:=cr
      .go_quiet (fail)
       have z:=Ab<|(Aa au).trans<|(An C nq).mono (Aa au).size;have c0:(C.drewN nq).cell? ⟨R<|Z w,0,U⟩=Q (V X op):=e0;have c1:(C.drewN nq).cell? ⟨R<|Z w,1,U⟩=Q (V X r):=e1;have bA:=Ab<|(Aa cl).aA (An C nq) NLN;clear e0 e1 cn f1;generalize C.drewN nq=aF at z c0 c1 bA|-;go_wp2_with fail
       refine(Aa bx aF<|Aa z).mono ?_;rintro e u ⟨aG,rfl,aH,aI,aK⟩;have A:=Ab<|(Aa z).trans<|aI.mono (Aa z).size;have aL:=Ab<|aK lo (zB (Aa b4) (Aa z).size) (Aa ab aF<|Aa z).2;have bB:=Ab aH;obtain⟨cM,M,cN,cO,cP,cQ,aM,aN,bC,cS,cT,cU,cV⟩:=aH;obtain⟨cW,cX⟩:=Bo aM;have aO:=aN.len;obtain⟨cY,aP,cZ,c2,c3,c4,aQ,aR,_⟩:=(Aa ab u<|Aa A).1;obtain⟨c5,_⟩:=Bo aQ;have aS:=aR.len;have N:=(Aa D u<|Aa A).1;obtain⟨bD,bE,bG,bH,c6⟩:=Cm N;have c7:=N.frozen 4;have bI:=Ab N;have c8:aG≠h:=by
        have c9:=ao;have da:=(Aa aL).1;omega
       clear aI aK aN bC aR aQ aM N c0 c1 bD bE bG bH;have ah:=Ab aO;have bJ:=Ab aS;clear aO aS;by_cases v: 100<T t.stack
       .have aT:=Ab (show As (P.map Vl.aC) S m k ⟨op,r⟩ s=(7,s) by rw[Aa aD,H8 v]);have bK:(100 :Int)<(M:Int):=by rw[Aa ah]at v;omega
        clear v;go_wp2
        go_ret
        exact⟨7,rfl,(Aa A).mono<|Aa F,.inr ⟨s,Aa E,.inl ⟨by rw[Aa aT];simp,by rw[Aa aT]⟩⟩⟩
       .have aU:=Ab (show As (P.map Vl.aC) S m k ⟨op,r⟩ s=(0,t) by rw[Aa aD,H7 v]);have bK: ¬ ((100 :Int)<(M:Int)):=by rw[Aa ah]at v;omega
        have db:=Ab v;clear v;go_wp2_with fail
        go_region
        rw[AkO];have ai:max B (max aP M)=max B (max (T s.stack)<|T t.stack):=by rw[<-Aa bJ,<-Aa ah]
        generalize max B (max aP M)=mx at ai|-;have bL:=Ab ai;clear ai;have aV:=Ab ((Aa bI).set 4 (V X (mx:Int)));have aW:=(((Aa bX).trans ((Aa A).mono (Aa F))).setCell (p:=(jA h 4 U)) al (V X (mx:Int))).drew;have aX:=(((Aa A).mono (Aa F)).setCell (p:=(jA h 4 U)) al (V X (mx:Int))).drew;have aZ:=(Aa D u (Aa A)).2.2.2.1.bF (jA h 4 U) (V X (mx:Int)) ao λe=>a4 e.symm;have aj:=(Aa bB).bF (Aa aL) (jA h 4 U) (V X (mx:Int)) ao;have O:=(Below.refl (R<|Z<|jJ u (jA h 4 U)<|V X (mx:Int))<|jJ u (jA h 4 U)<|V X (mx:Int)).drew;have a0:Ag (jR<|jJ u (jA h 4 U)<|V X (mx:Int)) h #[Y a n c,V X S,Y (Q<|jA g W U) m d,Y (Q<|jA y 0 U) m m,V X mx] 56:=⟨(Aa aV).out⟩
        have a1:=Ab<|Aa ax mx aG t _ a0 (Aa bW _ aW) (aZ.below O NLN) (aj.1.below O NLN) (aj.2.below O NLN) (Mg (Aa G) ak J) al bU a4;have a2:=Ab aX;clear aW aX aZ aj O a0 aV ax;generalize jR (jJ u (jA h 4 U) (V X (mx:Int)))=dc at a1 a2|-;go_wp2_with fail
        refine(Aa a1).mono ?_;rintro e dd ⟨rfl,bM,bN,bO,bP⟩;go_wp2
        go_ret
        refine⟨_,rfl,(Aa a2).trans bP,.inr ⟨s,Aa E,.inr ⟨by rw[Aa aU],?_⟩⟩⟩;rw[Aa aU];exact⟨rfl,bM,bN,by rw[<-Aa bL];exact bO⟩
      .have aB:r<sm:=Aa cL r rfl rfl;obtain⟨cG,cH,bv,cI,bw⟩:=(Aa co).at r aB;subst bv;have cJ:(r:Int)<(sm:Int):=Oa;have cK:(0 :Int)<=(r:Int):=Oa;generalize s.aE.getD r 0=x at bw e3;clear aB;go_quiet (fail)
       have z:=Ab<|(Aa au).trans<|(An C nq).mono (Aa au).size;have c0:(C.drewN nq).cell? ⟨R<|Z w,0,U⟩=Q (V X 3):=e0;have c1:(C.drewN nq).cell? ⟨R<|Z w,1,U⟩=Q (V X r):=e1;have bA:=Ab<|(Aa cl).aA (An C nq) NLN;clear e0 e1 cn f1;generalize C.drewN nq=aF at z c0 c1 bA|-;go_wp2_with fail
       refine(Aa bx aF<|Aa z).mono ?_;rintro e u ⟨aG,rfl,aH,aI,aK⟩;have A:=Ab<|(Aa z).trans<|aI.mono (Aa z).size;have aL:=Ab<|aK lo (zB (Aa b4) (Aa z).size) (Aa ab aF<|Aa z).2;have bB:=Ab aH;obtain⟨cM,M,cN,cO,cP,cQ,aM,aN,bC,cS,cT,cU,cV⟩:=aH;obtain⟨cW,cX⟩:=Bo aM;have aO:=aN.len;obtain⟨cY,aP,cZ,c2,c3,c4,aQ,aR,_⟩:=(Aa ab u<|Aa A).1;obtain⟨c5,_⟩:=Bo aQ;have aS:=aR.len;have N:=(Aa D u<|Aa A).1;obtain⟨bD,bE,bG,bH,c6⟩:=Cm N;have c7:=N.frozen 4;have bI:=Ab N;have c8:aG≠h:=by
        have c9:=ao;have da:=(Aa aL).1;omega
       clear aI aK aN bC aR aQ aM N c0 c1 bD bE bG bH;have ah:=Ab aO;have bJ:=Ab aS;clear aO aS;by_cases v: 100<T t.stack
       .have aT:=Ab (show As (P.map Vl.aC) S m k ⟨3,r⟩ s=(7,s) by rw[Aa aD,H8 v]);have bK:(100 :Int)<(M:Int):=by rw[Aa ah]at v;omega
        clear v;go_wp2
        go_ret
        exact⟨7,rfl,(Aa A).mono<|Aa F,.inr ⟨s,Aa E,.inl ⟨by rw[Aa aT];simp,by rw[Aa aT]⟩⟩⟩
       .have aU:=Ab (show As (P.map Vl.aC) S m k ⟨3,r⟩ s=(0,t) by rw[Aa aD,H7 v]);have bK: ¬ ((100 :Int)<(M:Int)):=by rw[Aa ah]at v;omega
        have db:=Ab v;clear v;go_wp2_with fail
        go_region
        rw[AkO];have ai:max B (max aP M)=max B (max (T s.stack)<|T t.stack):=by rw[<-Aa bJ,<-Aa ah]
        generalize max B (max aP M)=mx at ai|-;have bL:=Ab ai;clear ai;have aV:=Ab ((Aa bI).set 4 (V X (mx:Int)));have aW:=(((Aa bX).trans ((Aa A).mono (Aa F))).setCell (p:=(jA h 4 U)) al (V X (mx:Int))).drew;have aX:=(((Aa A).mono (Aa F)).setCell (p:=(jA h 4 U)) al (V X (mx:Int))).drew;have aZ:=(Aa D u (Aa A)).2.2.2.1.bF (jA h 4 U) (V X (mx:Int)) ao λe=>a4 e.symm;have aj:=(Aa bB).bF (Aa aL) (jA h 4 U) (V X (mx:Int)) ao;have O:=(Below.refl (R<|Z<|jJ u (jA h 4 U)<|V X (mx:Int))<|jJ u (jA h 4 U)<|V X (mx:Int)).drew;have a0:Ag (jR<|jJ u (jA h 4 U)<|V X (mx:Int)) h #[Y a n c,V X S,Y (Q<|jA g W U) m d,Y (Q<|jA y 0 U) m m,V X mx] 56:=⟨(Aa aV).out⟩
        have a1:=Ab<|Aa ax mx aG t _ a0 (Aa bW _ aW) (aZ.below O NLN) (aj.1.below O NLN) (aj.2.below O NLN) (Mg (Aa G) ak J) al bU a4;have a2:=Ab aX;clear aW aX aZ aj O a0 aV ax;generalize jR (jJ u (jA h 4 U) (V X (mx:Int)))=dc at a1 a2|-;go_wp2_with fail
        refine(Aa a1).mono ?_;rintro e dd ⟨rfl,bM,bN,bO,bP⟩;go_wp2
        go_ret
        refine⟨_,rfl,(Aa a2).trans bP,.inr ⟨s,Aa E,.inr ⟨by rw[Aa aU],?_⟩⟩⟩;rw[Aa aU];exact⟨rfl,bM,bN,by rw[<-Aa bL];exact bO⟩
    .have bQ:AJ ⟨op,o⟩ s=jE:=by simpa using ht
     have ac:=Ab (show As (P.map Vl.aC) S m k ⟨op,o⟩ s=(5,s) by
      unfold As;rw[zN,H7<|by rw[Aa G];decide,H7<|by show ¬ T s.stack<AM op;have:=Aa bc;omega,H8 bQ])
     rw[bQ]at bf;clear ht bQ;go_wp2_with (first|(go_at_call 45;with_reducible refine(Aa bf).mono ?_;rintro e C ⟨rfl,H⟩)|fail)
     go_ret
     exact⟨5,rfl,((Aa ag).trans<|H.mono (Aa ag).size).mono<|Aa F,.inr ⟨s,Aa E,.inl ⟨by rw[Aa ac];simp,by rw[Aa ac]⟩⟩⟩
   .have ac:=Ab (show As (P.map Vl.aC) S m k ⟨op,o⟩ s=(4,s) by unfold As;rw[zN,H7<|by rw[Aa G];decide,H8 (Oa:T s.stack<AM op)]);have de:(a9:Int)<((AM op:Nat):Int):=by rw[Aa ce]at ar;omega
    clear ar;generalize AM op=pv at de ba cg;go_quiet (first|(go_at_call 44;with_reducible refine Calls.quiet_of_same<|Aa ba _)|fail)
    go_wp2
    go_ret
    exact⟨4,rfl,((Aa bb).trans<|(An w2 nq).mono (Aa bb).size).mono<|Aa F,.inr ⟨s,Aa E,.inl ⟨by rw[Aa ac];simp,by rw[Aa ac]⟩⟩⟩
  .have bR:AF (T P) S m k ⟨op,o⟩=jE:=by simpa using ay
   have az:AF n S m k ⟨op,o⟩=jE:=by rw[bm];exact bR
   have G:=Ab (show As (P.map Vl.aC) S m k ⟨op,o⟩ s=(3,s) by unfold As;rw[zN,H8 bR]);rw[zS,az]at aq;clear ay az bR;go_wp2_with (first|(go_at_call 43;with_reducible refine(Aa aq).mono ?_;rintro e w2 ⟨rfl,af⟩)|fail)
   go_ret
   exact⟨3,rfl,(aa.trans<|af.mono aa.size).mono<|Aa F,.inr ⟨s,Aa E,.inl ⟨by rw[Aa G];simp,by rw[Aa G]⟩⟩⟩
end
end Go.Proofs.YtnjpihpohilnjaaGreatDoor
