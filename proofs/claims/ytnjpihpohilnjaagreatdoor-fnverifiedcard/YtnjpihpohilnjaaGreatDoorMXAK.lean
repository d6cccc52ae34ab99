import Derived.Test.YtnjpihpohilnjaaGreatDoorMXAP
open List renaming length->T
open Option renaming none->U,some->Q,some->jg
open Array renaming size->R
open Go renaming World->jB,Value->jF,Addr->jG,TypeId->jV
open Bool renaming true->jD,false->jE
namespace Go.Proofs.YtnjpihpohilnjaaGreatDoor
open Proofs.Tryz
open Value renaming int->V,slice->Y,string->jC
open IntKind renaming i64->X
open World renaming heap->Z,cell?->jI,alloc->jK,drew->jR,frozen?->jY
open Addr renaming mk->jA
open Ending renaming returned->jN
open Proofs.Tryz renaming prog->jZ
open Go.RowKit
set_option maxRecDepth 100000
set_option maxHeartbeats 3200000
set_option linter.unusedVariables false
variable{K:Act->jB->Prop}{ops:Array Oper}{args:Array jF}{b n:Nat}{o:Oper}{P:Program}{E:Prop}{t:jV}{a c d f:jF}{w w':jB}
theorem Ap {g:jF}(R:Ag w b #[a,c,d,f,g] t):jI w (jA b 0 U)=Q a/\jI w (jA b 1 U)=Q c/\jI w (jA b 2 U)=Q d/\jI w (jA b 3 U)=Q f/\jI w (jA b 4 U)=Q g/\∀j,jY w (jA b j U)=jE:=
 ⟨Hz,Hy,by simpa using R.cell 2,by simpa using R.cell 3,by simpa using R.cell 4,λj=>R.frozen j⟩
theorem Aq.drew' {a:L3}{n c:Nat}{ss:L4}(h:Aq w a n c ss):Aq (jR w) a n c ss:=⟨h.len,h.cap,h.aJ,h.bC,h.cells⟩
theorem CM (s:K9):s.toList=[]↔s.size=0:=by
 rw[z7,<-List.length_eq_zero_iff]
 simp_all
def ndV (op num:Int) (text:K9) (an:L3) (nn cn:Nat) (ak:L3) (nk ck:Nat):jF:= .agg #[V X op,V X num,jC text,Y an nn cn,Y ak nk ck]
def Jy (ty:Bool) (x:Nd):Bool:=(decide ((T x.aD:Int)=BY x.op)&&(if x.op=1 then (ty||decide (0<=x.num))&&decide (x.text.size=0)&&decide (T x.aB=0)else if x.op=2 then Co x.text&&decide (x.num=0)&&decide (T x.aB=0)else if x.op=3 then decide (x.num=0\/x.num=1)&&decide (x.text.size=0)&&decide (T x.aB=0)else if x.op=4 then Ay x.aB&&decide (x.num=0)&&decide (x.text.size=0)else if x.op=5 then !ty&&(Ej x.text&&decide (x.num=0)&&decide (T x.aB=0))else if x.op=6 then ty&&(decide (0<=x.num/\x.num<=5)&&decide (x.text.size=0)&&decide (T x.aB=0))else if x.op=7 then ty&&(decide (0<=x.num/\x.num<600)&&decide (x.text.size=0)&&decide (T x.aB=0))else decide (x.num=0)&&decide (x.text.size=0)&&decide (T x.aB=0)))
theorem AcN (x:Nd):Jy jE x=Bq x:=by
 unfold Jy Bq
 grind
theorem MG (ty:Bool)(x:Nd)(an:L3)(nn cn:Nat)(r:L3)(i s:Nat)(w:jB)(C:Aq w an nn cn x.aB)(E:i=T x.aD)(hs:x.text.size<=1048576)(ag:i<=1048576):
  Calls jZ 122 #[ndV x.op x.num x.text an nn cn r i s,.bool ty] w λe w'=>e=jN (.bool<|Jy ty x)/\Ai w w':=by
 have F:=C.len;obtain⟨op,num,text,m,G⟩:=x;simp only at C E hs F|-;have H:=Ag.new w #[V X op,V X num,jC text,Y an nn cn,Y r i s] 170;have D:=AE w<|EQ op num text an nn cn r i s;have ab:R (Z<|jK w<|EQ op num text an nn cn r i s)=R (Z w)+1:=Ox
 have ac:=Ab F;have ad:=Ab E;clear F E;have a:=Ab<|show Jy ty ⟨op,num,text,m,G⟩=(decide ((T G:Int)=BY op)&&(if op=1 then (ty||decide (0<=num))&&decide (text.size=0)&&decide (T m=0)else if op=2 then Co text&&decide (num=0)&&decide (T m=0)else if op=3 then decide (num=0\/num=1)&&decide (text.size=0)&&decide (T m=0)else if op=4 then Ay m&&decide (num=0)&&decide (text.size=0)else if op=5 then !ty&&(Ej text&&decide (num=0)&&decide (T m=0))else if op=6 then ty&&(decide (0<=num/\num<=5)&&decide (text.size=0)&&decide (T m=0))else if op=7 then ty&&(decide (0<=num/\num<600)&&decide (text.size=0)&&decide (T m=0))else decide (num=0)&&decide (text.size=0)&&decide (T m=0)))from rfl;rw[<-Aa ad,<-Aa ac]at a;generalize Jy ty ⟨op,num,text,m,G⟩=ah at a|-;unfold ndV;go_enter func122,ntmps122
 go_wp2_with fail
 obtain⟨c0,c1,c2,c3,c4,c⟩:=Ap H;generalize jK w (EQ op num text an nn cn r i s)=u at*;by_cases v:(i:Int)=BY op
 case neg=>
  have ae:((i:Int)!=BY op)=jD:=zV.2 v;go_region_held3 (λw'=>jI w' ⟨R<|Z w,4,U⟩=Q (Y r i s)/\jI w' ⟨R<|Z w,0,U⟩=Q (V X op)) (go_keep)
   ((go_at_call 139;refine(Sh _ _).mono ?_;rintro e af ⟨rfl,y⟩;rw[y];clear y))
  all_goals
   go_wp2
   go_ret
   exact⟨Af<|by rw[Aa a,zH v];rfl,D.drew⟩
 have ae:((i:Int)!=BY op)=jE:=by rw[v];simp
 have t:=Ab v;clear v;go_region_held3 (λw'=>jI w' ⟨R<|Z w,4,U⟩=Q (Y r i s)/\jI w' ⟨R<|Z w,0,U⟩=Q (V X op)) (go_keep)
  ((go_at_call 139;refine(Sh _ _).mono ?_;rintro e af ⟨rfl,y⟩;rw[y];clear y))
 have g:Ag (jR u) (R<|Z w) #[V X op,V X num,jC text,Y an nn cn,Y r i s] 170:=⟨H.out⟩
 have b:Ai w<|jR u:=D.drew;have j:Aq (jR u) an nn cn m:=(C.below D NLN).drew';have I:R (Z<|jR u)=R (Z w)+1:=ab;clear H D c0 c1 c2 c3 c4 c C ab;generalize jR u=J at g b j I|-;have k:=g.alloc<|.cells #[V X op,V X 0,jC ⟨#[]⟩,Y U 0 0,Y U 0 0] 170;have f:=b.alloc Oa<|.cells #[V X op,V X 0,jC ⟨#[]⟩,Y U 0 0,Y U 0 0] 170;have l:=j.below (AE J<|.cells #[V X op,V X 0,jC ⟨#[]⟩,Y U 0 0,Y U 0 0] 170) NLN;have h:=Ag.new J #[V X op,V X 0,jC ⟨#[]⟩,Y U 0 0,Y U 0 0] 170;rw[I]at h;have ai:R (Z<|jK J<|.cells #[V X op,V X 0,jC ⟨#[]⟩,Y U 0 0,Y U 0 0] 170)=R (Z w)+2:=by simp[I]
 obtain⟨c0,c1,c2,c3,c4,c⟩:=Ap g;have aj:=CM text;by_cases K:op=1
 .subst K;have a:=Ab ((Aa a).trans<|by rw[zJ<|Aa t,H8 rfl,zm]);cases ty
  all_goals go_wp2
  all_goals
   go_ret
   refine⟨Af ?_,b.alloc Oa _⟩;rw[Aa a];have o:((nn:Int)==0)=decide (nn=0):=Q3;clear a g k h b f j l c0 c1 c2 c3 c4 c
   simp_all
   try omega
 by_cases L:op=2
 .subst L;have a:=Ab ((Aa a).trans<|by rw[zJ<|Aa t,H7 Oa,H8 rfl,zm]);cases hq:Co text
  .have d:=Ab hq;clear hq;go_wp2_with (go_at_call 68;refine(Nj _ _ hs).mono ?_;rintro e w' ⟨rfl,n⟩;rw[Aa d,n];clear n)
   all_goals
    go_ret
    refine⟨Af ?_,b.alloc Oa _⟩;rw[Aa a];have hq:=Aa d;have o:((nn:Int)==0)=decide (nn=0):=Q3;clear a g k h b f j l c0 c1 c2 c3 c4 c
    simp_all
    try omega
  .have d:=Ab hq;clear hq;go_wp2_with (go_at_call 68;refine(Nj _ _ hs).mono ?_;rintro e w' ⟨rfl,n⟩;rw[Aa d,n];clear n)
   all_goals
    go_ret
    refine⟨Af ?_,b.alloc Oa _⟩;rw[Aa a];have hq:=Aa d;have o:((nn:Int)==0)=decide (nn=0):=Q3;clear a g k h b f j l c0 c1 c2 c3 c4 c
    simp_all
    try omega
 by_cases M:op=3
 .subst M;have a:=Ab ((Aa a).trans<|by rw[zJ<|Aa t,H7 Oa,H7 Oa,H8 rfl,zm]);go_wp2
  all_goals
   go_ret
   refine⟨Af ?_,b.alloc Oa _⟩;rw[Aa a];have o:((nn:Int)==0)=decide (nn=0):=Q3;clear a g k h b f j l c0 c1 c2 c3 c4 c
   simp_all
   try omega
 by_cases N:op=4
 .subst N;have a:=Ab ((Aa a).trans<|by rw[zJ<|Aa t,H7 Oa,H7 Oa,H7 Oa,H8 rfl,zm]);cases hq:Ay m
  .have d:=Ab hq;clear hq;go_wp2_with (go_at_call 23;refine(AC _ _ _ _ _ l).mono ?_;rintro e w' ⟨rfl,n⟩;rw[Aa d,n];clear n)
   all_goals
    go_ret
    refine⟨Af ?_,b.alloc Oa _⟩;rw[Aa a];have hq:=Aa d;have o:((nn:Int)==0)=decide (nn=0):=Q3;clear a g k h b f j l c0 c1 c2 c3 c4 c
    simp_all
    try omega
  .have d:=Ab hq;clear hq;go_wp2_with (go_at_call 23;refine(AC _ _ _ _ _ l).mono ?_;rintro e w' ⟨rfl,n⟩;rw[Aa d,n];clear n)
   all_goals
    go_ret
    refine⟨Af ?_,b.alloc Oa _⟩;rw[Aa a];have hq:=Aa d;have o:((nn:Int)==0)=decide (nn=0):=Q3;clear a g k h b f j l c0 c1 c2 c3 c4 c
    simp_all
    try omega
 by_cases O:op=5
 .subst O;have a:=Ab ((Aa a).trans<|by rw[zJ<|Aa t,H7 Oa,H7 Oa,H7 Oa,H7 Oa,H8 rfl,zm]);cases ty with
  |true=>
   go_wp2
   all_goals
    go_ret
    refine⟨Af ?_,b.alloc Oa _⟩;rw[Aa a];simp
  |false=>
   cases hq:Ej text
   .have d:=Ab hq;clear hq;go_wp2_with fail
    refine(EP _ _ hs).mono ?_;rintro e w2 ⟨rfl,q⟩;rw[Aa d];have z:=k.aA q NLN;have A:=h.aA q NLN;have B:=f.trans<|q.mono f.size;clear g k h f j l c0 c1 c2 c3 c4 c q;obtain⟨c0,c1,c2,c3,c4,c⟩:=Ap z;obtain⟨P,d1,d2,d3,d4,S⟩:=Ap A;go_wp2
    all_goals
     go_ret
     refine⟨Af ?_,B⟩;rw[Aa a];have hq:=Aa d;have o:((nn:Int)==0)=decide (nn=0):=Q3;clear a z A B b c0 c1 c2 c3 c4 c P d1 d2 d3 d4 S
     simp_all
     try omega
   .have d:=Ab hq;clear hq;go_wp2_with fail
    refine(EP _ _ hs).mono ?_;rintro e w2 ⟨rfl,q⟩;rw[Aa d];have z:=k.aA q NLN;have A:=h.aA q NLN;have B:=f.trans<|q.mono f.size;clear g k h f j l c0 c1 c2 c3 c4 c q;obtain⟨c0,c1,c2,c3,c4,c⟩:=Ap z;obtain⟨P,d1,d2,d3,d4,S⟩:=Ap A;go_wp2
    all_goals
     go_ret
     refine⟨Af ?_,B.setCell (p:=⟨R (Z w)+1,2,U⟩) D9 _⟩;rw[Aa a];have hq:=Aa d;have o:((nn:Int)==0)=decide (nn=0):=Q3;clear a z A B b c0 c1 c2 c3 c4 c P d1 d2 d3 d4 S
     simp_all
     try omega
 by_cases W:op=6
 .subst W;have a:=Ab ((Aa a).trans<|by rw[zJ<|Aa t,H7 Oa,H7 Oa,H7 Oa,H7 Oa,H7 Oa,H8 rfl,zm]);cases ty
  all_goals go_wp2
  all_goals
   go_ret
   refine⟨Af ?_,b.alloc Oa _⟩;rw[Aa a];have o:((nn:Int)==0)=decide (nn=0):=Q3;clear a g k h b f j l c0 c1 c2 c3 c4 c
   simp_all
   try omega
 by_cases aa:op=7
 .subst aa;have a:=Ab ((Aa a).trans<|by rw[zJ<|Aa t,H7 Oa,H7 Oa,H7 Oa,H7 Oa,H7 Oa,H7 Oa,H8 rfl,zm]);cases ty
  all_goals go_wp2
  all_goals
   go_ret
   refine⟨Af ?_,b.alloc Oa _⟩;rw[Aa a];have o:((nn:Int)==0)=decide (nn=0):=Q3;clear a g k h b f j l c0 c1 c2 c3 c4 c
   simp_all
   try omega
 have a:=Ab ((Aa a).trans<|by rw[zJ<|Aa t,H7 K,H7 L,H7 M,H7 N,H7 O,H7 W,H7 aa,zm]);have ak:=zA.2 K;have al:=zA.2 L;have ao:=zA.2 M;have ap:=zA.2 N;have aq:=zA.2 O;have ar:=zA.2 W;have au:=zA.2 aa;go_wp2
 all_goals
  go_ret
  refine⟨Af ?_,b.alloc Oa _⟩;rw[Aa a];have o:((nn:Int)==0)=decide (nn=0):=Q3;clear a g k h b f j l c0 c1 c2 c3 c4 c
  simp_all
  try omega
theorem Vx (x:Nd)(an:L3)(nn cn:Nat)(b:L3)(a c:Nat)(w:jB)(d:Aq w an nn cn x.aB)(f:a=T x.aD)(hs:x.text.size<=1048576)(g:a<=1048576):
  Calls jZ 122 #[ndV x.op x.num x.text an nn cn b a c,.bool jE] w λe w'=>e=jN (.bool<|Bq x)/\Ai w w':=by grind [AcN,MG]
def VG (x:Nd):Bool:=
 if x.op=1 then decide (0<=x.num)&&decide (x.text.size=0)&&decide (T x.aB=0)
 else if x.op=2 then Co x.text&&decide (x.num=0)&&decide (T x.aB=0)
 else if x.op=3 then decide (x.num=0\/x.num=1)&&decide (x.text.size=0)&&decide (T x.aB=0)
 else if x.op=4 then Ay x.aB&&decide (x.num=0)&&decide (x.text.size=0)
 else if x.op=5 then Ej x.text&&decide (x.num=0)&&decide (T x.aB=0)
 else if x.op=6\/x.op=7 then jE
 else decide (x.num=0)&&decide (x.text.size=0)&&decide (T x.aB=0)
theorem QK (x:Nd):Bq x=(decide ((T x.aD:Int)=BY x.op)&&VG x):=rfl
theorem BO (R:Ag w b #[a,c,d,f] t):jI w (jA b 0 U)=Q a/\jI w (jA b 1 U)=Q c/\jI w (jA b 2 U)=Q d/\jI w (jA b 3 U)=Q f/\∀j,jY w (jA b j U)=jE:=
 ⟨Hz,Hy,by simpa using R.cell 2,by simpa using R.cell 3,λj=>R.frozen j⟩
structure Po (w:jB) (a:L3) (n c:Nat) (L:L9):Prop where
 len:T L=n
 aJ:n<=1048576
 bC:∀s∈L,s.name.size<=1048576
 cells:∀j,(h:j<T L)->∃b off,a=Q (jA b off U)/\b<R (Z w)/\jI w ⟨b,off+j*4,U⟩=Q (V X L[j].aC)/\jI w ⟨b,off+j*4+1,U⟩=Q (jC L[j].name)/\jI w ⟨b,off+j*4+2,U⟩=Q (V X L[j].cond)/\jI w ⟨b,off+j*4+3,U⟩=Q (V X L[j].aG)
theorem Po.below {B:Nat}{a:L3}{c:Nat}{L:L9}(h:Po w a n c L)(d:Below B w w')(m:R (Z w)<=B):Po w' a n c L:=
 ⟨h.len,h.aJ,h.bC,λj i=>by
  obtain⟨b,f,k,l,c0,c1,c2,c3⟩:=h.cells j i;have g:b<B:=Oa;exact⟨b,f,k,zL l d.size,(d.cell (p:=⟨b,f+j*4,U⟩) g).trans c0,(d.cell (p:=⟨b,f+j*4+1,U⟩) g).trans c1,(d.cell (p:=⟨b,f+j*4+2,U⟩) g).trans c2,(d.cell (p:=⟨b,f+j*4+3,U⟩) g).trans c3⟩⟩
theorem If:(jZ.info? 3).map (λi=>(i.zero,i.size,i.bytes))=Q (Q<|V X 0,1,8):=Oy
def Ak (L:L2):L7:=L.map<|Value.int X
theorem DP (w:jB)(v:jF)(t:jV)(b:Nat)(a:b=R (Z w)):∀j u,([v]:L7)[j]? =Q u->jI (jK w<|.cells #[v] t) (((jA b 0 U):jG).add j)=Q u:=λj u h=>by
 subst a;have c:j=0:=by
  have:=(zP.1 h).1;simp at this;exact this
 subst c;rw[<-h];simp[Addr.add]
theorem Ag.grown {a:Array jF}{row:N8}(h:Ag w b a t)(hg:w.grownBy w' row)(c:Q b=row->False):Ag w' b a t:=⟨(hg.block b h.lt c).trans h.out⟩
structure AP (w:jB) (a:L3) (n c:Nat) (L:L2):Prop where
 len:T L=n
 aJ:n<=1048576
 cells:∀j,(h:j<T L)->∃b off,a=Q (jA b off U)/\b<R (Z w)/\jI w ⟨b,off+j,U⟩=Q (V X L[j])
theorem AP.below {B:Nat}{a:L3}{c:Nat}{L:L2}(h:AP w a n c L)(d:Below B w w')(l:R (Z w)<=B):AP w' a n c L:=
 ⟨h.len,h.aJ,λj g=>by
  obtain⟨b,f,i,k,c0⟩:=h.cells j g;exact⟨b,f,i,zL k d.size,(d.cell (p:=⟨b,f+j,U⟩) (Oa:b<B)).trans c0⟩⟩
theorem TL (A B:L2)(a:T A=T B):A=B↔∀j,(h:j<T A)->A[j]=B[j]'(a ▸ h):=by grind [List.ext_getElem]
theorem An (w:jB)(m:Nat):Ai w<|w.drewN m:=by exact⟨(SH w).os,(SH w).tape,(SH w).output,NLN,λ_ _=>rfl⟩
theorem QP (h:∃m,w'=w.drewN m):∃m,jR w'=w.drewN m:=by
 obtain⟨m,rfl⟩:=h;exact⟨m+1,rfl⟩
theorem WR (a b:L3)(n c m d:Nat)(A B:L2)(w:jB)(f:AP w a n c A)(g:AP w b m d B):
  Calls jZ 113 #[Y a n c,Y b m d] w λe w'=>e=jN (.bool<|decide (A=B))/\∃m,w'=w.drewN m:=by
 have s1:=f.aJ;have z:=Ab f.len;have J:=Ab g.len;by_cases l:n=m
 .have K:((n:Int)!=(m:Int))=jE:=by rw[l];simp
  have p:=Ab (show T A=T B by rw[f.len,g.len,l]);have C:=Ab<|TL A B<|Aa p;have D:=Ab l;go_enter func113,ntmps113
  go_wp2_with fail
  go_loopw [13] (λi wr=>∃k:Nat,k<=n/\i=V X k/\(∃m,wr=w.drewN m)/\∀j,(h:j<T A)->j<k->A[j]=B[j]'(Aa p ▸ h)) (λi _=>n-(intOf i).toNat)
  case atStart=>exact⟨0,Oa,rfl,⟨0,rfl⟩,λj _ h=>H9 h Oa⟩
  case round=>
   obtain⟨k,aa,rfl,E,L⟩:=hrel;have q:=Ab E;have F:Ai w wr:=by obtain⟨M,rfl⟩:=E;exact An w M
   have G:=Ab L;by_cases r:k<n
   .have ab:(k:Int)<(n:Int):=Oa;have ac:(k:Int)<(m:Int):=Hx;have H:k<T A:=by rw[Aa z];exact r
    have N:k<T B:=by rw[Aa J,<-Aa D];exact r
    obtain⟨b1,ad,rfl,ae,c1⟩:=(f.below F NLN).cells k H;obtain⟨b2,af,rfl,ag,c2⟩:=(g.below F NLN).cells k N;have s:=Ab<|show A[k]≠B[k]->decide (A=B)=jE from λe=>zH λO=>e<|(Aa C).1 O k H;have t:=Ab (show A[k]=B[k]->∀j,(h:j<T A)->j<k+1->A[j]=B[j]'(Aa p ▸ h)from λe j u ah=>by
     by_cases P:j=k
     .subst P;exact e
     .exact Aa G j u Oa)
    have I:=Ab r;generalize A[k]=x at c1 s t;generalize B[k]=y at c2 s t;by_cases o:x=y
    .have S:(x !=y)=jE:=by rw[o];simp
     have W:=Ab<|Aa t o;go_wp2_with fail
     go_region
     go_wp2
     go_roundw
     case rel=>exact⟨k+1,Aa I,O1,QP<|Aa q,Aa W⟩
     case measure=>have:=Aa I;simp[intOf];omega
    .have S:(x !=y)=jD:=zV.2 o;go_wp2_with fail
     go_region
     go_wp2
     go_ret
     exact⟨Af (Aa<|Ab<|Aa s o).symm,QP<|Aa q⟩
   .have e:k=n:=Oa;subst e;have v:=Ab<|show decide (A=B)=jD from zJ<|(Aa C).2 λj u=>Aa G j u<|H2<|Aa z;go_wp2
    go_ret
    exact⟨Af (Aa v).symm,Aa q⟩
 .have K:((n:Int)!=(m:Int))=jD:=zV.2 Oa;have v:=Ab (show decide (A=B)=jE from zH λe=>l<|by rw[<-f.len,<-g.len,e]);go_enter func113,ntmps113
  go_wp2
  go_ret
  exact⟨Af (Aa v).symm,0,rfl⟩
theorem LQ {a:Act}{Q:Exit->Act->jB->Prop}(g:o.guard=U)(f:FuncId)(b:Func)(i:P.funcs[f]? =jg b)(j:(b.name== "runtime.NumGoroutine")=jE)(d:b.body.isNone=jE)(x:Operand)(k:Array jV)
  (l:o.op= .call { callee:= .value (.func f),args:=#[x],argTypes:=k })(c:jF)(hx:a.eval x=c)
  (R:jF->jB->Prop)(hc:Calls P f #[c] w λe w'=>∃v,e=jN v/\R v w')(h:∀v w',R v w'->K (a.put o.dst v) w'):
  if Region.wanted o (yielded ops a.tmps)=jD then Oper.wp P o a w K Q else E:=by
 have m:Region.wanted o (yielded ops a.tmps)=jD:=by simp[Region.wanted,g]
 rw[if_pos m];unfold Oper.wp;have n:(execOp a.eval o).run P w= .ok (.enter f #[c]) w:=by
  subst hx;have p:b.name≠ "runtime.NumGoroutine" :=by simpa using j
  have q:(callFunc f #[a.eval x]).run P w= .ok (.enter f #[a.eval x]) w:=by
   have h3:b.body≠U:=λe=>by rw[e]at d;cases d
   simp[callFunc,i,p,h3]
  simpa[execOp,l,resolve,invoke,Act.eval,Result.andThen,go_sem]using q
 rw[n,Oper.upon_enter];refine hc.mono ?_;rintro e w' ⟨v,rfl,r⟩;exact h v w' r
theorem GH {f:FuncId}{A:Ending->jB->Prop}(h:Calls P f args w A)(a:∀e w',A e w'->∃v,e=jN v):Calls P f args w λe w'=>∃v,e=jN v/\A (jN v) w':=by grind [Go.Calls.mono]
theorem Bi {v u:jF}(h:jN v=jN u):v=u:=by cases h;rfl
theorem Bk {a:Act}{Q:Exit->Act->jB->Prop}(i:o.guard=U)(f:FuncId)(b:Func)(j:P.funcs[f]? =jg b)(k:(b.name== "runtime.NumGoroutine")=jE)(g:b.body.isNone=jE)(x y:Operand)(l:Array jV)
  (m:o.op= .call { callee:= .value (.func f),args:=#[x,y],argTypes:=l })(c d:jF)(hx:a.eval x=c)(hy:a.eval y=d)
  (R:jF->jB->Prop)(hc:Calls P f #[c,d] w λe w'=>∃v,e=jN v/\R v w')(h:∀v w',R v w'->K (a.put o.dst v) w'):
  if Region.wanted o (yielded ops a.tmps)=jD then Oper.wp P o a w K Q else E:=by
 have n:Region.wanted o (yielded ops a.tmps)=jD:=by simp[Region.wanted,i]
 rw[if_pos n];unfold Oper.wp;have p:(execOp a.eval o).run P w= .ok (.enter f #[c,d]) w:=by
  subst hx hy;have q:b.name≠ "runtime.NumGoroutine" :=by simpa using k
  have r:(callFunc f #[a.eval x,a.eval y]).run P w= .ok (.enter f #[a.eval x,a.eval y]) w:=by
   have h3:b.body≠U:=λe=>by rw[e]at g;cases g
   simp[callFunc,j,q,h3]
  simpa[execOp,m,resolve,invoke,Act.eval,Result.andThen,go_sem]using r
 rw[p,Oper.upon_enter];refine hc.mono ?_;rintro e w' ⟨v,rfl,s⟩;exact h v w' s
end Go.Proofs.YtnjpihpohilnjaaGreatDoor
