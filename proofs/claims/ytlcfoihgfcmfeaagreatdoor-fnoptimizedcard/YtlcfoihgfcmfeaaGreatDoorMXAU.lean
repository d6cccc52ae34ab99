import Derived.Test.YtlcfoihgfcmfeaaGreatDoorMXAS
import Derived.RangeFuncNested
import Derived.RangeFuncBound
import Derived.SevenTiedAt
import Derived.OpenVars
import Derived.LaidMore
import Derived.Stop.LaidErr
open Option renaming none->V,none->jc,some->Z
open List renaming length->Y
open Array renaming size->R,size->jh
open Go renaming World->jD,Value->jF,Addr->jH,TypeId->jR
open Bool renaming true->jG,false->jI
namespace Go.Proofs.YtlcfoihgfcmfeaaGreatDoor
open Proofs.Tryz
open Value renaming int->T,int->ja,slice->X,slice->jd,string->jA,iface->jJ,agg->jL,pointer->jQ,tuple->jS,nilIface->jT
open IntKind renaming i64->U
open World renaming heap->Q,cell?->jE,alloc->jK,drew->jV
open Addr renaming mk->jB,block->jW
open Obj renaming cells->jC
open Ending renaming returned->jN
open Proofs.Tryz renaming prog->jZ
set_option linter.unusedVariables false
set_option maxRecDepth 100000
set_option maxHeartbeats 6400000
variable{cs:Array jF}{a:Ending}{o2:Ev}{op:Int}{p:List MemPlace}{b N:Nat}{S:jR}{u:jF}{v:Vv}{w w':jD}
section
open Go.RowKit Go.Extern.Stop Go.Stop Go.Extern
end
section
open Go.RowKit
def Blk(w:jD)(a:jH):Prop:=∃c t,(Q w)[jW a]?=Z (jC c t (0,0))
end
section
open Go.RowKit
variable{aS aO aZ aW:jH}{G:Nat->Prop}
theorem SV.form{o:Ev}(h:SV G aS aO aZ aW o w a w'):∃x e,a=jN (jS #[x,e])/\SV G aS aO aZ aW o w (jN<|jS #[x,e]) w':=by obtain⟨h1,h2⟩:=h;cases o with|ok v=>obtain⟨x,rfl,h3⟩:=h1;exact⟨_,_,rfl,⟨_,rfl,h3⟩,h2⟩|err c=>obtain⟨x,rfl,h3⟩:=h1;exact⟨_,_,rfl,⟨_,rfl,h3⟩,h2⟩
theorem SV.undrew{o:Ev}(h:SV G aS aO aZ aW o (jV w) a w'):SV G aS aO aZ aW o w a w':=⟨h.1,BRN.drew.trans h.2⟩
theorem Afp(op:Int)(x y:jF)(v u:Vv)(t:Int)(w:jD)(hs:Cx w aS aO aZ aW)(hx:Vl G w x v)(hy:Vl G w y u)(ht:nz (Ba op [v.ty,u.ty])=Z t)(hc:op≠25/\op≠26)(M:∀b,R (Q w)<=b->G b):Calls jZ 161 #[T U op,x,y] w (SV G aS aO aZ aW (BI op v u) w):=by
 have N:=Afi;have O:=ZM;have P:=Aiz;have I:((11<=op/\op<=15\/op=21\/op=22)/\v.ty=2/\u.ty=2)\/((op=16\/op=17\/op=18\/op=24)/\v.ty=4/\u.ty=4)\/((op=19\/op=20)/\v.ty=u.ty)\/(op=23/\v.ty=3/\u.ty=4):=by obtain h|h|h|h|h|h|h:=BP ht<;>omega
 have g:=(IQ w).drew;obtain⟨i,d,j⟩|⟨i,d,j⟩|⟨i,d⟩|⟨rfl,d,j⟩:=I
 .obtain⟨a,rfl⟩:=Vv.bI d;obtain⟨b,rfl⟩:=Vv.bI j;obtain⟨rfl,J⟩:x=jJ 196 (T U a)/\Cf a:=hx;obtain⟨rfl,K⟩:y=jJ 196 (T U b)/\Cf b:=hy;have c:=Ab<|Afl (G:=G) op a b (jV w) (hs.below g NLN) J K Oa;have f:∀k:Int,(k=16\/k=17\/k=18\/k=19\/k=20\/k=23\/k=24)->(op==k)=jI:=λk I=>zA.2 Oa;have S:=f 19 Oa;have W:=f 20 Oa;have aa:=f 23 Oa;have ab:=f 16 Oa;have ac:=f 17 Oa;have ad:=f 18 Oa;have ae:=f 24 Oa;go_enter func161,ntmps161;go_wp2_with fail;go_region_held3 (λ_=>True) (trivial) ((go_at_call 185;refine(Aa c).mono ?_;intro B C l;obtain⟨D,e1,rfl,m⟩:=l.form;have E:=Ab m;clear m l));all_goals go_wp2;exact K8 (v:=jS #[D,e1]) Hc rfl (Aa E).undrew
 .obtain⟨a,rfl⟩:=Vv.aR d;obtain⟨b,rfl⟩:=Vv.aR j;obtain⟨s,z,A,rfl,hS⟩:=hx;obtain⟨n,o,p,rfl,r⟩:=hy;have c:=Ab<|Afm op s z A a n o p b (jV w) (hs.below g NLN) (hS.1.below g NLN) (r.1.below g NLN) hS.2.1 M i;obtain rfl|rfl|rfl|rfl:=i;all_goals go_enter func161,ntmps161;go_wp2_with fail;go_region_held3 (λ_=>True) (trivial) ((go_at_call 184;refine(Aa c).mono ?_;intro B C l;obtain⟨D,e1,rfl,m⟩:=l.form;have E:=Ab m;clear m l));all_goals go_wp2;exact K8 (v:=jS #[D,e1]) Hc rfl (Aa E).undrew
 .cases v;case' bool a=>obtain rfl:x=jJ 140 (.bool a):=hx;obtain⟨b,rfl⟩:=Vv.bC (v:=u) d.symm;obtain rfl:y=jJ 140 (.bool b):=hy;have F:=AbU a;have c:=Ab<|TJ a b w
  case' int a=>obtain⟨rfl,J⟩:x=jJ 196 (T U a)/\Cf a:=hx;obtain⟨b,rfl⟩:=Vv.bI (v:=u) d.symm;obtain⟨rfl,K⟩:y=jJ 196 (T U b)/\Cf b:=hy;have F:=Afn a;have c:=Ab<|TM a b w
  case' text a=>obtain rfl:x=jJ 199 (jA a):=hx;obtain⟨b,rfl⟩:=Vv.cA (v:=u) d.symm;obtain rfl:y=jJ 199 (jA b):=hy;have F:=AbV a;have c:=Ab<|TN a b w
  case' set a=>obtain⟨s,z,A,rfl,hS⟩:=hx;obtain⟨b,rfl⟩:=Vv.aR (v:=u) d.symm;obtain⟨n,o,p,rfl,r⟩:=hy;have F:=Afo s z A;have c:=Ab<|TQ s z A a n o p b w hS.1 r.1
  all_goals unfold Xa at c;obtain rfl|rfl:=i
  all_goals
   first|rw[WP]|rw[WQ]
   generalize CJ _ _=q at c|-;go_enter func161,ntmps161;go_wp2_with fail;refine(Aa c).mono ?_;rintro B C ⟨rfl,H⟩;go_wp2;exact K8 (v:=jS #[jJ 140<|.bool _,jT]) Hc rfl ⟨⟨_,rfl,rfl⟩,H⟩
 obtain⟨a,rfl⟩:=Vv.cA d;obtain⟨b,rfl⟩:=Vv.aR j;obtain rfl:x=jJ 199 (jA a):=hx;obtain⟨n,o,p,rfl,r⟩:=hy;have c:=Ab<|SY n o p b a (jV w)<|r.1.below g NLN;have L:=Ab<|WR a b;generalize@decide (a∈b) (Classical.propDecidable _)=q at c L;go_enter func161,ntmps161;go_wp2_with fail;go_region_held3 (λ_=>True) (trivial) ((go_at_call 183;refine(Aa c).mono ?_;rintro B C ⟨rfl,H⟩));all_goals go_wp2_with fail;refine K8 (v:=jS #[jJ 140<|.bool q,jT]) Hc rfl ?_;rw[Aa L];exact⟨⟨_,rfl,rfl⟩,BRN.drew.trans H⟩
end
section
open Go.RowKit
variable{aS aO aZ aW:jH}{G:Nat->Prop}
def Pv(G:Nat->Prop)(aS aO aZ aW:jH)(o:Ev)(w:jD)(r:Ending)(w':jD):Prop:=(match o with|.ok v=>∃x,r=jN (jS #[x,jT])/\Vl G w' x v|.err c=>∃x e,r=jN (jS #[x,e])/\JJ aS aO aZ aW w' e c)/\Ak w w'
theorem Pv.form{o:Ev}(h:Pv G aS aO aZ aW o w a w'):∃x e,a=jN (jS #[x,e])/\Pv G aS aO aZ aW o w (jN<|jS #[x,e]) w':=by obtain⟨h1,h2⟩:=h;cases o with|ok v=>obtain⟨x,rfl,h3⟩:=h1;exact⟨_,_,rfl,⟨_,rfl,h3⟩,h2⟩|err c=>obtain⟨x,e,rfl,h3⟩:=h1;exact⟨_,_,rfl,⟨_,_,rfl,h3⟩,h2⟩
theorem Pv.dD{o:Ev}{a w':jD}{b:Ending}(h:Pv G aS aO aZ aW o a b w')(c:Ak w a):Pv G aS aO aZ aW o w b w':=⟨h.1,c.trans<|h.2.mono c.size⟩
theorem JJ.form{v:jF}{c:Int}(h:JJ aS aO aZ aW w v c):∃u,v=jJ 245 u:=by obtain⟨_,b,d,a,h2,_⟩:=h;exact⟨_,h2⟩
def JK(P:jD->Prop):Prop:=∀W W',P W->Ak W W'->P W'
def VC(G:Nat->Prop)(aS aO aZ aW:jH)(eb:Nat)(P:jD->Prop)(x:jF)(o:Ev):Prop:=∀W,P W->Calls jZ 71 #[jQ<|Z<|jB eb 0 V,x] W (Pv G aS aO aZ aW o W)
def Afq(op:Int)(o:Ev):Ev:=match o with|.ok v=>Ie op v|.err c=>.err c
theorem TS(r:Nat)(P:jD->Prop)(h:JK P)(hS:∀a,P a->Cx a aS aO aZ aW)(i op:Int)(d:jR)(f:jF)(g:Ev)(J:Hid<|VC G aS aO aZ aW r P (jJ d f) g)(ht:∀v,g=.ok v->∃t,nz (Ba op [v.ty])=Z t)(a:jD)(K:P a):Calls jZ 121 #[jQ<|Z<|jB r 0 V,jL #[T U i,T U op,jJ d f]] a (Pv G aS aO aZ aW (Afq op g) a):=by have L:=Ah.new a #[T U i,T U op,jJ d f] 168;have j:=Ar a<|jC #[T U i,T U op,jJ d f] 168;have s:=h a _ K j;have M:=Ab ht;have N:=Ab h;have O:=Ab hS;clear ht h hS;go_enter func121,ntmps121;go_wp2_with fail;refine(Aa J _ s).mono ?_;rintro u w ⟨b,k⟩;have l:=j.trans<|k.mono j.size;have A:=L.aB k NLN;have c1:jE w ⟨R<|Q a,1,V⟩=Z (T U op):=A.cell 1;have S:=Aa N _ _ s k;cases g with|err c=>obtain⟨x,e,rfl,B⟩:=b;obtain⟨W,rfl⟩:=B.form;dsimp only;go_wp2;exact K8 (v:=jS #[jT,jJ 245 W]) (by simp[results,results121,go_sem]) rfl ⟨⟨_,_,rfl,B⟩,l⟩|ok v=>obtain⟨x,rfl,m⟩:=b;obtain⟨tt,C⟩:=Aa M v rfl;have D:=Ab<|AiB op x v tt w (Aa O _ S) m C;obtain⟨ae,af,rfl⟩:=m.form;clear m C;dsimp only;go_wp2_with fail;refine(Aa D).mono ?_;rintro u w2 ⟨b,E⟩;have n:=l.trans<|E.mono l.size;have aa:=A.aB E NLN;have ag:jE w2 ⟨R<|Q a,0,V⟩=Z (T U i):=aa.cell 0;generalize he:Ie op v=o2 at b;have F:=Ab<|show Afq op (.ok v)=o2 from he;clear he D;cases o2 with|ok z=>obtain⟨y,rfl,hz⟩:=b;obtain⟨ty,ab,rfl⟩:=hz.form;dsimp only;go_wp2_with fail;refine K8 (v:=jS #[jJ ty ab,jT]) (by simp[results,results121,go_sem]) rfl ?_;rw[Aa F];exact⟨⟨_,rfl,hz⟩,n⟩|err c=>obtain⟨y,rfl,o,p⟩:=b;obtain⟨q,hq⟩:=It (aS:=aS) (aO:=aO) (aZ:=aZ) (aW:=aW) (c:=c) ⟨o,p⟩;have H:=Ab<|L7 (L7 o p) hq;rw[hq];clear hq o p;dsimp only;go_wp2_with fail;refine(WT i q _).mono ?_;rintro u ah ⟨⟨I,rfl,ac⟩,ad⟩;dsimp only;go_wp2_with fail;refine K8 (v:=jS #[jT,jJ 245<|jQ<|Z<|jB I 0 V]) (by simp[results,results121,go_sem]) rfl ?_;rw[Aa F];exact⟨⟨_,_,rfl,(Aa H).1,I,i,q,rfl,ac,(Aa H).2⟩,n.trans<|ad.mono n.size⟩
noncomputable def AkQ(op:Int)(o1 o2:Ev):Ev:=match o1 with
 |.ok v=>if GJ op v then .ok v else match o2 with|.ok u=>if op=25\/op=26 then .ok u else BI op v u|.err c=>.err c
 |.err c=>.err c
theorem Afr(h:GJ op v=jG):AkQ op (.ok v) o2=.ok v:=K1 h
theorem AiC(h:GJ op v=jI):AkQ op (.ok v) o2=(match o2 with|.ok u=>if op=25\/op=26 then .ok u else BI op v u|.err c=>.err c):=K0 (by rw[h];decide)
theorem Qj(s:Nat)(P:jD->Prop)(w:JK P)(hS:∀a,P a->Cx a aS aO aZ aW)(au:∀a,P a->∀b,R (Q a)<=b->G b)(i op:Int)(k:jR)(l:jF)(f:jR)(g:jF)(h o2:Ev)(av:Hid<|VC G aS aO aZ aW s P (jJ k l) h)(aw:Hid<|VC G aS aO aZ aW s P (jJ f g) o2)(M:∀v,h=.ok v->op=25\/op=26->v.ty=1)(ht:∀v u,h=.ok v->o2=.ok u->∃t,nz (Ba op [v.ty,u.ty])=Z t)(a:jD)(ax:P a):Calls jZ 122 #[jQ<|Z<|jB s 0 V,jL #[T U i,T U op,jJ k l,jJ f g]] a (Pv G aS aO aZ aW (AkQ op h o2) a):=by have ay:=Ah.new a #[T U i,T U op,jJ k l,jJ f g] 170;have A:=Ar a<|jC #[T U i,T U op,jJ k l,jJ f g] 170;have N:=w a _ ax A;have O:=Ab ht;have S:=Ab M;have W:=Ab w;have az:=Ab hS;clear ht M w hS;go_enter func122,ntmps122;go_wp2_with fail;refine(Aa av _ N).mono ?_;rintro m B ⟨d,C⟩;have n:=A.trans<|C.mono A.size;have D:=ay.aB C NLN;have c1:jE B ⟨R<|Q a,1,V⟩=Z (T U op):=D.cell 1;have c3:jE B ⟨R<|Q a,3,V⟩=Z (jJ f g):=D.cell 3;have aa:=Aa W _ _ N C;cases h with|err c=>obtain⟨x,e,rfl,j⟩:=d;obtain⟨E,rfl⟩:=j.form;dsimp only;go_wp2;exact K8 (v:=jS #[x,jJ 245 E]) P9 rfl ⟨⟨_,_,rfl,j⟩,n⟩|ok v=>obtain⟨x,rfl,o⟩:=d;have F:=Ab<|WU op x v B o<|Aa S v rfl;have aA:=Ab<|Aa O v;clear O S;obtain⟨ab,ac,aC⟩:=o.form;subst aC;have ad:=Ab o;clear o;generalize hd:GJ op v=aD at F;have ae:=Ab hd;clear hd;dsimp only;go_wp2_with fail;refine(Aa F).mono ?_;rintro m w2 ⟨rfl,af⟩;rw[af];clear af F;cases aD with|true=>dsimp only;go_wp2_with fail;refine K8 (v:=jS #[jJ ab ac,jT]) P9 rfl ?_;rw[Afr<|Aa ae];exact⟨⟨_,rfl,Aa ad⟩,n⟩|false=>have H:=Ab<|AiC (o2:=o2)<|Aa ae;dsimp only;go_wp2_with fail;refine(Aa aw _ aa).mono ?_;rintro m ag ⟨d,p⟩;have r:=n.trans<|p.mono n.size;have ah:=D.aB p NLN;have d1:jE ag ⟨R<|Q a,1,V⟩=Z (T U op):=ah.cell 1;have ai:=Aa W _ _ aa p;have aE:=Ab<|(Aa ad).below p NLN;cases o2 with|err c=>obtain⟨y,e,rfl,j⟩:=d;obtain⟨E,rfl⟩:=j.form;dsimp only;go_wp2_with fail;refine K8 (v:=jS #[y,jJ 245 E]) P9 rfl ?_;rw[Aa H];exact⟨⟨_,_,rfl,j⟩,r⟩|ok u=>
    obtain⟨y,rfl,hu⟩:=d;obtain⟨ty,aj,aF⟩:=hu.form;subst aF;by_cases hc:op=25\/op=26
    .have I:=Ab<|(Aa H).trans<|K1 hc;have aG:=Ab hu;clear hu;obtain rfl|rfl:=hc;all_goals dsimp only;go_wp2_with fail;refine K8 (v:=jS #[jJ ty aj,jT]) P9 rfl ?_;rw[Aa I];exact⟨⟨_,rfl,Aa aG⟩,r⟩
    have I:=Ab<|(Aa H).trans<|K0 hc;have aP:(op==25)=jI:=zA.2 λe=>hc<|.inl e;have aQ:(op==26)=jI:=zA.2 λe=>hc<|.inr e;obtain⟨tt,ak⟩:=Aa aA u (by first|rfl|trivial) (by first|rfl|trivial);have al:=Ab<|Afp op (jJ ab ac) (jJ ty aj) v u tt ag (Aa az _ ai) (Aa aE) hu ak ⟨λe=>hc<|.inl e,λe=>hc<|.inr e⟩<|au _ ai;clear hc hu ak;dsimp only;go_wp2_with fail;refine(Aa al).mono ?_;rintro m aH ⟨d,ao⟩;have J:=r.trans<|ao.mono r.size;have aI:=ah.aB ao NLN;have aR:jE aH ⟨R<|Q a,0,V⟩=Z (T U i):=aI.cell 0;generalize he:BI op v u=aJ at d;have ap:=Ab<|(Aa I).trans he;clear he al;cases aJ with|ok z=>obtain⟨q,rfl,hz⟩:=d;obtain⟨aK,aL,rfl⟩:=hz.form;dsimp only;go_wp2_with fail;refine K8 (v:=jS #[jJ aK aL,jT]) P9 rfl ?_;rw[Aa ap];exact⟨⟨_,rfl,hz⟩,J⟩|err c=>obtain⟨x9,rfl,K,L⟩:=d;obtain⟨q,hq⟩:=It (aS:=aS) (aO:=aO) (aZ:=aZ) (aW:=aW) (c:=c) ⟨K,L⟩;have aq:=Ab<|L7 (L7 K L) hq;rw[hq];clear hq K L;dsimp only;go_wp2_with fail;refine(WT i q _).mono ?_;rintro m aT ⟨⟨ar,rfl,aM⟩,aN⟩;dsimp only;go_wp2_with fail;refine K8 (v:=jS #[jT,jJ 245<|jQ<|Z<|jB ar 0 V]) P9 rfl ?_;rw[Aa ap];exact⟨⟨_,_,rfl,(Aa aq).1,ar,i,q,rfl,aM,(Aa aq).2⟩,J.trans<|aN.mono J.size⟩
noncomputable def Amp(o1 o2 o3:Ev):Ev:=match o1 with|.ok (.bool b)=>if b then o2 else o3|.ok _=>.err 4|.err c=>.err c
theorem Qk(l:Nat)(P:jD->Prop)(p:JK P)(i:Int)(m:jR)(n:jF)(f:jR)(g:jF)(h:jR)(j:jF)(o o2 u:Ev)(E:Hid<|VC G aS aO aZ aW l P (jJ m n) o)(F:Hid<|VC G aS aO aZ aW l P (jJ f g) o2)(H:Hid<|VC G aS aO aZ aW l P (jJ h j) u)(ht:∀v,o=.ok v->v.ty=1)(a:jD)(I:P a):Calls jZ 123 #[jQ<|Z<|jB l 0 V,jL #[T U i,jJ m n,jJ f g,jJ h j]] a (Pv G aS aO aZ aW (Amp o o2 u) a):=by have J:=Ah.new a #[T U i,jJ m n,jJ f g,jJ h j] 207;have q:=Ar a<|jC #[T U i,jJ m n,jJ f g,jJ h j] 207;have w:=p a _ I q;have y:=Ab ht;have K:=Ab p;have N:=PH;clear ht p;go_enter func123,ntmps123;go_wp2_with fail;refine(Aa E _ w).mono ?_;rintro z A ⟨d,r⟩;have s:=q.trans<|r.mono q.size;have B:=J.aB r NLN;have c2:jE A ⟨R<|Q a,2,V⟩=Z (jJ f g):=B.cell 2;have c3:jE A ⟨R<|Q a,3,V⟩=Z (jJ h j):=B.cell 3;have C:=Aa K _ _ w r;cases o with|err c=>obtain⟨x,e,rfl,D⟩:=d;obtain⟨L,rfl⟩:=D.form;dsimp only;go_wp2;exact K8 (v:=jS #[jT,jJ 245 L]) (by simp[results,results123,go_sem]) rfl ⟨⟨_,_,rfl,D⟩,s⟩|ok v=>obtain⟨x,rfl,M⟩:=d;obtain⟨b,rfl⟩:=Vv.bC<|Aa y v rfl;obtain rfl:x=jJ 140 (.bool b):=M;clear y;cases b with|true=>dsimp only;go_wp2_with fail;refine(Aa F _ C).mono ?_;intro z w2 d;obtain⟨x2,e2,rfl,k⟩:=d.form;have t:=Ab k;clear k d;dsimp only;go_wp2;exact K8 (v:=jS #[x2,e2]) (by simp[results,results123,go_sem]) rfl ((Aa t).dD s)|false=>dsimp only;go_wp2_with fail;refine(Aa H _ C).mono ?_;intro z w2 d;obtain⟨x2,e2,rfl,k⟩:=d.form;have t:=Ab k;clear k d;dsimp only;go_wp2;exact K8 (v:=jS #[x2,e2]) (by simp[results,results123,go_sem]) rfl ((Aa t).dD s)
end
section
open Go.RowKit
variable{aS aO aZ aW:jH}{G:Nat->Prop}
def Ex.mem(G:Nat->Prop)(w:jD):Ex->Prop|.int _ n=>Cf n|.set _ a n c ss=>Am w a n c ss/\Y ss<=1048576/\∀ad,a=Z ad->0<n->G (jW ad)|.un _ _ k=>k.mem G w|.bin _ _ k l=>k.mem G w/\l.mem G w|.ite _ k l m=>k.mem G w/\l.mem G w/\m.mem G w|_=>True
theorem Ex.aG{w w':jD}{B:Nat}(a:Below B w w')(hB:R (Q w)<=B):∀(e:Ex),e.mem G w->e.mem G w'|.int ..,h=>h|.text ..,h=>h|.bool ..,h=>h|.set ..,h=>⟨Am.below h.1 a hB,h.2⟩|.name ..,h=>h|.attr ..,h=>h|.lett ..,h=>h|.un _ _ k,h=>k.aG a hB h|.bin _ _ k l,h=>⟨k.aG a hB h.1,l.aG a hB h.2⟩|.ite _ k l m,h=>⟨k.aG a hB h.1,l.aG a hB h.2.1,m.aG a hB h.2.2⟩
theorem VC.cO{P c:jD->Prop}{x:jF}{o:Ev}(h:VC G aS aO aZ aW b c x o)(d:∀a,P a->c a):VC G aS aO aZ aW b P x o:=λa f=>h a<|d a f
theorem Dx(l:Nat)(P:jD->Prop)(T:jR)(i:Int)(x y:jF)(v:Vv)(h:(T=195/\y=jJ 196 x/\∃n,x=ja U n)\/(T=198/\y=jJ 199 x/\∃s,x=jA s)\/(T=179/\y=jJ 140 x/\∃b,x=.bool b)\/T=201/\y=jJ 193 x/\∃a n c,x=X a n c)(f:∀d g,P d->Ak d g->Vl G g y v):VC G aS aO aZ aW l P (jJ T<|jL #[ja U i,x])<|.ok v:=by intro d j;have k:=Ab λo=>L7 (Ar d o)<|f d _ j<|Ar d o;have ts:=tas T<|jL #[ja U i,x];clear f j;obtain⟨rfl,rfl,n,rfl⟩|⟨rfl,rfl,n,rfl⟩|⟨rfl,rfl,n,rfl⟩|⟨rfl,rfl,a,n,c,rfl⟩:=h;all_goals simp only[NP,Nat.reduceEqDiff,reduceIte]at ts;obtain⟨m,p,q,r,t,u,w,z,A,B⟩:=ts;go_enter func71,ntmps71;go_wp2;exact K8 (v:=jS #[jJ _ _,jT]) D4 rfl ⟨⟨_,rfl,(Aa k _).2⟩,(Aa k _).1⟩
theorem ET(d:Nat)(P:jD->Prop)(f:JK P)(T:jR)(A:Array jF)(F:FuncId)(o:Ev)(h:(T=168/\F=121/\∃i op t u,A=#[ja U i,ja U op,jJ t u])\/(T=170/\F=122/\∃i op t u b c,A=#[ja U i,ja U op,jJ t u,jJ b c])\/T=207/\F=123/\∃i t u b c g j,A=#[ja U i,jJ t u,jJ b c,jJ g j])(p:Hid<|∀a,P a->Calls jZ F #[jQ<|Z<|jB d 0 V,jL A] a (Pv G aS aO aZ aW o a)):VC G aS aO aZ aW d P (jJ T<|jL A) o:=by intro a k;have l:=Ab λo=>L7 (Ar a o)<|f _ _ k<|Ar a o;have ts:=tas T<|jL A;clear f k;obtain⟨rfl,rfl,i,op,t,u,rfl⟩|⟨rfl,rfl,i,op,t,u,b,c,rfl⟩|⟨rfl,rfl,i,t,u,b,c,g,j,rfl⟩:=h;all_goals simp only[NP,Nat.reduceEqDiff,reduceIte]at ts;obtain⟨s,w,x,y,z,B,C,D,E,H⟩:=ts;go_enter func71,ntmps71;go_wp2_with fail;refine(Aa p _ (Aa l _).2).mono ?_;intro I J m;obtain⟨q,e1,rfl,n⟩:=m.form;have r:=Ab n;clear n m;dsimp only;go_wp2;exact K8 (v:=jS #[q,e1]) D4 rfl ((Aa r).dD (Aa l _).1)
theorem JL(R:Rq)(ls:N6)(i:Int)(k l m:Ex):At R ls (.ite i k l m)=Amp (At R ls k) (At R ls l) (At R ls m):=by rw[At];generalize At R ls k=a;cases a with|err c=>rfl|ok v=>cases v<;>rfl
def Ex.cst:Ex->Prop|.attr ..=>False|.un _ _ k=>k.cst|.bin _ _ k l=>k.cst/\l.cst|.ite _ k l m=>k.cst/\l.cst/\m.cst|_=>True
theorem EU(j:Nat)(R:Rq):∀(e:Ex),e.bA->e.cst->∀t,An [] e=Z t->VC G aS aO aZ aW j (λf=>(∀b,jh (Q f)<=b->G b)/\Cx f aS aO aZ aW/\e.mem G f) e.val (At R [] e)
 |.int i n,_,_,t,ht=>Dx j _ _ i _ _ _ (.inl ⟨rfl,rfl,_,rfl⟩) λf x h _=>⟨rfl,h.2.2⟩|.text i s,_,_,t,ht=>Dx j _ _ i _ _ _ (.inr<|.inl ⟨rfl,rfl,_,rfl⟩) λf x h _=>rfl|.bool i b,_,_,t,ht=>Dx j _ _ i _ _ _ (.inr<|.inr<|.inl ⟨rfl,rfl,_,rfl⟩) λf x h _=>rfl|.set i a n c ss,_,_,t,ht=>Dx j _ _ i _ _ _ (.inr<|.inr<|.inr ⟨rfl,rfl,_,_,_,rfl⟩) λf x h b=>⟨_,_,_,rfl,(h.2.2).1.below b NLN,(h.2.2).2⟩|.name ..,he,_,_,_=>K4 he id|.attr ..,_,h,_,_=>K4 h id|.lett i n,_,_,t,ht=>by simp[An]at ht|.un i op k,he,hc,t,ht=>by rw[An]at ht;cases o:An [] k with|none=>rw[o]at ht;cases ht|some a=>rw[o]at ht;have V:=EU j R k he.2 hc a o;obtain⟨y,z,q⟩:=k.form;rw[q]at V;have st:JK λf=>(∀b,jh (Q f)<=b->G b)/\Cx f aS aO aZ aW/\(Ex.un i op k).mem G f:=λf x h p=>⟨λb k=>h.1 b<|zB p.size k,h.2.1.below p NLN,Ex.aG p NLN _ h.2.2⟩;show VC G aS aO aZ aW j _ (jJ 168<|jL #[T U i,T U op,k.val]) _;rw[q];exact ET j _ st _ _ _ _ (.inl ⟨rfl,rfl,_,_,_,_,rfl⟩)<|Ab<|TS j _ st (λf h=>h.2.1) i op y z (At R [] k) (Ab<|V.cO λf h=>h) λv w=>⟨t,by rw[AZ (ls:=[]) (ts:=[]) rfl k a o v w];exact ht⟩
 |.bin i op k l,he,hc,t,ht=>by rw[An]at ht;cases o:An [] k with|none=>rw[o]at ht;cases ht|some a=>rw[o]at ht;cases r:An [] l with|none=>rw[r]at ht;cases ht|some b=>rw[r]at ht;dsimp only at ht;have V:=EU j R k he.2.1 hc.1 a o;have A:=EU j R l he.2.2 hc.2 b r;obtain⟨y,z,q⟩:=k.form;obtain⟨C,D,B⟩:=l.form;rw[q]at V;rw[B]at A;have st:JK λf=>(∀b,jh (Q f)<=b->G b)/\Cx f aS aO aZ aW/\(Ex.bin i op k l).mem G f:=λf x h p=>⟨λb k=>h.1 b<|zB p.size k,h.2.1.below p NLN,Ex.aG p NLN _ h.2.2⟩;show VC G aS aO aZ aW j _ (jJ 170<|jL #[T U i,T U op,k.val,l.val]) _;rw[q,B];refine ET j _ st _ _ _ _ (.inr<|.inl ⟨rfl,rfl,_,_,_,_,_,_,rfl⟩)<|Ab<|Qj j _ st (λf h=>h.2.1) (λf h=>h.1) i op y z C D (At R [] k) (At R [] l) (Ab<|V.cO λf h=>⟨h.1,h.2.1,h.2.2.1⟩) (Ab<|A.cO λf h=>⟨h.1,h.2.1,h.2.2.2⟩) (λv w I=>?_) λv u w hu=>⟨t,by rw[AZ (ls:=[]) (ts:=[]) rfl k a o v w,AZ (ls:=[]) (ts:=[]) rfl l b r u hu];exact ht⟩;rw[AZ (ls:=[]) (ts:=[]) rfl k a o v w];obtain g|g|g|g|g|g|g:=BP ht<;>omega
 |.ite i k l m,he,hc,t,ht=>by rw[An]at ht;cases o:An [] k with|none=>rw[o]at ht;cases ht|some a=>rw[o]at ht;cases r:An [] l with|none=>rw[r]at ht;cases ht|some b=>rw[r]at ht;cases hm:An [] m with|none=>rw[hm]at ht;cases ht|some d=>
     rw[hm]at ht;dsimp only at ht;have V:=EU j R k he.1 hc.1 a o;have A:=EU j R l he.2.1 hc.2.1 b r;have X:=EU j R m he.2.2 hc.2.2 d hm;obtain⟨y,z,q⟩:=k.form;obtain⟨C,D,B⟩:=l.form;obtain⟨F,H,E⟩:=m.form;rw[q]at V;rw[B]at A;rw[E]at X;have st:JK λf=>(∀b,jh (Q f)<=b->G b)/\Cx f aS aO aZ aW/\(Ex.ite i k l m).mem G f:=λf x h p=>⟨λb k=>h.1 b<|zB p.size k,h.2.1.below p NLN,Ex.aG p NLN _ h.2.2⟩;show VC G aS aO aZ aW j _ (jJ 207<|jL #[T U i,k.val,l.val,m.val]) _;rw[q,B,E,JL];refine ET j _ st _ _ _ _ (.inr<|.inr ⟨rfl,rfl,_,_,_,_,_,_,_,rfl⟩)<|Ab<|Qk j _ st i y z C D F H (At R [] k) (At R [] l) (At R [] m) (Ab<|V.cO λf h=>⟨h.1,h.2.1,h.2.2.1⟩) (Ab<|A.cO λf h=>⟨h.1,h.2.1,h.2.2.2.1⟩) (Ab<|X.cO λf h=>⟨h.1,h.2.1,h.2.2.2.2⟩) λv w=>?_;rw[AZ (ls:=[]) (ts:=[]) rfl k a o v w];obtain⟨h1,h0⟩:=DO ht;simp only[Ba]at h1;by_cases c1:a=1/\b=d
     .exact c1.1
     rw[K0 c1]at h1;exact K4 h1.symm h0
end
section
open Go.RowKit
variable{G:Nat->Prop}
def Ex.lp:Ex->Int|.attr i _=>i|.lett i _=>i|.set i _ _ _ _=>i|_=>0
def Bd(G:Nat->Prop)(o:N5)(w:jD)(r:Ending)(w':jD):Prop:=∃o':N5,o'.map Ex.st=o.map Ex.st/\r=jN (oV o')/\(∀e,o'=Z e->e.mem G w')/\Ak w w'
theorem Bd.of{o o':N5}(h:CQ (oV o') w a w')(e:o'.map Ex.st=o.map Ex.st)(m:∀e,o'=Z e->e.mem G w):Bd G o w a w':=⟨o',e,h.1,λx hx=>(x.aG h.2 NLN)<|m x hx,h.2⟩
theorem Ex.mem.ln{e:Ex}{w:jD}(h:e.mem G w):e.ln:=by cases e with|set i a n c ss=>exact h.1.len|_=>trivial
theorem Aei(x y:Ex)(w:jD)(mx:x.mem G w)(my:y.mem G w):Calls jZ 88 #[x.val,y.val] w<|Bd G (EI x y) w:=by
 refine(Aeg x.val y.val _ _ _ (Ab<|Ce x mx.ln) (Ab<|Ce y my.ln) (Ab<|FT x y) (oV<|EI x y) (Ab ?_) w).mono ?_
 .unfold EI;cases Km x<;>cases Km y<;>cases sameL x y<;>rfl
 intro a w' h;exact Bd.of h rfl (λe he=>(Fw he).elim (λh=>h ▸ mx) λh=>h ▸ my)
theorem Ahc(x y:Ex)(w:jD)(mx:x.mem G w)(my:y.mem G w):Calls jZ 89 #[x.val,y.val] w<|Bd G (Hy x y) w:=by
 refine(Ag8 x.val y.val _ _ _ _ _ (Ab<|Ce x mx.ln) (Ab<|DI y) (Ab<|Ce y my.ln) (Ab<|DI x) (Ab<|FT x y) (oV<|Hy x y) (Ab ?_) w).mono ?_
 .unfold Hy;cases Km x<;>cases Km y<;>cases AD x<;>cases AD y<;>cases sameL x y<;>rfl
 intro a w' h;exact Bd.of h rfl (λe he=>(H7 he).elim (λh=>h ▸ mx) λh=>h ▸ my)
theorem AjU(x y:Ex)(w:jD)(mx:x.mem G w)(my:y.mem G w):Calls jZ 91 #[x.val,y.val] w<|Bd G (Nb x y) w:=by
 refine(AjS x.val y.val _ _ (Ab<|CE x 0) (Ab<|CE y 0) (oV<|Nb x y) (Ab ?_) w).mono ?_
 .unfold Nb;cases SQ 0 x<;>cases SQ 0 y<;>rfl
 intro a w' h;exact Bd.of h rfl (λe he=>(Ko he).elim (λh=>h ▸ mx) λh=>h ▸ my)
theorem Ahd(x y:Ex)(w:jD)(mx:x.mem G w)(my:y.mem G w):Calls jZ 92 #[x.val,y.val] w<|Bd G (DD 0 x y) w:=by
 refine(Ag9 x.val y.val _ (Ab<|CE y 0) (oV<|DD 0 x y) (Ab ?_) w).mono ?_
 .unfold DD;cases SQ 0 y<;>rfl
 intro a w' h;exact Bd.of h rfl (λe he=>(EJ he).elim (λh=>h ▸ mx) λh=>h ▸ my)
theorem AjV(x y:Ex)(w:jD)(mx:x.mem G w)(my:y.mem G w):Calls jZ 94 #[x.val,y.val] w<|Bd G (DD 1 x y) w:=by
 refine(AjT x.val y.val _ (Ab<|CE y 1) (oV<|DD 1 x y) (Ab ?_) w).mono ?_
 .unfold DD;cases SQ 1 y<;>rfl
 intro a w' h;exact Bd.of h rfl (λe he=>(EJ he).elim (λh=>h ▸ mx) λh=>h ▸ my)
theorem Ahe(x y:Ex)(w:jD)(mx:x.mem G w)(my:y.mem G w):Calls jZ 93 #[x.val,y.val] w<|Bd G (Hz x y) w:=by
 refine(Aha x.val y.val _ _ _ _ _ _ (Ab<|CE x 1) (Ab<|CE y 1) (Ab<|CE x 0) (Ab<|DI y) (Ab<|CE y 0) (Ab<|DI x) (oV<|Hz x y) (Ab ?_) w).mono ?_
 .unfold Hz;cases SQ 1 x<;>cases SQ 1 y<;>cases SQ 0 x<;>cases SQ 0 y<;>cases AD x<;>cases AD y<;>rfl
 intro a w' h;exact Bd.of h rfl (λe he=>(H9 he).elim (λh=>h ▸ mx) λh=>h ▸ my)
theorem YB(b:Bool)(a:Nat)(c:jR)(x y:Ex)(w:jD)(Rc:Ah w a #[.bool b] c)(mx:x.mem G w)(my:y.mem G w):Calls jZ 142 #[x.val,y.val,jQ<|Z<|jB a 0 V] w<|Bd G (GL b x y) w:=by
 refine(Ahb x.val y.val b a _ _ _ _ _ (Ab<|DH x b) (Ab<|DH x<|!b) (Ab<|DH y b) (Ab<|DH y<|!b) (Ab<|DI x) (oV<|GL b x y) (Ab ?_) w c Rc).mono ?_
 .unfold GL;cases isB b x<;>cases isB (!b) x<;>cases isB b y<;>cases isB (!b) y<;>cases AD x<;>rfl
 intro d w' h;exact Bd.of h rfl (λe he=>(Ei he).elim (λh=>h ▸ mx) λh=>h ▸ my)
theorem Sf{x y:Ex}(h:sameL x y=jG){t:jR}(hf:x.val=jJ t u):∀w,(method 454 t u "loop.example/s01308/impl.place").run jZ w=.ok (228,T U x.lp) w:=by cases x with|attr i n=>cases hf;exact AaD i n|lett i n=>cases hf;exact AaE i n|_=>simp[sameL]at h
theorem Sg{x:Ex}(h:Km x=jG){t:jR}(hf:x.val=jJ t u):∀w,(method 454 t u "loop.example/s01308/impl.place").run jZ w=.ok (228,T U x.lp) w:=by cases x with|set i a n c ss=>cases hf;exact AdL i a n c|_=>simp[Km]at h
theorem Aej(x y:Ex)(w:jD)(mx:x.mem G w)(my:y.mem G w):Calls jZ 90 #[x.val,y.val] w<|Bd G (Fc x y) w:=by
 obtain⟨t,u,hf⟩:=x.form;have h1:=Ce x mx.ln;have h2:=DI y;have h3:=FT x y;have b:=λh=>Sf (y:=y) h hf;rw[hf]at h1 h3|-;refine(Aeh t u y.val _ _ _ _ (Ab<|Ce y my.ln) (Ab h1) (Ab h2) (Ab h3) x.lp (Ab b) (oV<|if Km y||(Km x&&AD y)then Z x else if sameL x y then Z (.set x.lp V 0 0 [])else V) (Ab ?_) w).mono ?_
 .rw[<-hf];cases Km x<;>cases Km y<;>cases AD y<;>cases sameL x y<;>rfl
 intro c w' h;refine Bd.of h ?_ ?_
 .unfold Fc;cases Km x<;>cases Km y<;>cases AD y<;>cases sameL x y<;>rfl
 intro e he;split at he
 .cases he;exact mx
 split at he<;>cases he;exact⟨⟨rfl,NLN,zH _,λj a=>K4 a<|Z5 j,λj a=>K4 a<|Z5 j⟩,zH _,λ_ h=>nomatch h⟩
theorem Aa3(x y:Ex)(w:jD)(mx:x.mem G w)(my:y.mem G w):Calls jZ 96 #[x.val,y.val] w<|Bd G (if Km x&&AD y then Z (.bool 0 jG)else V) w:=by
 obtain⟨t,u,hf⟩:=x.form;have h1:=Ce x mx.ln;have a:=λh=>Sg (x:=x) h hf;rw[hf]at h1|-;refine(Aa2 t u y.val _ _ (Ab h1) (Ab<|DI y) x.lp (Ab a) (oV<|if Km x&&AD y then Z (.bool x.lp jG)else V) (Ab ?_) w).mono ?_
 .cases Km x<;>cases AD y<;>rfl
 intro b w' h;refine Bd.of h ?_ ?_
 .cases Km x<;>cases AD y<;>rfl
 intro e he;split at he<;>cases he;trivial
theorem AlB(x y:Ex)(w:jD)(mx:x.mem G w)(my:y.mem G w):Calls jZ 97 #[x.val,y.val] w<|Bd G (inE x y) w:=by
 obtain⟨t,u,hf⟩:=y.form;have h1:=Ce y my.ln;have a:=λh=>Sg (x:=y) h hf;rw[hf]at h1|-;refine(AlA x.val t u _ _ (Ab h1) (Ab<|DI x) y.lp (Ab a) (oV<|if Km y&&AD x then Z (.bool y.lp jI)else V) (Ab ?_) w).mono ?_
 .cases Km y<;>cases AD x<;>rfl
 intro b w' h;refine Bd.of h ?_ ?_
 .unfold inE;cases Km y<;>cases AD x<;>rfl
 intro e he;split at he<;>cases he;trivial
theorem Ahf(c:jR)(d g:jF)(b:Bool)(f:Nat)(l:Bool)(k:Hid<|∀w,Calls jZ 145 #[jJ c d,g] w<|Bb l w)(p:Int)(m:Hid (l=jG->∀w,(method 454 c d "loop.example/s01308/impl.place").run jZ w=.ok (228,T U p) w))(h:jF)(i:Hid<|h=if l then jJ 179 (jL #[T U p,.bool b])else jT)(w:jD)(n:jR)(Rc:Ah w f #[.bool b] n):Calls jZ 147 #[jJ c d,g,jQ<|Z<|jB f 0 V] w (CQ h w):=by have j:=IQ w;go_enter func147,ntmps147;go_wp2_with fail;refine(Aa k _).mono ?_;rintro s o ⟨rfl,q⟩;have a:=j.trans<|q.mono j.size;cases l with|false=>dsimp only;go_wp2;go_ret;exact⟨congrArg jN (Aa i).symm,a⟩|true=>have t:=Aa m (by first|rfl|trivial);have c1:jE o (jB f 0 V)=Z (.bool b):=(Rc.aB a NLN).cell 0;have r:=Ab λw=>Gp p w;dsimp only;go_wp2_with fail;go_quiet (first|(go_at_call 228;with_reducible refine Calls.quiet_of_same<|Aa r _)|fail);go_wp2;go_ret;exact⟨congrArg jN (Aa i).symm,a.trans<|(Df _ _).mono a.size⟩
theorem YC(b:Bool)(a:Nat)(c:jR)(x y:Ex)(w:jD)(Rc:Ah w a #[.bool b] c)(mx:x.mem G w)(my:y.mem G w):Calls jZ 147 #[x.val,y.val,jQ<|Z<|jB a 0 V] w<|Bd G (Dt b x y) w:=by
 obtain⟨t,u,hf⟩:=x.form;have h3:=FT x y;have d:=λh=>Sf (y:=y) h hf;rw[hf]at h3|-;refine(Ahf t u y.val b a _ (Ab h3) x.lp (Ab d) (oV<|if sameL x y then Z (.bool x.lp b)else V) (Ab ?_) w c Rc).mono ?_
 .cases sameL x y<;>rfl
 intro f w' h;refine Bd.of h ?_ ?_
 .unfold Dt;cases sameL x y<;>rfl
 intro e he;split at he<;>cases he;trivial
end
section
open Go.RowKit
variable{G:Nat->Prop}
theorem Aa4(a:M3)(n c:Nat)(A:M4)(s:Int)(w:jD)(h1:BN w a n c A):Calls jZ 174 #[X a n c,T U s] w λe w'=>(∃k:Int,e=jN (T U k)/\(0<=k↔s∈A))/\Ak w w':=by
 have s1:n<=9223372036854775807:=G7 h1.aH;have p:=Ab h1.len;go_enter func174,ntmps174;go_wp2_with fail;go_loopw[8] (λi wr=>∃k:Nat,k<=n/\i=T U k/\Ak w wr/\Hid (∀j,j<k->(h:j<Y A)->A[j]≠s)) (λi _=>n-(intOf i).toNat);case atStart=>exact⟨0,Oa,rfl,BRN,Ab λj h=>K4 h Oa⟩
 obtain⟨k,y,rfl,f,m⟩:=hrel;by_cases o:k<n
 .have z:(k:Int)<(n:Int):=Oa;have q:k<Y A:=by rw[Aa p];exact o
  obtain⟨b1,B,rfl,C,c1⟩:=(h1.below f NLN).cells k q;have g:=Ab<|show A[k]=s->s∈A from λe=>e ▸ zI q;have l:=Ab (show A[k]≠s->∀j,j<k+1->(h:j<Y A)->A[j]≠s from λe j D h=>by
   by_cases u:j=k
   .subst u;exact e
   exact Aa m j Oa h);have r:=Ab o;clear m o;generalize A[k]=x at c1 g l;by_cases b:x=s
  .have v:(s==x)=jG:=zD.2 b.symm;have d:=Ab<|Aa g b;clear b g l;go_wp2;go_ret;exact⟨⟨k,rfl,⟨λ_=>Aa d,λ_=>Oa⟩⟩,f⟩
  have v:(s==x)=jI:=zA.2 λh=>b h.symm;have d:=Ab<|Aa l b;clear b g l;go_wp2;go_roundw;case rel=>exact⟨k+1,Aa r,O0,f,d⟩
  have:=Aa r;simp[intOf];omega
 have e:k=n:=Oa;subst e;have d:=Ab (show s ∉ A from λh=>by obtain⟨j,t,e⟩:=zk h;exact Aa m j (by rw[<-Aa p];exact t) t e);go_wp2;go_ret;exact⟨⟨-1,rfl,⟨λh=>K4 h Ob,λh=>K4 h<|Aa d⟩⟩,f⟩
theorem Lp(a:M3)(n c:Nat)(A:M4)(s:Int)(w:jD)(h1:BN w a n c A):Calls jZ 141 #[X a n c,T U s] w λe w'=>e=jN (.bool<|decide (s∈A))/\Ak w w':=by
 go_enter func141,ntmps141;go_wp2_with fail;refine(Aa4 _ _ _ A s _ h1).mono ?_;rintro i j ⟨⟨k,rfl,d⟩,f⟩;have g:=Ab d;clear d;by_cases h0:0<=k
 .have b:=Ab<|zc<|(Aa g).1 h0;dsimp only;go_wp2;go_ret;exact⟨by rw[Aa b];rfl,f⟩
 have b:=Ab<|za λh=>h0<|(Aa g).2 h;dsimp only;go_wp2;go_ret;exact⟨by rw[Aa b];rfl,f⟩
structure OtM(w:jD)(ob fb:Nat)(ops:M4)(F:FuncId)(caps:Array jF):Prop where
 o:∃a n c t,Ah w ob #[X a n c] t/\BN w a n c ops
 f:∃t,Ah w fb #[.func (.func F) #[] caps] t
theorem OtM.below{w w':jD}{B d f:Nat}{g:M4}{F:FuncId}{i:Array jF}(h:OtM w d f g F i)(b:Below B w w')(hB:R (Q w)<=B):OtM w' d f g F i:=by obtain⟨⟨a,n,c,t,h1,h2⟩,j,h3⟩:=h;exact⟨⟨a,n,c,t,h1.aB b hB,h2.below b hB⟩,j,h3.aB b hB⟩
theorem Sh(hS:S≠170)(v:jF)(a b:Nat)(w:jD):Calls jZ 140 #[jJ S v,jQ<|Z<|jB a 0 V,jQ<|Z<|jB b 0 V] w<|CQ jT w:=by have d:=AI (S:=S) (T:=170) underlying170 zeroValue170 hS 86;have c:=Ar w<|jC #[ja U 0,ja U 0,jT,jT] 170;clear hS;go_enter func140,ntmps140;go_wp2;go_ret;exact⟨rfl,c⟩
theorem Np{a c d f:jF}{t:jR}(R:Ah w b #[a,c,d,f] t):jE w (jB b 0 V)=Z a/\jE w (jB b 1 V)=Z c/\jE w (jB b 2 V)=Z d/\jE w (jB b 3 V)=Z f:=⟨R.cell 0,R.cell 1,R.cell 2,R.cell 3⟩
theorem Aa5(i op:Int)(h:jR)(j:jF)(k:jR)(l:jF)(q r:Nat)(d:M4)(F:FuncId)(w:jD)(M:OtM w q r d F #[])(P:jF->jD->Prop)(x:Hid<|∀args w,(callFunc F args).run jZ w=.ok (.enter F args) w)(y:Hid<|∀o,Ak w o->Calls jZ F #[jJ h j,jJ k l] o λf w'=>(∃v,f=jN v/\P v w')/\Ak o w'):Calls jZ 140 #[(jJ 170<|jL #[ja U i,ja U op,jJ h j,jJ k l]),jQ<|Z<|jB q 0 V,jQ<|Z<|jB r 0 V] w λf w'=>(∃v,f=jN v/\((op∈d/\P v w')\/(op ∉ d/\v=jT)))/\Ak w w':=by
 have G:=CK (T:=170) underlying170 86;have m:=Ar w<|jC #[ja U i,ja U op,jJ h j,jJ k l] 170;have s:=Ah.new w #[ja U i,ja U op,jJ h j,jJ k l] 170;obtain⟨⟨a,n,c,tA,h1,h2⟩,H,h3⟩:=M;have z:=Ab<|Lp a n c d op _<|h2.below m NLN;have A:=(h1.aB m NLN).cell 0;obtain⟨B,C,r2,r3⟩:=Np s;go_enter func140,ntmps140;go_wp2_with fail;refine(Aa z).mono ?_;rintro f I ⟨rfl,t⟩;have g:=m.trans<|t.mono m.size;have J:=(h3.aB g NLN).cell 0;obtain⟨K,L,N,O⟩:=Np<|s.aB t NLN;clear A B C r2 r3;by_cases b:op∈d
 .rw[zc b];have p:=Ab b;clear b;dsimp only;go_wp2_with fail;rw[Aa x,Oper.upon_enter];refine(Aa y _ g).mono ?_;rintro f w2 ⟨⟨v,rfl,u⟩,D⟩;have E:=Ab u;clear u;dsimp only;go_wp2;go_ret;exact⟨⟨v,rfl,.inl ⟨Aa p,Aa E⟩⟩,g.trans<|D.mono g.size⟩
 rw[za b];have p:=Ab b;clear b;dsimp only;go_wp2;go_ret;exact⟨⟨_,rfl,.inr ⟨Aa p,rfl⟩⟩,g⟩
theorem Aa6(i op:Int)(h:jR)(j:jF)(k:jR)(l:jF)(q r:Nat)(d:M4)(F:FuncId)(s:Nat)(w:jD)(M:OtM w q r d F #[jQ<|Z<|jB s 0 V])(P:jF->jD->Prop)(y:Hid<|∀args w,(callFunc F args).run jZ w=.ok (.enter F args) w)(z:Hid<|∀o,Ak w o->Calls jZ F #[jJ h j,jJ k l,jQ<|Z<|jB s 0 V] o λf w'=>(∃v,f=jN v/\P v w')/\Ak o w'):Calls jZ 140 #[(jJ 170<|jL #[ja U i,ja U op,jJ h j,jJ k l]),jQ<|Z<|jB q 0 V,jQ<|Z<|jB r 0 V] w λf w'=>(∃v,f=jN v/\((op∈d/\P v w')\/(op ∉ d/\v=jT)))/\Ak w w':=by
 have H:=CK (T:=170) underlying170 86;have m:=Ar w<|jC #[ja U i,ja U op,jJ h j,jJ k l] 170;have t:=Ah.new w #[ja U i,ja U op,jJ h j,jJ k l] 170;obtain⟨⟨a,n,c,tA,h1,h2⟩,I,h3⟩:=M;have A:=Ab<|Lp a n c d op _<|h2.below m NLN;have B:=(h1.aB m NLN).cell 0;obtain⟨C,D,r2,r3⟩:=Np t;go_enter func140,ntmps140;go_wp2_with fail;refine(Aa A).mono ?_;rintro f J ⟨rfl,u⟩;have g:=m.trans<|u.mono m.size;have K:=(h3.aB g NLN).cell 0;obtain⟨L,N,O,S⟩:=Np<|t.aB u NLN;clear B C D r2 r3;by_cases b:op∈d
 .rw[zc b];have p:=Ab b;clear b;dsimp only;go_wp2_with fail;rw[Aa y,Oper.upon_enter];refine(Aa z _ g).mono ?_;rintro f w2 ⟨⟨v,rfl,x⟩,E⟩;have G:=Ab x;clear x;dsimp only;go_wp2;go_ret;exact⟨⟨v,rfl,.inl ⟨Aa p,Aa G⟩⟩,g.trans<|E.mono g.size⟩
 rw[za b];have p:=Ab b;clear b;dsimp only;go_wp2;go_ret;exact⟨⟨_,rfl,.inr ⟨Aa p,rfl⟩⟩,g⟩
end
section
open Go.RowKit
variable{G:Nat->Prop}
theorem Ahg(hS:S≠168)(v:jF)(w:jD):Calls jZ 87 #[jJ S v] w<|CQ jT w:=by have b:=AI (S:=S) (T:=168) underlying168 zeroValue168 hS 86;have a:=Ar w<|jC #[ja U 0,ja U 0,jT] 168;clear hS;go_enter func87,ntmps87;go_wp2;go_ret;exact⟨rfl,a⟩
theorem AlC(i op:Int)(t:jR)(u:jF)(h:op≠9)(w:jD):Calls jZ 87 #[jJ 168<|jL #[ja U i,ja U op,jJ t u]] w<|CQ jT w:=by have b:=CK (T:=168) underlying168 86;have a:=Ar w<|jC #[ja U i,ja U op,jJ t u] 168;have c:(op !=9)=jG:=zW.2 h;clear h;go_enter func87,ntmps87;go_wp2;go_ret;exact⟨rfl,a⟩
theorem AjW(hS:S≠168)(i:Int)(v:jF)(w:jD):Calls jZ 87 #[jJ 168<|jL #[ja U i,ja U 9,jJ S v]] w<|CQ jT w:=by have c:=CK (T:=168) underlying168 86;have a1:=AI (S:=S) (T:=168) underlying168 zeroValue168 hS 86;have a:=Ar w<|jC #[ja U i,ja U 9,jJ S v] 168;have b:=a.alloc a.size<|jC #[ja U 0,ja U 0,jT] 168;clear hS;go_enter func87,ntmps87;go_wp2;go_ret;exact⟨rfl,b⟩
theorem AjX(i j op:Int)(t:jR)(u:jF)(a:jF)(b:Hid<|a=if op=9 then jJ t u else jT)(w:jD):Calls jZ 87 #[jJ 168<|jL #[ja U i,ja U 9,jJ 168<|jL #[ja U j,ja U op,jJ t u]]] w<|CQ a w:=by
 have g:=CK (T:=168) underlying168 86;have c:=Ar w<|jC #[ja U i,ja U 9,jJ 168<|jL #[ja U j,ja U op,jJ t u]] 168;have d:=c.alloc c.size<|jC #[ja U j,ja U op,jJ t u] 168;by_cases h:op=9
 .subst h;go_enter func87,ntmps87;go_wp2;go_ret;exact⟨congrArg jN (Aa b).symm,d⟩
 have k:(op !=9)=jG:=zW.2 h;have f:=Ab<|(Aa b).trans<|K0 h;clear h;go_enter func87,ntmps87;go_wp2;go_ret;exact⟨congrArg jN (Aa f).symm,d⟩
def WD:Ex->N5|.un _ op k=>if op=9 then LS k else V|_=>V
theorem AlD(e:Ex)(w:jD)(m:e.mem G w):Calls jZ 87 #[e.val] w<|Bd G (WD e) w:=by
 have b:Calls jZ 87 #[e.val] w<|CQ (oV<|WD e) w:=by cases e with|un i op k=>
   by_cases h:op=9
   .subst h;cases k with
    |un j a l=>
     obtain⟨t,u,hf⟩:=l.form;simp only[Ex.val,hf];refine AjX i j a t u _ (Ab ?_) w;simp only[WD,LS];by_cases h:a=9
     .rw[K1 h,K1 h];exact hf
     rw[K0 h,K0 h];rfl|_=>exact AjW Ob _ _ _
   obtain⟨t,u,hf⟩:=k.form;simp only[Ex.val,hf];rw[show WD (.un i op k)=V from K0 h];exact AlC i op t u h w|_=>exact Ahg Ob _ _
 refine b.mono λc w' h=>Bd.of h rfl λx hx=>?_;cases e with
 |un i op k=>
  simp only[WD]at hx;split at hx
  .cases k with|un j a l=>simp only[LS]at hx;split at hx<;>cases hx;exact m|_=>cases hx
  cases hx|_=>cases hx
theorem Aa7(h:S≠196)(a:jR)(v:jF)(w:jD):(Instr.typeAssert (jJ S v) a 196 jG).run jZ w=.ok (jS #[T U 0,.bool jI]) w:=by simp[Instr.typeAssert,run_underlying underlying196,zeroValue196,h]
theorem AcU(h:S≠199)(a:jR)(v:jF)(w:jD):(Instr.typeAssert (jJ S v) a 199 jG).run jZ w=.ok (jS #[jA ⟨#[]⟩,.bool jI]) w:=by simp[Instr.typeAssert,run_underlying underlying199,zeroValue199,h]
theorem AjY(h:S≠140)(a:jR)(v:jF)(w:jD):(Instr.typeAssert (jJ S v) a 140 jG).run jZ w=.ok (jS #[.bool jI,.bool jI]) w:=by simp[Instr.typeAssert,run_underlying underlying140,zeroValue140,h]
theorem Si(n:Int)(i:Int)(w:jD):Calls jZ 139 #[jJ 196<|T U n,T U i] w λa w'=>a=jN (jJ 195<|jL #[T U i,T U n])/\w'=w:=by have b:=Afj;go_enter func139,ntmps139;go_wp2;go_ret;exact⟨rfl,rfl⟩
theorem PD(s:M1)(i:Int)(w:jD):Calls jZ 139 #[jJ 199<|jA s,T U i] w λa w'=>a=jN (jJ 198<|jL #[T U i,jA s])/\w'=w:=by have b:=Aa7 (S:=199) Ob;have a1:=AbT;go_enter func139,ntmps139;go_wp2;go_ret;exact⟨rfl,rfl⟩
theorem PE(b:Bool)(i:Int)(w:jD):Calls jZ 139 #[jJ 140<|.bool b,T U i] w λa w'=>a=jN (jJ 179<|jL #[T U i,.bool b])/\w'=w:=by have c:=Aa7 (S:=140) Ob;have a1:=AcU (S:=140) Ob;have a2:=AbS;go_enter func139,ntmps139;go_wp2;go_ret;exact⟨rfl,rfl⟩
theorem Sj(a:M3)(n c:Nat)(i:Int)(w:jD):Calls jZ 139 #[jJ 193<|X a n c,T U i] w λb w'=>b=jN (jJ 201<|jL #[T U i,X a n c])/\w'=w:=by have d:=Aa7 (S:=193) Ob;have a1:=AcU (S:=193) Ob;have a2:=AjY (S:=193) Ob;have a3:=Afk;go_enter func139,ntmps139;go_wp2;go_ret;exact⟨rfl,rfl⟩
theorem Gy(x:jF)(v:Vv)(i:Int)(w:jD)(h:Vl G w x v):Calls jZ 139 #[x,T U i] w λf w'=>(∃e:Ex,e.st=v.ex.st/\f=jN e.val/\e.mem G w')/\w'=w:=by cases v with|bool b=>cases h;exact(PE b i w).mono λf w' h=>⟨⟨.bool i b,rfl,h.1,trivial⟩,h.2⟩|int n=>obtain⟨rfl,h⟩:=h;exact(Si n i w).mono λf w' d=>⟨⟨.int i n,rfl,d.1,h⟩,d.2⟩|text s=>cases h;exact(PD s i w).mono λf w' h=>⟨⟨.text i s,rfl,h.1,trivial⟩,h.2⟩|set ss=>obtain⟨a,n,c,rfl,h⟩:=h;exact(Sj a n c i w).mono λf w' d=>⟨⟨.set i a n c ss,rfl,d.1,by rw[d.2];exact h⟩,d.2⟩
end
section
open Go.RowKit
variable{aS aO aZ aW:jH}{G:Nat->Prop}
abbrev TT:Nat->Prop:=λ_=>True
def Ev0(W:jD)(eb:Nat):Prop:=Ah W eb #[jA ⟨#[]⟩,jA ⟨#[]⟩,T U 0,T U 0,X V 0 0,X V 0 0,X V 0 0] 68
def CvV(G:Nat->Prop)(aS aO aZ aW:jH)(w0:jD)(vx:jF)(o:Ev):Prop:=∀W eb,Ak w0 W->Ev0 W eb->Calls jZ 71 #[jQ<|Z<|jB eb 0 V,vx] W (Pv G aS aO aZ aW o W)
theorem YD(a:jD)(d:∀b,jh (Q a)<=b->G b)(hS:Cx a aS aO aZ aW)(e:Ex)(he:e.bA)(hc:e.cst)(t:Int)(ht:An [] e=Z t)(m:e.mem G a):CvV G aS aO aZ aW a e.val<|At SS [] e:=λf g c R=>EU g SS e he hc t ht f ⟨λb h=>d b<|zB c.size h,hS.below c NLN,e.aG c NLN m⟩
theorem YE(d:jD)(g:∀b,R (Q d)<=b->G b)(hS:Cx d aS aO aZ aW)(e:Ex)(v:Vv)(f:e.cv=Z v)(m:e.mem G d):CvV G aS aO aZ aW d e.val<|.ok v:=by have h:=λhe hc t ht=>YD d g hS e he hc t ht m;cases e with|int i n=>cases f;exact h trivial trivial _ rfl|text i n=>cases f;exact h trivial trivial _ rfl|bool i n=>cases f;exact h trivial trivial _ rfl|set i a n c ss=>cases f;exact h trivial trivial _ rfl|_=>cases f
theorem Ahh(b c:jF)(w:jD)(m:Hid<|∀w,Calls jZ 138 #[b] w<|Bb jG w)(n:Hid<|∀w,Calls jZ 138 #[c] w<|Bb jG w)(x y:Bool)(o:Hid<|CvV G aS aO aZ aW w b<|.ok<|.bool x)(p:Hid<|CvV G aS aO aZ aW w c<|.ok<|.bool y):Calls jZ 143 #[b,c] w (Bb (CJ (.bool x)<|.bool y) w):=by have g:=IQ w;go_enter func143,ntmps143;go_wp2_with fail;refine(Aa m _).mono ?_;rintro a z ⟨rfl,q⟩;have h:=g.trans<|q.mono g.size;dsimp only;go_wp2_with fail;refine(Aa n _).mono ?_;rintro a w2 ⟨rfl,r⟩;have i:=h.trans<|r.mono h.size;have d:=i.alloc i.size<|jC #[jA ⟨#[]⟩,jA ⟨#[]⟩,T U 0,T U 0,jd V 0 0,jd V 0 0,jd V 0 0] 68;have j:=Ah.new w2 #[jA ⟨#[]⟩,jA ⟨#[]⟩,T U 0,T U 0,jd V 0 0,jd V 0 0,jd V 0 0] 68;dsimp only;go_wp2_with fail;refine(Aa o _ _ d j).mono ?_;rintro a A ⟨⟨X,rfl,hx⟩,k⟩;obtain rfl:=hx;have f:=d.trans<|k.mono d.size;have s:=j.aB k NLN;dsimp only;go_wp2_with fail;refine(Aa p _ _ f s).mono ?_;rintro a B ⟨⟨Y,rfl,hy⟩,t⟩;obtain rfl:=hy;have l:=f.trans<|t.mono f.size;have C:=AbU x;dsimp only;go_wp2_with fail;refine(TJ x y _).mono ?_;rintro a D ⟨rfl,u⟩;have v:=l.trans<|u.mono l.size;dsimp only;go_wp2;go_ret;exact⟨rfl,v⟩
theorem AjZ(b c:jF)(w:jD)(m:Hid<|∀w,Calls jZ 138 #[b] w<|Bb jG w)(n:Hid<|∀w,Calls jZ 138 #[c] w<|Bb jG w)(x y:Int)(o:Hid<|CvV G aS aO aZ aW w b<|.ok<|.int x)(p:Hid<|CvV G aS aO aZ aW w c<|.ok<|.int y):Calls jZ 143 #[b,c] w (Bb (CJ (.int x)<|.int y) w):=by have g:=IQ w;go_enter func143,ntmps143;go_wp2_with fail;refine(Aa m _).mono ?_;rintro a z ⟨rfl,q⟩;have h:=g.trans<|q.mono g.size;dsimp only;go_wp2_with fail;refine(Aa n _).mono ?_;rintro a w2 ⟨rfl,r⟩;have i:=h.trans<|r.mono h.size;have d:=i.alloc i.size<|jC #[jA ⟨#[]⟩,jA ⟨#[]⟩,T U 0,T U 0,jd V 0 0,jd V 0 0,jd V 0 0] 68;have j:=Ah.new w2 #[jA ⟨#[]⟩,jA ⟨#[]⟩,T U 0,T U 0,jd V 0 0,jd V 0 0,jd V 0 0] 68;dsimp only;go_wp2_with fail;refine(Aa o _ _ d j).mono ?_;rintro a A ⟨⟨X,rfl,hx⟩,k⟩;obtain⟨rfl,B⟩:=hx;have f:=d.trans<|k.mono d.size;have s:=j.aB k NLN;dsimp only;go_wp2_with fail;refine(Aa p _ _ f s).mono ?_;rintro a C ⟨⟨Y,rfl,hy⟩,t⟩;obtain⟨rfl,D⟩:=hy;have l:=f.trans<|t.mono f.size;have E:=Afn x;dsimp only;go_wp2_with fail;refine(TM x y _).mono ?_;rintro a F ⟨rfl,u⟩;have v:=l.trans<|u.mono l.size;dsimp only;go_wp2;go_ret;exact⟨rfl,v⟩
theorem Ahi(b c:jF)(w:jD)(m:Hid<|∀w,Calls jZ 138 #[b] w<|Bb jG w)(n:Hid<|∀w,Calls jZ 138 #[c] w<|Bb jG w)(x y:M1)(o:Hid<|CvV G aS aO aZ aW w b<|.ok<|.text x)(p:Hid<|CvV G aS aO aZ aW w c<|.ok<|.text y):Calls jZ 143 #[b,c] w (Bb (CJ (.text x)<|.text y) w):=by have g:=IQ w;go_enter func143,ntmps143;go_wp2_with fail;refine(Aa m _).mono ?_;rintro a z ⟨rfl,q⟩;have h:=g.trans<|q.mono g.size;dsimp only;go_wp2_with fail;refine(Aa n _).mono ?_;rintro a w2 ⟨rfl,r⟩;have i:=h.trans<|r.mono h.size;have d:=i.alloc i.size<|jC #[jA ⟨#[]⟩,jA ⟨#[]⟩,T U 0,T U 0,jd V 0 0,jd V 0 0,jd V 0 0] 68;have j:=Ah.new w2 #[jA ⟨#[]⟩,jA ⟨#[]⟩,T U 0,T U 0,jd V 0 0,jd V 0 0,jd V 0 0] 68;dsimp only;go_wp2_with fail;refine(Aa o _ _ d j).mono ?_;rintro a A ⟨⟨X,rfl,hx⟩,k⟩;obtain rfl:=hx;have f:=d.trans<|k.mono d.size;have s:=j.aB k NLN;dsimp only;go_wp2_with fail;refine(Aa p _ _ f s).mono ?_;rintro a B ⟨⟨Y,rfl,hy⟩,t⟩;obtain rfl:=hy;have l:=f.trans<|t.mono f.size;have C:=AbV x;dsimp only;go_wp2_with fail;refine(TN x y _).mono ?_;rintro a D ⟨rfl,u⟩;have v:=l.trans<|u.mono l.size;dsimp only;go_wp2;go_ret;exact⟨rfl,v⟩
theorem Aj0(b c:jF)(w:jD)(o:Hid<|∀w,Calls jZ 138 #[b] w<|Bb jG w)(p:Hid<|∀w,Calls jZ 138 #[c] w<|Bb jG w)(x y:M6)(q:Hid<|CvV G aS aO aZ aW w b<|.ok<|.set x)(r:Hid<|CvV G aS aO aZ aW w c<|.ok<|.set y):Calls jZ 143 #[b,c] w (Bb (CJ (.set x)<|.set y) w):=by have g:=IQ w;go_enter func143,ntmps143;go_wp2_with fail;refine(Aa o _).mono ?_;rintro a C ⟨rfl,s⟩;have h:=g.trans<|s.mono g.size;dsimp only;go_wp2_with fail;refine(Aa p _).mono ?_;rintro a w2 ⟨rfl,t⟩;have i:=h.trans<|t.mono h.size;have d:=i.alloc i.size<|jC #[jA ⟨#[]⟩,jA ⟨#[]⟩,T U 0,T U 0,jd V 0 0,jd V 0 0,jd V 0 0] 68;have j:=Ah.new w2 #[jA ⟨#[]⟩,jA ⟨#[]⟩,T U 0,T U 0,jd V 0 0,jd V 0 0,jd V 0 0] 68;dsimp only;go_wp2_with fail;refine(Aa q _ _ d j).mono ?_;rintro a D ⟨⟨X,rfl,hx⟩,k⟩;obtain⟨a1,l,c1,rfl,u,E,_⟩:=hx;have f:=d.trans<|k.mono d.size;have v:=j.aB k NLN;dsimp only;go_wp2_with fail;refine(Aa r _ _ f v).mono ?_;rintro a F ⟨⟨Y,rfl,hy⟩,m⟩;obtain⟨a2,n2,c2,rfl,z,H,_⟩:=hy;have n:=f.trans<|m.mono f.size;have I:=Afo a1 l c1;dsimp only;go_wp2_with fail;refine(TQ a1 l c1 x a2 n2 c2 y _ (u.below m NLN) z).mono ?_;rintro a J ⟨rfl,A⟩;have B:=n.trans<|A.mono n.size;dsimp only;go_wp2;go_ret;exact⟨rfl,B⟩
theorem Aj1(d f:jF)(w:jD)(a b:Bool)(i:Hid<|∀w,Calls jZ 138 #[d] w<|Bb a w)(j:Hid<|∀w,Calls jZ 138 #[f] w<|Bb b w)(hc:(a&&b)=jI):Calls jZ 143 #[d,f] w (Bb jI w):=by have g:=IQ w;have h:=Ab hc;clear hc;go_enter func143,ntmps143;go_wp2_with fail;refine(Aa i _).mono ?_;rintro k o ⟨rfl,l⟩;have c:=g.trans<|l.mono g.size;cases a with|false=>dsimp only;go_wp2;go_ret;exact⟨rfl,c⟩|true=>
  have hy:b=jI:=by simpa using Aa h
  clear h;subst hy;dsimp only;go_wp2_with fail;refine(Aa j _).mono ?_;rintro k w2 ⟨rfl,m⟩;have n:=c.trans<|m.mono c.size;dsimp only;go_wp2;go_ret;exact⟨rfl,n⟩
theorem Sk{e:Ex}(h:e.bQ=jG):∃v,e.cv=Z v:=yI.1 h
def AmP(x y:Ex):Prop:=∀v u,x.cv=Z v->y.cv=Z u->v.ty=u.ty
theorem Aek{x y:Ex}{u:Vv}(hx:x.cv=Z v)(hy:y.cv=Z u):VY x y=CJ v u:=by rw[VY,Ex.bQ,hx,hy,CJ];simp
theorem Aj2(x y:Ex)(w:jD)(c:∀b,R (Q w)<=b->G b)(hS:Cx w aS aO aZ aW)(mx:x.mem G w)(my:y.mem G w)(ht:AmP x y):Calls jZ 143 #[x.val,y.val] w<|Bb (VY x y) w:=by
 have hx:=Cd x;have hy:=Cd y;by_cases hc:(x.bQ&&y.bQ)=jG
 .rw[zF]at hc;obtain⟨v,a⟩:=Sk hc.1;obtain⟨u,hu⟩:=Sk hc.2;have h1:=YE w c hS x v a mx;have h2:=YE w c hS y u hu my;have g:=ht v u a hu;rw[hc.1]at hx;rw[hc.2]at hy;rw[Aek a hu];cases v<;>cases u<;>first|(simp[Vv.ty]at g;done)|exact Ahh _ _ w (Ab hx) (Ab hy) _ _ (Ab h1) (Ab h2)|exact AjZ _ _ w (Ab hx) (Ab hy) _ _ (Ab h1) (Ab h2)|exact Ahi _ _ w (Ab hx) (Ab hy) _ _ (Ab h1) (Ab h2)|exact Aj0 _ _ w (Ab hx) (Ab hy) _ _ (Ab h1)<|Ab h2
 have hf:(x.bQ&&y.bQ)=jI:=by simpa using hc
 have he:VY x y=jI:=by unfold VY;cases d:x.bQ with|false=>rfl|true=>
   rw[d]at hf;have f:y.bQ=jI:=hf;have h1:y.cv=V:=by unfold Ex.bQ at f;simpa using f
   obtain⟨v,a⟩:=Sk d;rw[h1,a];simp
 rw[he];exact Aj1 _ _ w _ _ (Ab hx) (Ab hy) hf
end
section
open Go.RowKit
variable{aS aO aZ aW:jH}{G:Nat->Prop}
theorem Wc(hS:S≠207)(v:jF)(w:jD):Calls jZ 86 #[jJ S v] w<|CQ jT w:=by have b:=AI (S:=S) (T:=207) underlying207 zeroValue207 hS 86;have a:=Ar w<|jC #[ja U 0,jT,jT,jT] 207;clear hS;go_enter func86,ntmps86;go_wp2;go_ret;exact⟨rfl,a⟩
theorem YF(i:Int)(c:jR)(d:jF)(f:jR)(g:jF)(h:jR)(j:jF)(w:jD)(m n q s:Bool)(G:Hid<|∀w,Calls jZ 53 #[jJ c d,.bool jG] w<|Bb m w)(H:Hid<|∀w,Calls jZ 53 #[jJ c d,.bool jI] w<|Bb n w)(I:Hid<|∀o,Ak w o->Calls jZ 143 #[jJ f g,jJ h j] o (Bb q o))(J:Hid<|∀w,Calls jZ 48 #[jJ c d] w<|Bb s w)(u:jF)(k:Hid<|u=if m then jJ f g else if n then jJ h j else if q&&s then jJ f g else jT):Calls jZ 86 #[jJ 207<|jL #[ja U i,jJ c d,jJ f g,jJ h j]] w (CQ u w):=by have L:=CK (T:=207) underlying207 86;have v:=Ar w<|jC #[ja U i,jJ c d,jJ f g,jJ h j] 207;have x:=Ah.new w #[ja U i,jJ c d,jJ f g,jJ h j] 207;obtain⟨a,b,r2,r3⟩:=Np x;go_enter func86,ntmps86;go_wp2_with fail;refine(Aa G _).mono ?_;rintro p M ⟨rfl,y⟩;have r:=v.trans<|y.mono v.size;have z:=x.aB y NLN;clear a b r2 r3;obtain⟨a,b,r2,r3⟩:=Np z;cases m with|true=>dsimp only;go_wp2;go_ret;exact⟨congrArg jN (Aa k).symm,r⟩|false=>dsimp only;go_wp2_with fail;refine(Aa H _).mono ?_;rintro p w2 ⟨rfl,A⟩;have l:=r.trans<|A.mono r.size;have B:=z.aB A NLN;clear a b r2 r3;obtain⟨a,b,r2,r3⟩:=Np B;cases n with|true=>dsimp only;go_wp2;go_ret;exact⟨congrArg jN (Aa k).symm,l⟩|false=>dsimp only;go_wp2_with fail;refine(Aa I _ l).mono ?_;rintro p N ⟨rfl,C⟩;have t:=l.trans<|C.mono l.size;have D:=B.aB C NLN;clear a b r2 r3;obtain⟨a,b,r2,r3⟩:=Np D;cases q with|false=>dsimp only;go_wp2;go_ret;exact⟨congrArg jN (Aa k).symm,t⟩|true=>dsimp only;go_wp2_with fail;refine(Aa J _).mono ?_;rintro p O ⟨rfl,E⟩;have F:=t.trans<|E.mono t.size;have K:=D.aB E NLN;clear a b r2 r3;obtain⟨a,b,r2,r3⟩:=Np K;cases s with|false=>dsimp only;go_wp2;go_ret;exact⟨congrArg jN (Aa k).symm,F⟩|true=>dsimp only;go_wp2;go_ret;exact⟨congrArg jN (Aa k).symm,F⟩
noncomputable def JA:Ex->N5|.ite _ c t e=>if isB jG c then Z t else if isB jI c then Z e else if VY t e&&AD c then Z t else V|_=>V
def AmQ:Ex->Prop|.ite _ _ t e=>AmP t e|_=>True
theorem YG(e:Ex)(w:jD)(k:∀b,R (Q w)<=b->G b)(hS:Cx w aS aO aZ aW)(m:e.mem G w)(ht:AmQ e):Calls jZ 86 #[e.val] w<|Bd G (JA e) w:=by
 have l:Calls jZ 86 #[e.val] w<|CQ (oV<|JA e) w:=by cases e with|ite i c x y=>obtain⟨n,o,j⟩:=c.form;obtain⟨p,q,f⟩:=x.form;obtain⟨r,s,g⟩:=y.form;have h1:=DH c jG;have h2:=DH c jI;have h3:=DI c;have h4:∀a,Ak w a->Calls jZ 143 #[x.val,y.val] a (Bb (VY x y) a):=λa d=>Aj2 x y a (λb h=>k b<|zB d.size h) (hS.below d NLN) (x.aG d NLN m.2.1) (y.aG d NLN m.2.2) ht;rw[j]at h1 h2 h3;rw[f,g]at h4;simp only[Ex.val,j,f,g];refine YF i n o p q r s w _ _ _ _ (Ab h1) (Ab h2) (Ab h4) (Ab h3) _<|Ab ?_;rw[<-f,<-g,JA];cases isB jG c<;>cases isB jI c<;>cases VY x y<;>cases AD c<;>rfl|_=>exact Wc Ob _ _
 refine l.mono λt w' h=>Bd.of h rfl λx hx=>?_;cases e with
 |ite i c y z=>
  simp only[JA]at hx;repeat' split at hx
  all_goals first|(cases hx;first|exact m.2.1|exact m.2.2)|cases hx
 |_=>cases hx
end
section
open Go.RowKit
def JN(cl us:M1)(s1 s2:M6):Bool:=vnB cl&&vnB us&&Ax s1&&Ax s2
theorem My(cl us:M1)(lv nw:Int)(a1:M3)(b c1:Nat)(s1:M6)(a2:M3)(n2 c2:Nat)(s2:M6)(w:jD)(g:cl.size<=maxLen)(h:us.size<=maxLen)(h1:Am w a1 b c1 s1)(h2:Am w a2 n2 c2 s2):Calls jZ 32 #[jL #[jA cl,jA us,T U lv,T U nw,X a1 b c1,X a2 n2 c2]] w λe w'=>e=jN (.bool<|JN cl us s1 s2)/\Ak w w':=by
 have a:Ak w<|jK w<|jC #[jA cl,jA us,T U lv,T U nw,X a1 b c1,X a2 n2 c2] 36:=BRN.alloc NLN _;have g1:=h1.below a NLN;have g2:=h2.below a NLN;go_enter func32,ntmps32;go_wp2_with fail;refine(DC _ _ g).mono ?_;rintro e w' ⟨rfl,rfl⟩;cases c:vnB cl
 .go_wp2;go_ret;exact⟨Ae<|by simp[JN,c],a⟩
 go_wp2_with fail;refine(DC _ _ h).mono ?_;rintro e w' ⟨rfl,rfl⟩;cases d:vnB us
 .go_wp2;go_ret;exact⟨Ae<|by simp[JN,d],a⟩
 go_wp2_with fail;refine(Ay _ _ _ _ _ g1).mono ?_;rintro e w' ⟨rfl,rfl⟩;cases f:Ax s1
 .go_wp2;go_ret;exact⟨Ae<|by simp[JN,f],a⟩
 go_wp2_with fail;refine(Ay _ _ _ _ _ g2).mono ?_;rintro e w' ⟨rfl,rfl⟩;go_wp2;go_ret;exact⟨Ae<|by simp[JN,c,d,f],a⟩
theorem Mv(cl us:M1)(lv nw:Int)(a1:M3)(c c1:Nat)(s1:M6)(a2:M3)(n2 c2:Nat)(s2:M6)(w:jD)(h:cl.size<=maxLen)(i:us.size<=maxLen)(h1:Am w a1 c c1 s1)(h2:Am w a2 n2 c2 s2):Calls jZ 27 #[jL #[jA cl,jA us,T U lv,T U nw,X a1 c c1,X a2 n2 c2]] w λe w'=>e=jN (.bool<|JN cl us s1 s2)/\Ak w w':=by
 have a:Ak w<|jK w<|jC #[jA cl,jA us,T U lv,T U nw,X a1 c c1,X a2 n2 c2] 36:=BRN.alloc NLN _;have g1:=h1.below a NLN;have g2:=h2.below a NLN;go_enter func27,ntmps27;go_wp2_with fail;refine(EH _ _ h).mono ?_;rintro e w' ⟨rfl,rfl⟩;cases d:vnB cl
 .go_wp2;go_ret;exact⟨Ae<|by simp[JN,d],a⟩
 go_wp2_with fail;refine(EH _ _ i).mono ?_;rintro e w' ⟨rfl,rfl⟩;cases f:vnB us
 .go_wp2;go_ret;exact⟨Ae<|by simp[JN,f],a⟩
 go_wp2_with fail;refine(AA _ _ _ _ _ g1).mono ?_;rintro e k ⟨rfl,b⟩;cases g:Ax s1
 .go_wp2;go_ret;exact⟨Ae<|by simp[JN,g],a.trans<|b.mono Oz⟩
 obtain⟨hc,hf⟩:=Aml b;go_wp2_with fail;refine(AA _ _ _ _ _<|g2.below b NLN).mono ?_;rintro e w2 ⟨rfl,j⟩;go_wp2;go_ret;have z1:=b.size;simp at z1;exact⟨Ae<|by simp[JN,d,f,g],(a.trans<|b.mono Oz).trans<|j.mono Oa⟩
set_option linter.unusedVariables false
structure IP(S:Nat->Prop)(w w':jD):Prop where
 os:w'.os=w.os
 tape:w'.tape=w.tape
 output:w'.output=w.output
 size:R (Q w)<=R (Q w')block:∀k,k<R (Q w)->¬ S k->(Q w')[k]?=(Q w)[k]?
theorem IP.aU{S:Nat->Prop}(h:Below (R<|Q w) w w'):IP S w w':=⟨h.os,h.tape,h.output,h.size,λk a _=>h.block k a⟩
theorem IP.refl(S:Nat->Prop)(w:jD):IP S w w:=⟨rfl,rfl,rfl,NLN,λ_ _ _=>rfl⟩
theorem IP.trans{S T:Nat->Prop}{a b c:jD}(h:IP S a b)(k:IP T b c)(d:∀q,q<a.heap.size->T q->S q):IP S a c:=⟨k.os.trans h.os,k.tape.trans h.tape,k.output.trans h.output,Nat.le_trans h.size k.size,λq hq hS=>(k.block q (Nat.lt_of_lt_of_le hq h.size) λt=>hS<|d q hq t).trans<|h.block q hq hS⟩
theorem IP.setCell{S:Nat->Prop}{a b:jD}(h:IP S a b){p:jH}(c:jW p<a.heap.size->S (jW p))(u:jF):IP S a<|b.setCell p u:=⟨h.os,h.tape,h.output,by simpa using h.size,λq hq hS=>(L2 b p q u λe=>hS<|by subst e;exact c hq).trans<|h.block q hq hS⟩
theorem Ah.cX{S:Nat->Prop}{t:jR}(h:Ah w b cs t)(k:IP S w w')(hS:¬ S b):Ah w' b cs t:=⟨(k.block b h.lt hS).trans h.out⟩
theorem IF{t:jR}{row:Wa}(h:Ah w b cs t)(g:w.grownBy w' row)(a:Z b≠row):Ah w' b cs t:=⟨(g.block b h.lt a).trans h.out⟩
end
section
open Go.RowKit
variable{F:Fence}{n:Nat}{P:Program}
def Ae4(F:Fence)(n:Nat)(P:Program)(gf:Nat)(lb:Array jF)(enc:Nat->Array jF)(N:Nat)(Kp:jD->jD->Prop)(w:jD):Prop:=∀(l:Nat) (J:Nat->jD->Prop) (W:jD),Below (R<|Q w) w W->(∀k W1,J k W1->k<N->YieldAt F (n-1) P l (enc k) W1 λe W'=>e=jN (.bool jG)/\J (k+1) W'/\Kp W1 W')->J 0 W->CallsIn F n P gf (#[.func (.yield l) #[] #[]]++lb) W λe W'=>(∃v,e=jN v)/\J N W'
def AkL(B:Nat)(Kp:jD->jD->Prop)(I:jD->Prop)(W:jD):Exit->Act->jD->Prop|.normal,_,W'=>KeepsFrom B W W'/\Kp W W'/\I W'|_,_,_=>False
theorem Vg{g:Operand}{m:Array Tmp}{assign body:Code}{D:Exit->Act->jD->Prop}{a:Act}(J:F.round=jc)(h1:1<=n){gf:Nat}{lb:Array jF}(hg:a.eval g=.func (.func gf) #[] lb)(K:F.fn gf)(L:∀args w,(callFunc gf args).run P w=.ok (.enter gf args) w){enc:Nat->Array jF}{Kp:jD->jD->Prop}(x:∀{A B C:jD},Kp A B->Kp B C->Kp A C)(E:∀(b:jD)(l:Nat)(o o':Obj),jh (Q w)<=l->(Q b)[l]?=Z o->o.isCells=jI->Kp b (b.putObj l o'))(M:Ae4 F (n-1) P gf lb enc N Kp w)(O:∀k,(enc k).size=m.size)(c:Nat->jD->Prop)(q:OwnFrom (jh<|Q w) c)(h0:c 0 w)(S:∀(l k:Nat)(b:jD),jh (Q w)<=l->c k b->k<N->assign.wpIn (F.inRound l) (n-1-1) P (Exit.then (λG y=>KeepsFrom (jh<|Q w) b y/\Kp b y/\∃A:Unit->jD->Prop,OwnFrom (jh<|Q w) A/\A () y/\∀r,A () r->body.wpIn (F.inRound l) (n-1-1) P (AkL (jh<|Q w) Kp (c<|k+1) r) G r) λ_ _ _=>False) {tmps:=(m.zip<|enc k).foldl (λt (p,v)=>t.setIfInBounds p v) a.tmps,defers:=[]} b)(W:∀(z:Nat) (b:jD),jh (Q w)<=z->c N b->(Q b)[z]?=Z (.deferred<|Z [])->D .normal {a with defers:={target:=.collected z,args:=#[]}::a.defers} b):(Code.rangeFunc g m assign body).wpIn F n P D a w:=by
 refine wpIn_rangeFunc λfn aa=>?_;rw[J];obtain⟨R,d⟩:∃R:LoopState->Loop,R=λst=>{state:=st,pending:=jc,fn:=fn,tmps:=a.tmps,params:=m,assign:=assign,body:=body,defers:=jh (Q w)}:=⟨_,rfl⟩;obtain⟨V,h⟩:∃V,V=jK (jK w (.deferred (Z []))) (.loop (R .ready)):=⟨_,rfl⟩;have zl:(Q V)[jh (Q w)+1]?=Z (.loop<|R .ready):=by have:=World.alloc_heap_new (jK w<|.deferred<|Z [])<|.loop<|R .ready;rw[K6]at this;rw[h];exact this
 have ab:(Q V)[jh<|Q w]?=Z (.deferred<|Z []):=by rw[h];exact(Below.heap_alloc _ _ _ Oz).trans (World.alloc_heap_new w _)
 have ac:c 0 V:=by rw[h];exact q.alloc _<|q.alloc _ h0
 have zb:Below (jh<|Q w) w V:=by rw[h];exact((Below.refl _ w).alloc NLN _).alloc Oz _
 refine⟨jh (Q w)+1,[{target:=.collected (jh<|Q w),args:=#[]}],V,{target:=.fn (.func gf) lb,args:=#[.func (.yield<|jh (Q w)+1) #[] #[]]},V,gf,#[.func (.yield<|jh (Q w)+1) #[] #[]]++lb,V,?_,?_,?_,?_,λ_=>h1,?_⟩
 .rw[h,d];exact run_enterLoop_outer _ _ _ _ _
 .simp only[resolve,hg];simp[go_sem]
 .intro aw hf';simp[Target.leads]at hf';subst hf';exact K
 .simp[invoke,go_sem,L]
 refine(M (jh (Q w)+1) (λk b=>c k b/\(Q b)[jh (Q w)+1]?=Z (.loop<|R .ready)/\(Q b)[jh<|Q w]?=Z (.deferred<|Z [])) V zb ?_ ⟨ac,zl,ab⟩).mono ?_
 .rintro k b ⟨hi,i,hd⟩ad;have hy:=run_yield (P:=P) (args:=enc k) i (by rw[d];exact O k);rw[d]at hy;refine⟨fn,_,assign,body,hy,roundIn_of_wpIn aa<|wpIn_mono (S (jh (Q w)+1) k b Oa hi ad) ?_⟩;rintro e G j f;cases e with
  |normal=>obtain⟨H,b1,A,ae,af,ag⟩:=f;have s:=H.same _ _ Oa i rfl;have ah:=H.same _ _ NLN hd rfl;have ai:jh (Q w)+1<jh (Q j):=(Array.getElem?_eq_some_iff.1 s).1;refine⟨_,run_beginRound s<|by rw[d],?_⟩;have aj:(j.putObj (jh (Q w)+1)<|.loop {R .ready with state:=.busy}).heap[jh (Q w)+1]?=Z (.loop {R .ready with state:=.busy}):=World.putObj_heap_same ai;have ak:(j.putObj (jh (Q w)+1)<|.loop {R .ready with state:=.busy}).heap[jh<|Q w]?=Z (.deferred<|Z []):=(World.putObj_heap_other Oa).trans ah;have b2:Kp j<|j.putObj (jh (Q w)+1)<|.loop {R .ready with state:=.busy}:=E _ _ _ _ Oa s rfl;refine wpIn_mono (ag _<|ae.putObj _ af Oa s rfl) ?_;rintro e3 a3 al h3;cases e3 with
   |normal=>
    obtain⟨I,b3,ao⟩:=h3;have u:=I.same _ _ Oa aj rfl;have ap:=I.same _ _ NLN ak rfl;have he:=run_endRound (P:=P) jc u;have aq:jh (Q w)+1<jh (Q al):=(Array.getElem?_eq_some_iff.1 u).1;have ar:{{R .ready with state:=.busy}with state:=if (jc:M2 Code).isNone then LoopState.ready else .done,pending:=jc}=R .ready:=by rw[d];rfl
    rw[ar]at he;exact⟨_,_,he,rfl,⟨q.putObj _ ao Oa u rfl,World.putObj_heap_same aq,(World.putObj_heap_other Oa).trans ap⟩,x (x (x b1 b2) b3)<|E _ _ _ _ Oa u rfl⟩|ret=>exact h3.elim|exit id=>exact h3.elim|goto t=>exact h3.elim|panic au=>exact h3.elim|outgrown=>exact h3.elim
  |ret=>exact f.elim|exit id=>exact f.elim|goto t=>exact f.elim|panic au=>exact f.elim|outgrown=>exact f.elim
 rintro e r ⟨⟨v,rfl⟩,hi,i,hd⟩;have he:=run_endLoop (P:=P) i (by rw[d];simp);have av:(R .ready).pending=jc:=by rw[d]
 rw[av]at he;exact⟨jc,_,he,W _ _ NLN (q.putObj _ hi Oa i rfl)<|(World.putObj_heap_other Oa).trans hd⟩
end
section
open Go.ChangeShapes Go.WideShapes Go.ChangeAt Go.RowKit
theorem Af8:jZ.cellsOf 3=1:=Ok
theorem Yb:jZ.cellsOf 9=1:=Ok
theorem Us{P:Program}{a:jD}{n:String}{g:Nat}(hg:P.globalNamed n=Z g)(h:a.var? P n=Z cs):g<R (Q a):=by
 obtain k|k:=Nat.lt_or_ge g<|R<|Q a
 .exact k
 unfold World.var? at h;rw[hg]at h;simp[Array.getElem?_eq_none k]at h
theorem AmB:∀u,jZ.typeName? 3 u=Z "*errors.errorString"->u=313:=typeName_ptr_named (nm:= "errors.errorString") Ok Ok Ob
theorem AiY:jZ.cellsOf 342=1:=Ok
theorem Af9{d:jD}{n:String}{text:N9}{g:Nat}{f:Nat}{h:List MemPlace}(hg:jZ.globalNamed n=Z g)(i:d.var? jZ n=Z cs)(hd:DataW.trod (λ_=>()) jZ d 0 (λ_=>jG) jI f 59 cs.toList=Z (.iface "*errors.errorString" (.ptr<|.agg [.lit<|.string text]),p))(j:∀x∈MemPlace.row (jB g 0 V) cs.size++p,x∈h)(k:∀b m,MemPlace.cell b m∈h->(∃c t,(Q d)[b]?=Z (.cells c t (0,0)))/\∀u v,jE d (jB b m V)=Z (.iface u v)->Value.okWide jZ d .any 0 u v):∃a,cs=#[.iface 313<|.pointer<|Z a]/\p=MemPlace.row a 1/\(∃c t,(Q d)[jW a]?=Z (.cells c t (0,0)))/\jE d (jB g 0 V)=Z (.iface 313<|.pointer<|Z a):=by
 obtain⟨l⟩:=cs;have ok:∀u v,l=[.iface u v]->Value.okWide jZ d .any 0 u v:=λu v e=>by subst e;exact(k g 0<|j _<|by simp[MemPlace.row]).2 u v (by simpa using World.var?_cell hg i 0)
 obtain⟨a,s,rfl,hc,_,_,rfl⟩:=errorString_of_trod underlying59 AmB underlying313 underlying342 rfl rfl underlying9 AiY Yb hd ok;exact⟨a,rfl,rfl,(k (jW a) a.off<|j _<|by simp[MemPlace.row]).1,by simpa using World.var?_cell hg i 0⟩
def AmC(x:String×N9×Nat):String×DataW Unit:=(x.1,.iface "*errors.errorString" (.ptr<|.agg [.lit<|.string x.2.1]))
theorem Ut{d:jD}{m:List MemPlace}(n:∀b k,MemPlace.cell b k∈m->(∃c t,(Q d)[b]?=Z (.cells c t (0,0)))/\∀u v,jE d (jB b k V)=Z (.iface u v)->Value.okWide jZ d .any 0 u v):∀(S:List<|String×N9×Nat)(l:List<|String×DataW Unit)(g:List MemPlace),(∀x∈S,jZ.globalNamed x.1=Z x.2.2/\(jZ.globals[x.2.2]?).map (·.type)=Z 59)->(∀x∈g,x∈m)->DataW.LaidVars jZ d (S.map AmC++l) g->g.Nodup->∃(f:Nat->jH)(q:List MemPlace),(∀i x,S[i]?=Z x->d.var? jZ x.1=Z #[.iface 313<|.pointer<|Z<|f i]/\jE d (jB x.2.2 0 V)=Z (.iface 313<|.pointer<|Z<|f i)/\Blk d (f i)/\MemPlace.cell (jW<|f i) (f i).off∈g)/\(∀i j,i<Y S->j<Y S->f i=f j->i=j)/\DataW.LaidVars jZ d l q/\(∀x∈q,x∈g)/\q.Nodup
 |[],l,g,_,_,h,hn=>⟨λ_=>(jB 0 0 V),g,λi x hx=>by simp at hx,λi j hi=>K4 hi Oz,h,λ_ h=>h,hn⟩|x::S,l,g,hg,hp,h,hn=>by
  obtain⟨C,t,cs,fu,p,q,h1,h2,h3,h4,h5,rfl⟩:=h;obtain⟨g1,g2⟩:=hg x zR;obtain rfl:=Mk<|g1.symm.trans h1;obtain rfl:=Mk<|g2.symm.trans h2;obtain⟨a,rfl,rfl,o,ca⟩:=Af9 g1 h3 h4 (λy hy=>hp y<|z3 _ hy) n;obtain⟨D,n2,n3⟩:=List.nodup_append.1 hn;obtain⟨f,r,s,E,w,z,A⟩:=Ut n S l q (λy hy=>hg y<|zV _ hy) (λy hy=>hp y<|yC _ hy) h5 n2;have F:∀i,i<Y S->a≠f i:=λi hi e=>by have:=(s i _<|zE hi).2.2.2;rw[<-e]at this;exact n3 _ (yC _<|by simp[MemPlace.row]) _ this rfl
  refine⟨λ|0=>a|i+1=>f i,r,λi y hy=>?_,λi j hi B e=>?_,w,λy hy=>yC _<|z y hy,A⟩
  .cases i with|zero=>cases hy;exact⟨h3,ca,o,z3 _<|yC _<|by simp[MemPlace.row]⟩|succ i=>grind[yC]
  simp at hi B;cases i<;>grind
def Ak1{H:Type}:DataW H->M2 jF|.lit (.int .i64 x)=>Z<|.int .i64 x|.lit (.string s)=>Z<|.string ⟨s.toArray⟩|_=>V
def VE{H:Type}:DataW H->List (M2 jF)|.agg ds=>ds.map Ak1|_=>[]
def Akz{H:Type}:DataW H->List (M2 jF)|.agg Rr=>Rr.flatMap VE|_=>[]
theorem AmD{α b d:Type}(c:Nat)(g:α->List b)(f:d->b):∀(a:List α)(cs:List d),Y cs=Y a*c->(∀i(h:i<Y a),((cs.drop<|i*c).take c).map f=g a[i])->cs.map f=a.flatMap g
 |[],cs,h,_=>by grind[List.length_eq_zero_iff]|x::a,cs,h,k=>by
  rw[List.length_cons,Nat.succ_mul]at h;have j:=AmD c g f a (cs.drop c) (by rw[List.length_drop];omega) λi hi=>by have:=k (i+1) (by simpa using hi);grind[List.drop_drop]
  have h0:=k 0 Oz;grind[Z3]
theorem Aga{g:Type}{enc:jR×jF->g}{o:Nat->Bool}{q:Bool}{fuel:Nat}{T:jR}{b:Array Field}{l:N4}{d:DataW g}(hu:jZ.underlying T=Z (.struct b))(hc:jZ.cellsOf T=b.size)(hf:∀(i:Nat)(f:Field),b[i]?=Z f->f.offset=i/\(f.type=3\/f.type=9))(h:DataW.trod enc jZ w 0 o q fuel T l=Z (d,p)):l.map Z=VE d:=by
 obtain⟨c,n,_,hd,r,t,hx⟩:=DataW.trod_struct hu h;cases hd;rw[hc]at r;refine List.ext_getElem? λi=>?_;simp only[VE,zi];by_cases hi:i<b.size
 .have j:i<Y l:=Oa;obtain⟨s,ht⟩:=hf i b[i]<|Array.getElem?_eq_getElem hi;have e:=hx i b[i]<|Array.getElem?_eq_getElem hi;have s1:(l.drop i).take 1=[l[i]]:=by rw[Z7 j];rfl
  have hy:=zE (l:=c) (Oa:i<Y c);generalize c[i]' Oa=y at hy;rw[s,hy]at e;rw[zE j,hy];obtain ht|ht:=ht
  .rw[ht,Af8,s1]at e;obtain⟨a,k,m,_⟩:=DataW.trod_int underlying3 e;grind[List.cons.injEq,Ak1]
  rw[ht,Yb,s1]at e;obtain⟨a,k,m,_⟩:=DataW.trod_string underlying9 e;simp only[List.cons.injEq,and_true]at k;rw[k];simp[m,Ak1]
 grind[zw]
theorem VF{b:jD}{n:String}{d:DataW Unit}{l:List (String×DataW Unit)}{q:List MemPlace}{g k:Nat}{A T:jR}{a:Array Field}{V:Array jF}(h:DataW.LaidVars jZ b ((n,d)::l) q)(hg:jZ.globalNamed n=Z g)(ht:(jZ.globals[g]?).map (·.type)=Z A)(c:jZ.underlying A=Z (.array k T))(hu:jZ.underlying T=Z (.struct a))(hc:jZ.cellsOf T=a.size)(o:jZ.cellsOf A=k*a.size)(hf:∀(i:Nat)(f:Field),a[i]?=Z f->f.offset=i/\(f.type=3\/f.type=9))(v:Akz d=V.toList.map Z):g<R (Q b)/\∀j,jE b (jB g j jc)=V[j]?:=by
 obtain⟨w,y,cs,fuel,p,q,h1,h2,h3,h4,_,_⟩:=h;obtain rfl:=Mk<|hg.symm.trans h1;obtain rfl:=Mk<|ht.symm.trans h2;obtain⟨r,m,_,hx,s,t,u⟩:=DataW.trod_array c h4;cases hx;rw[hc]at u;have e:=AmD a.size (λx:DataW Unit×List MemPlace=>VE x.1) Z r cs.toList (by rw[s,o,t]) λi hi=>by grind[Aga,zE]
 have e2:cs=V:=by grind[Akz,List.flatMap_map,List.map_inj_right,Array.toList_inj]
 subst e2;refine⟨Us hg h3,λj=>?_⟩;grind[Go.World.var?_cell]
theorem Ak2{a:Array Field}(h:((List.range a.size).all λi=>match a[i]?with|some f=>(f.offset==i)&&(f.type==3||f.type==9)|none=>jG)=jG):∀(i:Nat)(f:Field),a[i]?=Z f->f.offset=i/\(f.type=3\/f.type=9):=λi f hf=>by have:=zo.1 h i<|List.mem_range.2 (yG.1 hf).1;rw[hf]at this;simpa using this
end
end Go.Proofs.YtlcfoihgfcmfeaaGreatDoor
