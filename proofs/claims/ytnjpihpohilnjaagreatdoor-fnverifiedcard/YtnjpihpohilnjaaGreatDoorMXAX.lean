import Derived.Test.YtnjpihpohilnjaaGreatDoorOQE
import Derived.Test.YtnjpihpohilnjaaGreatDoorMXAW
import Derived.Test.YtnjpihpohilnjaaGreatDoorMXAV
open List renaming length->T,length->ja
open Option renaming none->U,some->Q,some->jg
open Array renaming size->R,size->jh
open Go renaming World->jB,Value->jF,Addr->jG
open Bool renaming true->jD,false->jE
namespace Go.Proofs.YtnjpihpohilnjaaGreatDoor
open Proofs.Tryz
open Value renaming int->V,slice->Y,string->jC,ownBlock->jL,agg->jM,pointer->jP,tuple->jQ,iface->jU,nilIface->jX
open IntKind renaming i64->X,i64->jd
open World renaming heap->Z,cell?->jI,setCell->jJ,alloc->jK,ownsRow->jO,frozen?->jY
open Addr renaming mk->jA,block->jT
open Obj renaming cells->jH
open Ending renaming returned->jN
open Proofs.Tryz renaming prog->jZ
open Go.RowKit
set_option linter.unusedVariables false
set_option maxRecDepth 100000
set_option maxHeartbeats 6400000
variable{x:Bool}{text text':K9}{op num' l:Int}{k d:K5}{ss tt:L4}{n c n' c' g o cap:Nat}{G:Nat->Prop}{a a':L3}{t:TypeId}{pv h i:jF}{v u:Vv}{f w':jB}
theorem NV {e:Ex}(h:e.cv=Q v):e.bD=jD:=by rw[Ex.bD,h];rfl
theorem NY (R:Rq)(ls:M4){e:Ex}(h:e.cv=Q v):Js R ls e= .ok v:=by cases e<;>simp only[Ex.cv]at h<;>first|(cases h;rfl)|cases h
theorem AhC (i op:Int){a:Ex}(h:a.cv=Q v):AQ (.un i op a)=match GI op v with| .ok u=>Q u.ex| .err _=>U:=by
 unfold AQ;rw[H7<|by simp[Ex.aD],H8<|by simp[Ex.aD,NV h],Js,NY _ _ h]
 grind
theorem Xz (i op:Int){a b:Ex}(h:a.cv=Q v)(c:b.cv=Q u):AQ (.bin i op a b)=if UN op v then Q v.ex else if op=25\/op=26 then Q u.ex else match Cc op v u with| .ok u=>Q u.ex| .err _=>U:=by
 unfold AQ;rw[H7<|by simp[Ex.aD],H8<|by simp[Ex.aD,NV h,NV c],Js,NY _ _ h,NY _ _ c]
 grind
theorem Afa (i:Int){c a b:Ex}(hc:c.cv=Q (.bool x))(h:a.cv=Q v)(d:b.cv=Q u):AQ (.ite i c a b)=Q (if x then v.ex else u.ex):=by
 unfold AQ;rw[H7<|by simp[Ex.aD],H8<|by simp[Ex.aD,NV hc,NV h,NV d],Js,NY _ _ hc,NY _ _ h,NY _ _ d]
 grind
theorem Pb {w:jB}{e:Ex}(hv:e.cv=Q v)(h:Tq w e k):Tq w v.ex k:=by cases e<;>simp only[Ex.cv]at hv<;>first|(cases hv;exact h)|cases hv
theorem Bs {w:jB}{ka:L3}{a:M6}(h:AO w ka a)(h0: 0<T a):∃g o,ka=Q (jA g o U)/\g<R (Z w)/\∀j,(b:j<T a)->jI w ⟨g,o+j*5,U⟩=Q (V X a[j].op)/\jI w ⟨g,o+j*5+1,U⟩=Q (V X a[j].num)/\jI w ⟨g,o+j*5+2,U⟩=Q (jC a[j].text)/\jI w ⟨g,o+j*5+3,U⟩=Q (Y a[j].an a[j].nn a[j].cn)/\jI w ⟨g,o+j*5+4,U⟩=Q (Y a[j].ka a[j].kn a[j].kc):=by
 obtain⟨g,o,rfl,hg,_⟩:=h 0 h0;refine⟨g,o,rfl,hg,λj b=>?_⟩;obtain⟨c,d,e,_,hc⟩:=h j b;cases e;exact⟨hc 0 Ob,hc 1 Ob,hc 2 Ob,hc 3 Ob,hc 4 Ob⟩
def zK:K5:=⟨0,0,⟨#[]⟩,U,0,0,U,0,0⟩
theorem Acn (op:Int)(E:op=25\/op=26)(i:Int){w:jB}{a b:Ex}{y:Bool}{c:K5}{ka:L3}{kc:Nat}(h0:Tq w a c)(B:Tq w b d)(q:a.cv=Q (.bool x))(r:b.cv=Q (.bool y))(C:AO w ka [c,d]):
  Calls jZ 127 #[V X op,Y ka 2 kc] w (PrA (AQ<|.bin i op a b) w):=by
 obtain⟨g,o,rfl,hg,hc⟩:=Bs C Ox;have F:=AE w Gg;have s:=Pb q h0;have D:=Pb r B;have j:c.num=if x then 1 else 0:=s.num;obtain⟨t,a1,a2,a3,a4⟩:=hc 0 Ox;obtain⟨v,b1,b2,b3,b4⟩:=hc 1 Ox;simp only[z0,List.getElem_cons_succ,zu,Nat.one_mul,zX]at t a1 a2 a3 a4 v b1 b2 b3 b4;have f:∀{p:Nat} {u:jF},jI w (jA g p U)=Q u->jI (jK w Gg) (jA g p U)=Q u:=λ{p u} h=>(F.cell (p:=(jA g p U)) hg).trans h;replace t:=f t;replace a1:=f a1;replace a2:=f a2;replace a3:=f a3;replace a4:=f a4;replace v:=f v;replace b1:=f b1;replace b2:=f b2;replace b3:=f b3;replace b4:=f b4;have l:=Ab<|Xz i op q r;have m:=Ab<|AE w<|CX c;have n:=Ab<|AE w<|CX d;clear f hc C h0 B q r;obtain rfl|rfl:=E
 .cases x with
  |false=>
   have A:(c.num==0)=jD:=by rw[j];rfl
   clear j;go_enter func127,ntmps127
   go_wp2
   exact G2 (Cb results127 rfl rfl (Ag.new w #[V X c.op,V X c.num,jC c.text,Y c.an c.nn c.cn,Y c.ka c.kn c.kc] 121)) rfl (by rw[Aa<|Ab<|show AQ (.bin i 25 a b)=Q (Vv.ex<|.bool jE) by rw[Aa l];rfl];exact⟨⟨c,jD,rfl,rfl,λz k=>by cases k;exact s.below (Aa m) NLN⟩,Aa m⟩)
  |true=>
   have A:(c.num==0)=jE:=by rw[j];rfl
   clear j;go_enter func127,ntmps127
   go_wp2
   exact G2 (Cb results127 rfl rfl (Ag.new w #[V X d.op,V X d.num,jC d.text,Y d.an d.nn d.cn,Y d.ka d.kn d.kc] 121)) rfl (by rw[Aa<|Ab<|show AQ (.bin i 25 a b)=Q (Vv.ex<|.bool y) by rw[Aa l];rfl];exact⟨⟨d,jD,rfl,rfl,λz k=>by cases k;exact D.below (Aa n) NLN⟩,Aa n⟩)
 .cases x with
  |false=>
   have A:(c.num==1)=jE:=by rw[j];rfl
   clear j;go_enter func127,ntmps127
   go_wp2
   exact G2 (Cb results127 rfl rfl (Ag.new w #[V X d.op,V X d.num,jC d.text,Y d.an d.nn d.cn,Y d.ka d.kn d.kc] 121)) rfl (by rw[Aa<|Ab<|show AQ (.bin i 26 a b)=Q (Vv.ex<|.bool y) by rw[Aa l];rfl];exact⟨⟨d,jD,rfl,rfl,λz k=>by cases k;exact D.below (Aa n) NLN⟩,Aa n⟩)
  |true=>
   have G:=Ab (show AQ (.bin i 26 a b)=Q (Vv.ex<|.bool jD) by rw[Aa l];rfl);have A:(c.num==1)=jD:=by rw[j];rfl
   clear j;go_enter func127,ntmps127
   go_wp2
   exact G2 (Cb results127 rfl rfl (Ag.new w #[V X c.op,V X c.num,jC c.text,Y c.an c.nn c.cn,Y c.ka c.kn c.kc] 121)) rfl (by rw[Aa G];exact⟨⟨c,jD,rfl,rfl,λz k=>by cases k;exact s.below (Aa m) NLN⟩,Aa m⟩)
theorem XA (i:Int){w:jB}{c a b:Ex}{f j:K5}{ka:L3}{kc:Nat}(h0:Tq w c k)(C:Tq w a f)(D:Tq w b j)(r:c.cv=Q (.bool x))(s:a.cv=Q v)(t:b.cv=Q u)(E:AO w ka [k,f,j]):
  Calls jZ 127 #[V X 27,Y ka 3 kc] w (PrA (AQ<|.ite i c a b) w):=by
 obtain⟨g,o,rfl,hg,hc⟩:=Bs E Ox;have F:=AE w Gg;have G:=Pb s C;have H:=Pb t D;have I:k.num=if x then 1 else 0:=(Pb r h0).num;obtain⟨l,a1,a2,a3,a4⟩:=hc 0 Ox;obtain⟨m,b1,b2,b3,b4⟩:=hc 1 Ox;obtain⟨n,d1,d2,d3,d4⟩:=hc 2 Ox;simp only[z0,List.getElem_cons_succ,zu,Nat.one_mul,zX,Nat.reduceMul]at l a1 a2 a3 a4 m b1 b2 b3 b4 n d1 d2 d3 d4;have d:∀{p:Nat} {u:jF},jI w (jA g p U)=Q u->jI (jK w Gg) (jA g p U)=Q u:=λ{p u} h=>(F.cell (p:=(jA g p U)) hg).trans h;replace l:=d l;replace a1:=d a1;replace a2:=d a2;replace a3:=d a3;replace a4:=d a4;replace m:=d m;replace b1:=d b1;replace b2:=d b2;replace b3:=d b3;replace b4:=d b4;replace n:=d n;replace d1:=d d1;replace d2:=d d2;replace d3:=d d3;replace d4:=d d4;have y:=Ab<|Afa i r s t;have A:=Ab<|AE w<|CX f;have B:=Ab<|AE w<|CX j;rw[I]at a1;cases x with
 |false=>
  go_enter func127,ntmps127
  go_wp2
  exact G2 (Cb results127 rfl rfl (Ag.new w #[V X j.op,V X j.num,jC j.text,Y j.an j.nn j.cn,Y j.ka j.kn j.kc] 121)) rfl (by rw[Aa y];exact⟨⟨j,jD,rfl,rfl,λz q=>by cases q;exact H.below (Aa B) NLN⟩,Aa B⟩)
 |true=>
  go_enter func127,ntmps127
  go_wp2
  exact G2 (Cb results127 rfl rfl (Ag.new w #[V X f.op,V X f.num,jC f.text,Y f.an f.nn f.cn,Y f.ka f.kn f.kc] 121)) rfl (by rw[Aa y];exact⟨⟨f,jD,rfl,rfl,λz q=>by cases q;exact G.below (Aa A) NLN⟩,Aa A⟩)
set_option maxHeartbeats 6400000
def MVx (w:jB) (num:Int) (text:K9) (a:L3) (n c:Nat) (v:Vv):Prop:=
 (match v with
  |.bool b=>num=(if b then 1 else 0)/\text=⟨#[]⟩
  |.int k=>(num=k/\Cu k)/\text=⟨#[]⟩
  |.text s=>num=0/\text=s
  |.set _=>num=0/\text=⟨#[]⟩)/\Aq w a n c v.aB/\T v.aB<=1048576/\ZS w a c
theorem MVx.below {w w':jB}{B:Nat}{num:Int}{text:K9}{a:L3}{n c:Nat}{v:Vv}(h:MVx w num text a n c v)(b:Below B w w')(d:R (Z w)<=B):MVx w' num text a n c v:=⟨h.1,h.2.1.below b d,h.2.2.1,h.2.2.2.below b d⟩
open Classical in
theorem MVx.dP {w:jB}      (h:MVx w op text a n c v) (h':MVx w num' text' a' n' c' u) (ht:v.ty=u.ty):FK v u=VX op num' text text' v.aB u.aB:=by
 rw[FK,VX,decide_eq_decide];obtain b|_|_|_:=v<;>obtain d|_|_|_:=u<;>first|(simp[Vv.ty]at ht;done)|skip
 all_goals
  first|obtain⟨⟨⟨rfl,_⟩,rfl⟩,_⟩:=h|obtain⟨⟨rfl,rfl⟩,_⟩:=h
  first|obtain⟨⟨⟨rfl,_⟩,rfl⟩,_⟩:=h'|obtain⟨⟨rfl,rfl⟩,_⟩:=h'
 all_goals grind [Vv.aB]
theorem st4 {w f:jB}{s:Nat}{g k:jF}(R:Ag f s #[g,h,i,k] t)(B:Below s w f)(a b c d:jF):(jI f (jA s 0 U)=Q g/\jI f (jA s 1 U)=Q h/\jI f (jA s 2 U)=Q i/\jI f (jA s 3 U)=Q k)/\((∀j,jY f (jA s j U)=jE)/\(∀j,jY (jJ f (jA s 0 U) a) (jA s j U)=jE)/\(∀j,jY (jJ (jJ f (jA s 0 U) a) (jA s 1 U) b) (jA s j U)=jE)/\∀j,jY (jJ (jJ (jJ f (jA s 0 U) a) (jA s 1 U) b) (jA s 2 U) c) (jA s j U)=jE)/\Ag (jJ (jJ (jJ (jJ f (jA s 0 U) a) (jA s 1 U) b) (jA s 2 U) c) (jA s 3 U) d) s #[a,b,c,d] t/\Below s w (jJ (jJ (jJ (jJ f (jA s 0 U) a) (jA s 1 U) b) (jA s 2 U) c) (jA s 3 U) d):=by
 have l:=R.set 0 a;have m:=l.set 1 b;have n:=m.set 2 c;exact⟨Cx R,⟨λj=>R.frozen j,λj=>l.frozen j,λj=>m.frozen j,λj=>n.frozen j⟩,n.set 3 d,(((B.setCell (p:=(jA s 0 U)) NLN a).setCell (p:=(jA s 1 U)) NLN b).setCell (p:=(jA s 2 U)) NLN c).setCell (p:=(jA s 3 U)) NLN d⟩
theorem Abm {w:jB}{b a:Int}(h:Cu b):(match CG (b,a)with
  |.ok v=>a=0/\MVs w b ⟨#[]⟩ U 0 0 v
  |.err e=>a=e/\e≠0):=by
 rw[CG];by_cases h0:a=0
 .rw[H8 h0];exact⟨h0,⟨rfl,h⟩,rfl,rfl,rfl,rfl⟩
 grind
structure C8 (w:jB) (g o:Nat) (m:Int) (s:K9) (a:L3) (n c:Nat) (m':Int) (s':K9) (a':L3) (n' c':Nat):Prop where
 e0:jI w (jA g o U)=Q (V X 0)
 e1:jI w ⟨g,o+1,U⟩=Q (V X m)
 e2:jI w ⟨g,o+2,U⟩=Q (jC s)
 e3:jI w ⟨g,o+3,U⟩=Q (Y a n c)
 e4:jI w ⟨g,o+4,U⟩=Q (V X 0)
 e5:jI w ⟨g,o+5,U⟩=Q (V X m')
 e6:jI w ⟨g,o+6,U⟩=Q (jC s')
 e7:jI w ⟨g,o+7,U⟩=Q (Y a' n' c')
 hg:g<R (Z w)
theorem ZI {k:Int}(s: 11<=op/\op<=15)(hi:Cu k)(t:Cu l){u x:L3}{y z A B:Nat}{w:jB}(h:C8 w g o k ⟨#[]⟩ u y z l ⟨#[]⟩ x A B):
  Calls jZ 143 #[V X op,Y (jg<|jA g o U) 2 cap] w (Wq (Cc op (.int k)<|.int l) w):=by
 obtain⟨e0,e1,e2,e3,e4,e5,e6,e7,hg⟩:=h;have d:=Ab λ(c:jB)=>Tw (w:=c) (op-10) hi t;have f:=Ab<|KH (op-10) k l;have i:=Ab<|NB (a:=k) (b:=l) s;generalize AV (op-10) k l=p at d f i;obtain⟨j,m⟩:=p;rcases(Oa:op=11\/op=12\/op=13\/op=14\/op=15)with rfl|rfl|rfl|rfl|rfl
 all_goals
  simp only[Int.reduceSub]at d;go_enter func143,ntmps143
  go_wp2_with fail
  refine Mm (P:=λc=>Calls _ _ _ c _) λc n C _ _=>?_;refine(Aa d c).mono ?_;rintro r I ⟨rfl,q⟩;obtain⟨⟨J,K,L,M⟩,⟨N,f1,f2,O⟩,Q,D⟩:=st4 (C.aA q NLN) (n.trans<|q.mono n.size) (V X m) (V X j) (jC ⟨#[]⟩)<|Y U 0 0;obtain⟨E,F,G,H⟩:=Cx Q;go_wp2_with fail
  refine G2 (v:= jM #[V X m,V X j,jC ⟨#[]⟩,Y U 0 0]) (by simp[results,results143,go_sem,E,F,G,H]) rfl ⟨⟨_,_,_,_,_,_,rfl,?_⟩,D⟩
  rw[Aa i];exact Abm<|Aa f
theorem AkG {s B n:Nat}{x:L3}{cx:Nat}{K:L4}{g:Array jF}(O:jO f B 9 1 (Y x n cx) n<|K.map Value.string)(R:Ag f s g 185)(i:∀j,j<n->(AG K j).size<=maxLen)(a b c d:jF):Aq (jJ (jJ (jJ (jJ f (jA s 0 U) a) (jA s 1 U) b) (jA s 2 U) c) (jA s 3 U) d) x n cx K/\ZS (jJ (jJ (jJ (jJ f (jA s 0 U) a) (jA s 1 U) b) (jA s 2 U) c) (jA s 3 U) d) x cx:=by
 have hq:=Ac R O Ob;exact⟨Aq.bG (Ah (Ah (Ah (Ah O _ _ λq h e=>hq<|by rw[h,e]) _ _ λq h e=>hq<|by rw[h,e]) _ _ λq h e=>hq<|by rw[h,e]) _ _ λq h e=>hq<|by rw[h,e]) i,((((ZS.bG O).setCell _ _ _).setCell _ _ _).setCell _ _ _).setCell _ _ _⟩
theorem Vj {w:jB}(h:C8 w g o 0 ⟨#[]⟩ a n c 0 ⟨#[]⟩ a' n' c')(b:Aq w a n c ss)(d:Aq w a' n' c' tt)(i:a=U->c=0)(j:a'=U->c'=0):
  Calls jZ 143 #[V X 16,Y (jg<|jA g o U) 2 cap] w (Wq (Cc 16 (.set ss)<|.set tt) w):=by
 obtain⟨e0,e1,e2,e3,e4,e5,e6,e7,hg⟩:=h;have t:=Ab<|K6 (K6 b d)<|K6 i j;go_enter func143,ntmps143
 go_wp2_with fail
 refine Mm (P:=λk=>Calls _ _ _ k _) λk f u _ _=>?_;obtain⟨⟨b,d⟩,i,j⟩:=Aa t;refine(Wp a n c ss a' n' c' tt _ (b.below f NLN) (d.below f NLN) i j).mono ?_;rintro r E ⟨x,cx,K,e,rfl,y,l,m⟩;have p:=u.aA l NLN;obtain⟨⟨F,G,H,I⟩,⟨J,f1,f2,L⟩,Q,z⟩:=st4 p (f.trans<|l.mono f.size) (V X e) (V X 0) (jC ⟨#[]⟩)<|Y x (T K) cx;obtain⟨A,B,C,D⟩:=Cx Q;have q:=Ab<|AkG y p (m.bC (FL b)<|FL d) (V X e) (V X 0) (jC ⟨#[]⟩)<|Y x (T K) cx;have s:=Ab m;go_wp2_with fail
 refine G2 (v:= jM #[V X e,V X 0,jC ⟨#[]⟩,Y x (T K) cx]) (by simp[results,results143,go_sem,A,B,C,D]) rfl ⟨⟨_,_,_,_,_,_,rfl,?_⟩,z⟩
 rw[J7,IW<|Aa s,Fa];by_cases h0:e=0
 .rw[H8 h0];exact⟨h0,rfl,rfl,(Aa q).1,by have:=(Aa s).len;show T K<=1048576;omega,(Aa q).2⟩
 .rw[H7 h0];exact⟨rfl,h0⟩
theorem ZJ (u:op=17\/op=18){w:jB}(h:C8 w g o 0 ⟨#[]⟩ a n c 0 ⟨#[]⟩ a' n' c')(b:Aq w a n c ss)(f:Aq w a' n' c' tt)(l1:T ss<=1048576):
  Calls jZ 143 #[V X op,Y (jg<|jA g o U) 2 cap] w (Wq (Cc op (.set ss)<|.set tt) w):=by
 obtain⟨e0,e1,e2,e3,e4,e5,e6,e7,hg⟩:=h;have y:=Ab<|K6 b f;have j:=K6 (Qq ss tt<|FL b)<|zB (Wk ss tt) l1;have k:=K6 (OC ss tt<|FL b)<|zB (Ty ss tt) l1;obtain rfl|rfl:=u
 case' inl=>
  rw[Qo];generalize l:Cl ss tt=K at j;have i:=Ab j
 case' inr=>
  rw[OA];generalize l:Bj ss tt=K at k;have i:=Ab k
 all_goals
  go_enter func143,ntmps143
  go_wp2_with fail
  refine Mm (P:=λm=>Calls _ _ _ m _) λm d z _ _=>?_;obtain⟨b,f⟩:=Aa y
  first|with_reducible refine(Acg a n c ss a' n' c' tt _ (b.below d NLN)<|f.below d NLN).mono ?_|with_reducible refine(Zr a n c ss a' n' c' tt _ (b.below d NLN)<|f.below d NLN).mono ?_
  rintro r F ⟨x,cx,rfl,p,q⟩;rw[Aa<|Ab l]at p|-;have s:=z.aA q NLN;obtain⟨⟨G,H,I,J⟩,⟨L,f1,f2,M⟩,Q,A⟩:=st4 s (d.trans<|q.mono d.size) (V X 0) (V X 0) (jC ⟨#[]⟩)<|Y x (T K) cx;obtain⟨B,C,D,E⟩:=Cx Q;have t:=Ab<|AkG p s (Aa i).1 (V X 0) (V X 0) (jC ⟨#[]⟩)<|Y x (T K) cx;go_wp2
  exact G2 (v:= jM #[V X 0,V X 0,jC ⟨#[]⟩,Y x (T K) cx]) (by simp[results,results143,go_sem,B,C,D,E]) rfl ⟨⟨_,_,_,_,_,_,rfl,rfl,rfl,rfl,(Aa t).1,(Aa i).2,(Aa t).2⟩,A⟩
theorem Vk {i:Int}{k:K9}{w:jB}{b:Bool}(h:C8 w g o num' text a n c i k a' n' c')(j:Aq w a n c ss)(d:Aq w a' n' c' tt)(t:op=19/\VX num' i text k ss tt=b\/op=20/\(!VX num' i text k ss tt)=b\/op=21/\decide (num'<i)=b\/op=22/\decide (num'<=i)=b\/op=23/\Lg tt text=b\/op=24/\Ey ss tt=b):
  Calls jZ 143 #[V X op,Y (jg<|jA g o U) 2 cap] w (Wq (.ok<|.bool b) w):=by
 obtain⟨e0,e1,e2,e3,e4,e5,e6,e7,hg⟩:=h;have u:=Ab<|K6 j d;clear j d;obtain⟨rfl,h⟩|⟨rfl,h⟩|⟨rfl,h⟩|⟨rfl,h⟩|⟨rfl,h⟩|⟨rfl,h⟩:=t
 all_goals
  have p:=Ab h;clear h;go_enter func143,ntmps143
  go_wp2_with fail
  refine Mm (P:=λl=>Calls _ _ _ l _) λl f x _ _=>?_
  first
   |rw[Aa p]
    have m:=SH l
   |obtain⟨j,d⟩:=Aa u
    first|with_reducible refine(ED 0 num' text a n c ss 0 i k a' n' c' tt _ (j.below f NLN) (d.below f NLN)).mono ?_|with_reducible refine(XQ a n c ss a' n' c' tt _ (j.below f NLN) (d.below f NLN)).mono ?_|with_reducible refine((Od a' n' c' tt text _ (d.below f NLN)).mono (R':=λe w'=>e=jN (.bool<|Lg tt text)/\Ai l w') λe w' h=>⟨h.1,h.2 ▸ BRN⟩).mono ?_
    rintro r F ⟨rfl,m⟩;clear j d;go_wp2_with fail
    rw[Aa p]
  refine(Wr b _).mono ?_;rintro r G ⟨⟨cd,nm,H,I,J,K,rfl,rfl,q,rfl,rfl,rfl,rfl⟩,y⟩;have z:=Ab q;clear q;have s:=m.trans<|y.mono m.size;obtain⟨⟨L,M,N,O⟩,⟨S,f1,f2,W⟩,Q,A⟩:=st4 (x.aA s NLN) (f.trans<|s.mono f.size) (V X 0) (V X nm) (jC ⟨#[]⟩)<|Y U 0 0;obtain⟨B,C,D,E⟩:=Cx Q;go_wp2
  exact G2 (v:= jM #[V X 0,V X nm,jC ⟨#[]⟩,Y U 0 0]) (by simp[results,results143,go_sem,B,C,D,E]) rfl ⟨⟨_,_,_,_,_,_,rfl,rfl,Aa z,rfl,rfl,rfl,rfl⟩,A⟩
open Classical in
theorem AfA (tt:L4) (s:K9):Lg tt s=decide (s∈tt):=by grind [RY]
theorem XB (op:Int)(v:Vv)(t:Int)(ht:nz (By op [v.ty])=jg t)(num:Int)(text:K9)(a:L3)(n c:Nat)(g o cap:Nat)(w:jB)(hv:MVx w num text a n c v)(e0:jI w (jA g o U)=jg (V X 0))(e1:jI w ⟨g,o+1,U⟩=jg (V X num))(e2:jI w ⟨g,o+2,U⟩=jg (jC text))(e3:jI w ⟨g,o+3,U⟩=jg (Y a n c))(hg:g<R (Z w)):
  Calls jZ 143 #[V X op,Y (jg<|jA g o U) 1 cap] w (Wq (GI op v) w):=by
 have d:∀x y z,Ai w<|jK (jK (jK w x) y) z:=λx y z=>((AE w _).alloc Ox _).alloc O0 _;obtain⟨rfl,f,_⟩|⟨rfl,f,_⟩|⟨rfl,f,_⟩:=EJ ht
 .obtain⟨k,rfl⟩:=Vv.bI f;obtain⟨⟨⟨rfl,hi⟩,rfl⟩,_⟩:=hv;have l:=Ab λ(h:jB)=>Tw (w:=h) 2 (a:=0) ⟨Ob,Ob⟩ hi;have m:=Ab<|KH 2 0 num;have q:=Ab<|show GI 8 (.int num)=CG (AV 2 0 num)from rfl;generalize AV 2 0 num=p at l m q;obtain⟨s,u⟩:=p;clear d;go_enter func143,ntmps143
  go_wp2_with fail
  refine Mm (P:=λh=>Calls _ _ _ h _) λh A E _ _=>?_;refine(Aa l h).mono ?_;rintro r K ⟨rfl,B⟩;obtain⟨⟨L,M,N,O⟩,⟨S,f1,f2,W⟩,Q,F⟩:=st4 (E.aA B NLN) (A.trans<|B.mono A.size) (V X u) (V X s) (jC ⟨#[]⟩)<|Y U 0 0;obtain⟨G,H,I,J⟩:=Cx Q;dsimp only;go_wp2_with fail
  refine G2 (v:= jM #[V X u,V X s,jC ⟨#[]⟩,Y U 0 0]) (by simp[results,results143,go_sem,G,H,I,J]) rfl ⟨⟨_,_,_,_,_,_,rfl,?_⟩,F⟩
  rw[Aa q];exact Abm<|Aa m
 .obtain⟨b,rfl⟩:=Vv.bU f;obtain⟨⟨rfl,rfl⟩,_⟩:=hv;have j:=Ab d;clear d;cases b
  all_goals
   simp only[if_true,Bool.false_eq_true,if_false]at e1;go_enter func143,ntmps143
   go_wp2
   exact G2 (v:= jM #[V X 0,V X _,jC ⟨#[]⟩,Y U 0 0]) (by simp[results,results143,go_sem]) rfl ⟨⟨_,_,_,_,_,_,rfl,rfl,rfl,rfl,rfl,rfl,rfl⟩,Aa j _ _ _⟩
 .obtain⟨k,rfl⟩:=Vv.bB f;obtain⟨⟨rfl,rfl⟩,i,_,_⟩:=hv;have j:=Ab d;have C:n=T k:=by first|exact i.len|exact i.len.symm
  have D:=Ab C;have hi:Cu (n:Int):=⟨Oa,by have:=i.cap;have:=i.aJ;unfold maxLen at this;omega⟩
  clear d i C;go_enter func143,ntmps143
  go_wp2
  exact G2 (v:= jM #[V X 0,V X n,jC ⟨#[]⟩,Y U 0 0]) (by simp[results,results143,go_sem]) rfl ⟨⟨_,_,_,_,_,_,rfl,rfl,⟨congrArg _<|Aa D,Aa D ▸ hi⟩,rfl,rfl,rfl,rfl⟩,Aa j _ _ _⟩
theorem XC (op:Int)(v u:Vv)(t:Int)(ht:nz (By op [v.ty,u.ty])=Q t)(hc:op≠25/\op≠26)(num:Int)(text:K9)(a:L3)(n c:Nat)(m:Int)(p:K9)(a2:L3)(n2 c2:Nat)(g o cap:Nat)(w:jB)(hv:MVx w num text a n c v)(hu:MVx w m p a2 n2 c2 u)(e0:jI w (jA g o U)=Q (V X 0))(e1:jI w ⟨g,o+1,U⟩=Q (V X num))(e2:jI w ⟨g,o+2,U⟩=Q (jC text))(e3:jI w ⟨g,o+3,U⟩=Q (Y a n c))(e4:jI w ⟨g,o+4,U⟩=Q (V X 0))(e5:jI w ⟨g,o+5,U⟩=Q (V X m))(e6:jI w ⟨g,o+6,U⟩=Q (jC p))(e7:jI w ⟨g,o+7,U⟩=Q (Y a2 n2 c2))(hg:g<R (Z w)):
  Calls jZ 143 #[V X op,Y (Q<|jA g o U) 2 cap] w (Wq (Cc op v u) w):=by
 have q:=hv.2;have y:=hu.2;have r:C8 w g o num text a n c m p a2 n2 c2:=⟨e0,e1,e2,e3,e4,e5,e6,e7,hg⟩
 have j:=λ{op:Int} {b:Bool}=>Vk (op:=op) (cap:=cap) (b:=b) r q.1 y.1;obtain⟨i,d,f,_⟩|⟨i,d,f,_⟩|⟨i,d,_⟩|⟨i,d,f,_⟩|⟨rfl,d,f,_⟩|⟨rfl,d,f,_⟩|⟨i,d,f,_⟩:=Ch ht
 .obtain⟨k,rfl⟩:=Vv.bI d;obtain⟨l,rfl⟩:=Vv.bI f;obtain⟨⟨⟨rfl,hi⟩,rfl⟩,_⟩:=hv;obtain⟨⟨⟨rfl,z⟩,rfl⟩,_⟩:=hu
  grind [ZI]
 .obtain⟨k,rfl⟩:=Vv.bB d;obtain⟨l,rfl⟩:=Vv.bB f;obtain⟨⟨rfl,rfl⟩,s,l1,A⟩:=hv;obtain⟨⟨rfl,rfl⟩,x,C,B⟩:=hu;rcases(Oa:op=16\/op=17\/op=18)with rfl|h
  .exact Vj r s x A.1 B.1
  .exact ZJ h r s x l1
 .grind [Wg,MVx.dP,Wh]
 .obtain⟨k,rfl⟩:=Vv.bI d;obtain⟨l,rfl⟩:=Vv.bI f;obtain⟨⟨⟨rfl,hi⟩,rfl⟩,_⟩:=hv;obtain⟨⟨⟨rfl,z⟩,rfl⟩,_⟩:=hu;obtain rfl|rfl:=i
  .exact j (.inr<|.inr<|.inl ⟨rfl,rfl⟩)
  .exact j (.inr<|.inr<|.inr<|.inl ⟨rfl,rfl⟩)
 .obtain⟨k,rfl⟩:=Vv.cL d;obtain⟨l,rfl⟩:=Vv.bB f;obtain⟨⟨rfl,rfl⟩,_⟩:=hv;exact j<|.inr<|.inr<|.inr<|.inr<|.inl ⟨rfl,AfA _ _⟩
 .obtain⟨k,rfl⟩:=Vv.bB d;obtain⟨l,rfl⟩:=Vv.bB f;exact j<|.inr<|.inr<|.inr<|.inr<|.inr ⟨rfl,rfl⟩
 .omega
set_option maxHeartbeats 1600000
def evX:Ev->M3
 |.ok v=>Q v.ex
 |.err _=>U
def vC (k:K5):L7:= [V X 0,V X k.num,jC k.text,Y k.an k.nn k.cn]
theorem Aji:(jZ.info? 185).map (λi=>(i.zero,i.size,i.bytes))=Q (Q<|jM #[V X 0,V X 0,jC ByteArray.empty,Y U 0 0],4,56):=Oy
theorem Fh (k:K5)(w:jB):Calls jZ 128 #[jM #[V X k.op,V X k.num,jC k.text,Y k.an k.nn k.cn,Y k.ka k.kn k.kc]] w λr w'=>r=jN (jM #[V X 0,V X k.num,jC k.text,Y k.an k.nn k.cn])/\Ai w w':=by
 have a:=(AE w<|CX k).alloc Ox<|jH #[V X 0,V X k.num,jC k.text,Y k.an k.nn k.cn] 185;go_enter func128,ntmps128
 go_wp2_with fail
 first
 |(go_ret;exact⟨rfl,a⟩)
 |exact G2 (v:= jM #[V X 0,V X k.num,jC k.text,Y k.an k.nn k.cn]) (by simp[results,results128,go_sem]) rfl ⟨rfl,a⟩
theorem ZA {w:jB}(h:Aq w a n c ss)(f:ZS w a c){g:Array jF}(R:Ag w n' g t)(ht:t≠9)(j:Nat)(u:jF):Aq (jJ w (jA n' j U) u) a n c ss:=
 ⟨h.len,h.cap,h.aJ,h.bC,λi hi=>by
  obtain⟨b,k,d,l,hc⟩:=h.cells i hi;obtain⟨m,r⟩:=f.2 _ d;refine⟨b,k,d,by simpa using l,?_⟩;rw[World.cell?_setCell_other _ _ _ _ (λq=>ht (by
   have hF:n'=b:=congrArg jT q;subst hF;have e:=R.out.symm.trans r.out;simp only[Option.some.injEq,Obj.cells.injEq]at e;exact e.2.1))]
  exact hc⟩
theorem Jf {w a:jB}{m:K5}(E:Ai w a)(R:Ag a (jh<|Z w) #[V X 0,V X 0,jC ⟨#[]⟩,Y U 0 0,Y U 0 0] 121)(g:Tq a v.ex m):
  Ai w (zW (jK a<|CX m) (jh<|Z w) m)/\Ag (zW (jK a<|CX m) (jh<|Z w) m) (jh<|Z w) #[V X m.op,V X m.num,jC m.text,Y m.an m.nn m.cn,Y m.ka m.kn m.kc] 121/\Tq (zW (jK a<|CX m) (jh<|Z w) m) v.ex m:=by
 have i:=g.below (AE a<|CX m) NLN;have b:=R.alloc<|CX m;have z:=Rz m (E.alloc E.size<|CX m) b NLN;refine⟨z.1,z.2,?_⟩;have c:∀(j:Nat) (u:jF) (d:jB) (f:Array jF),Ag d (jh<|Z w) f 121->Tq d v.ex m->Tq (jJ d ⟨jh<|Z w,j,U⟩ u) v.ex m:=λj u d f r h=>by cases v<;>exact⟨h.1,h.2.1,h.2.2.1,h.2.2.2.1,ZA h.2.2.2.2.1 h.2.2.2.2.2.2 r Ob j u,h.2.2.2.2.2.1,h.2.2.2.2.2.2.setCell _ _ _⟩
 have k:=c 0 (V X m.op) _ _ b i;have l:=c 1 (V X m.num) _ _ (b.set 0 _) k;have n:=c 2 (jC m.text) _ _ ((b.set 0 _).set 1 _) l;have o:=c 3 (Y m.an m.nn m.cn) _ _ (((b.set 0 _).set 1 _).set 2 _) n;exact c 4 (Y m.ka m.kn m.kc) _ _ ((((b.set 0 _).set 1 _).set 2 _).set 3 _) o
theorem ZB (w:jB)(n:Int):Tq w (Vv.ex<|.int n) ⟨1,n,⟨#[]⟩,U,0,0,U,0,0⟩:=
 ⟨rfl,rfl,rfl,rfl,⟨rfl,NLN,zE _,λj h=>H9 h Ox,λj h=>H9 h Ox⟩,zE _,λ_=>rfl,λa e=>O5⟩
theorem Ajj {w:jB}(h:MVs w op text a n c<|.set ss):Tq w (Vv.ex<|.set ss) ⟨4,0,⟨#[]⟩,a,n,c,U,0,0⟩:=
 ⟨rfl,rfl,rfl,rfl,h.2.2.1,h.2.2.2.1,h.2.2.2.2⟩
theorem RJ (op:Int)(a7: 8<=op/\op<=24){w:jB}(t:M6)(m:Nat)(hm:T t=m)(a8: 1<=m)(a9:m<=2){ka:L3}{kc:Nat}(ak:AO w ka t)(o:Ev)(al:∀v,o= .ok v->v.ty=if op=8\/op=10\/(11<=op/\op<=15)then 2 else if 16<=op/\op<=18 then 4 else 1)
  (ao:∀y g cap,Ai w y->jO y (R<|Z w) 185 4 (Y (Q<|jA g 0 U) m cap) m (t.flatMap vC)->Calls jZ 143 #[V X op,Y (Q<|jA g 0 U) m cap] y (Wq o y)):
  Calls jZ 127 #[V X op,Y ka m kc] w (PrA (evX o) w):=by
 obtain⟨g,N,rfl,hg,hc⟩:=Bs ak Oa;have aa:=AE w Gg;have ab:=Ag.new w #[V X 0,V X 0,jC ⟨#[]⟩,Y U 0 0,Y U 0 0] 121;have ba:(op==25)=jE:=zA.2 Oa;have bb:(op==26)=jE:=zA.2 Oa;have bc:(op==27)=jE:=zA.2 Oa;go_enter func127,ntmps127
 go_wp2_with fail
 have ap:R (Z w)<R (Z<|jK w Gg):=Ox;generalize jK w Gg=O at aa ab ap|-;obtain⟨aL,aM,aN,aO,aP⟩:=info_parts Aji;have aQ:=Ab hc;have aq:=Ab ao;have ar:=Ab al;clear hc ao ak al;have au:=Ab hm;clear hm;go_loopw [6,50] (λv i wr=>∃j:Nat,j<=m/\i=V X j/\jO wr (R<|Z O) 185 4 v j ((t.take j).flatMap vC)/\Ai O wr) (λ_ i _=>m-(intOf i).toNat)
 case atStart=>exact⟨0,zE _,rfl,H3,BRN⟩
 case round=>
  obtain⟨j,bd,rfl,B,C⟩:=hrel;have x:=aa.trans<|C.mono aa.size;have aR:=C.size;obtain⟨av,aw,rfl,-⟩:=Ae B;by_cases ac:j<m
  .have bf:(j:Int)<(m:Int):=Oa;have ad:j<T t:=by rw[Aa au];exact ac
   obtain⟨ae,a1,a2,a3,a4⟩:=Aa aQ j ad;have ax:=Ab (show(t.take<|j+1).flatMap vC=(t.take j).flatMap vC++vC t[j] by rw[zT ad,List.flatMap_append];simp);generalize t[j]=k at ae a1 a2 a3 a4 ax;replace ae:=(x.cell (p:=⟨g,N+j*5,U⟩) hg).trans ae;replace a1:=(x.cell (p:=⟨g,N+j*5+1,U⟩) hg).trans a1;replace a2:=(x.cell (p:=⟨g,N+j*5+2,U⟩) hg).trans a2;replace a3:=(x.cell (p:=⟨g,N+j*5+3,U⟩) hg).trans a3;replace a4:=(x.cell (p:=⟨g,N+j*5+4,U⟩) hg).trans a4;have ay:=Ab ac;clear ac ad;go_wp2_with fail
   refine(Fh k _).mono ?_;rintro r az ⟨rfl,af⟩;have ag:=(C.alloc aR<|CX k).trans<|af.mono O0;have ah:=Aj (G1 B<|CX k) af NLN;have aB:=G1 ah<|jH #[V X 0,V X k.num,jC k.text,Y k.an k.nn k.cn] 185;have aC:=G4<|G8 az<|jH #[V X 0,V X k.num,jC k.text,Y k.an k.nn k.cn] 185;have aS:=ag.size;clear B C af;go_wp2_with (at_builtin;refine G6 _ rfl _ _ 233 rfl (R<|Z O) 185 aL (jM #[V X 0,V X 0,jC ByteArray.empty,Y U 0 0]) 4 56 underlying233 aM aN aO aP rfl Ob (Y av j aw) j _ rfl aB ⟨R<|Z az,0,U⟩ 1 1 (vC k) rfl rfl aC (by intro u hu;simp[vC]at hu;obtain rfl|rfl|rfl|rfl:=hu<;>rfl) Ob O2 Oa O0 _ rfl ?_)
   intro g7 c7 aT aD aE hat aU;have aV:=(ag.alloc aS<|jH #[V X 0,V X k.num,jC k.text,Y k.an k.nn k.cn] 185).grown aE O0 λq hq=>(ah.lt q hq).1;have aW:=Ab (show jO aT (R<|Z O) 185 4 (Y (Q<|jA g7 0 U) (j+1) c7) (j+1) ((t.take<|j+1).flatMap vC) by rw[Aa ax];exact aD);clear aD aE hat aU aB aC ah ag;go_wp2
   go_roundw
   case rel=>exact⟨j+1,Aa ay,O1,Aa aW,aV⟩
   case measure=>have:=Aa ay;simp[intOf];omega
  .have e:j=m:=Oa;have bg: ¬ ((j:Int)<(m:Int)):=Oa;obtain⟨P,aX⟩:∃P,av=Q (jA P 0 U):=by
    obtain⟨hv,h0⟩|⟨P,cap,bh,hv,_⟩:=B.2
    .omega
    .simp only[Value.slice.injEq]at hv;exact⟨P,hv.1⟩
   subst aX;subst e;have ai:=Az B (Oa:R (Z w)<=R (Z O));rw[zf<|by rw[Aa au];exact NLN]at ai;have aF:=Ab<|Aa aq wr P aw x ai;clear B ai aq;go_wp2_with fail
   refine(Aa aF).mono ?_;rintro r aY ⟨⟨S,num,text,l,n,s,rfl,aG⟩,aj⟩;have D:=x.trans<|aj.mono x.size;have E:=(ab.below C ap).aA aj NLN;clear x C aj aF ab aa;cases o with
   |err c=>
    obtain⟨rfl,aH⟩:=aG;have bi:(S !=0)=jD:=zV.2 aH;have a:=Ab<|Rz zK (D.alloc D.size<|jH #[V X S,V X num,jC text,Y l n s] 185) (E.alloc<|jH #[V X S,V X num,jC text,Y l n s] 185) NLN;obtain⟨F,G,H,I,J,-⟩:=Ap<|E.alloc<|jH #[V X S,V X num,jC text,Y l n s] 185;obtain⟨K,f1,f2,L,M⟩:=Fg<|E.alloc<|jH #[V X S,V X num,jC text,Y l n s] 185;clear D E aH;go_wp2
    exact G2 (Cb results127 rfl rfl (Aa a).2) rfl ⟨⟨zK,jE,rfl,rfl,λz f=>by cases f⟩,(Aa a).1⟩
   |ok v=>
    obtain⟨rfl,hv⟩:=aG;have ht:=Aa ar v rfl;have W:=Ab hv;have A:=Ab<|hv.below (AE aY<|jH #[V X 0,V X num,jC text,Y l n s] 185) NLN;have h:=D.alloc D.size<|jH #[V X 0,V X num,jC text,Y l n s] 185;have d:=E.alloc<|jH #[V X 0,V X num,jC text,Y l n s] 185;clear hv ar D E;by_cases c1:op=8\/op=10\/(11<=op/\op<=15)
    .rw[H8 c1]at ht;obtain⟨nn,rfl⟩:=Vv.bI ht;obtain⟨⟨bj,-⟩,rfl,rfl,rfl,rfl⟩:=Aa W;subst num;clear W;obtain rfl|rfl|⟨l1,aI⟩:=c1
     .skip;have a:=Ab<|Jf (m:=⟨1,nn,⟨#[]⟩,U,0,0,U,0,0⟩) h d<|ZB _ nn;obtain⟨F,G,H,I,J,-⟩:=Ap<|d.alloc<|jH #[V X 1,V X nn,jC ⟨#[]⟩,Y U 0 0,Y U 0 0] 121;obtain⟨K,f1,f2,L,M⟩:=Fg<|d.alloc<|jH #[V X 1,V X nn,jC ⟨#[]⟩,Y U 0 0,Y U 0 0] 121;clear h d A;go_wp2
      exact G2 (Cb results127 rfl rfl (Aa a).2.1) rfl ⟨⟨⟨1,nn,⟨#[]⟩,U,0,0,U,0,0⟩,jD,rfl,rfl,λz f=>D8⟩,(Aa a).1⟩
     .skip;have a:=Ab<|Jf (m:=⟨1,nn,⟨#[]⟩,U,0,0,U,0,0⟩) h d<|ZB _ nn;obtain⟨F,G,H,I,J,-⟩:=Ap<|d.alloc<|jH #[V X 1,V X nn,jC ⟨#[]⟩,Y U 0 0,Y U 0 0] 121;obtain⟨K,f1,f2,L,M⟩:=Fg<|d.alloc<|jH #[V X 1,V X nn,jC ⟨#[]⟩,Y U 0 0,Y U 0 0] 121;clear h d A;go_wp2
      exact G2 (Cb results127 rfl rfl (Aa a).2.1) rfl ⟨⟨⟨1,nn,⟨#[]⟩,U,0,0,U,0,0⟩,jD,rfl,rfl,λz f=>D8⟩,(Aa a).1⟩
     .have aZ:(op==8)=jE:=zA.2 Oa;have a0:(op==10)=jE:=zA.2 Oa;have a:=Ab<|Jf (m:=⟨1,nn,⟨#[]⟩,U,0,0,U,0,0⟩) h d<|ZB _ nn;obtain⟨F,G,H,I,J,-⟩:=Ap<|d.alloc<|jH #[V X 1,V X nn,jC ⟨#[]⟩,Y U 0 0,Y U 0 0] 121;obtain⟨K,f1,f2,L,M⟩:=Fg<|d.alloc<|jH #[V X 1,V X nn,jC ⟨#[]⟩,Y U 0 0,Y U 0 0] 121;clear h d A;go_wp2
      exact G2 (Cb results127 rfl rfl (Aa a).2.1) rfl ⟨⟨⟨1,nn,⟨#[]⟩,U,0,0,U,0,0⟩,jD,rfl,rfl,λz f=>D8⟩,(Aa a).1⟩
    .rw[H7 c1]at ht;have aZ:(op==8)=jE:=zA.2 Oa;have a0:(op==10)=jE:=zA.2 Oa;by_cases c2: 16<=op/\op<=18
     .rw[H8 c2]at ht;obtain⟨ss,rfl⟩:=Vv.bB ht;obtain⟨rfl,rfl,-⟩:=Aa W;have l1: 11<=op:=Oa;have aI: ¬ op<=15:=Oa;obtain⟨a5,a6⟩:=c2;have a:=Ab<|Jf (m:=⟨4,0,⟨#[]⟩,l,n,s,U,0,0⟩) h d<|Ajj<|Aa A;obtain⟨F,G,H,I,J,-⟩:=Ap<|d.alloc<|jH #[V X 4,V X 0,jC ⟨#[]⟩,Y l n s,Y U 0 0] 121;obtain⟨K,f1,f2,L,M⟩:=Fg<|d.alloc<|jH #[V X 4,V X 0,jC ⟨#[]⟩,Y l n s,Y U 0 0] 121;clear h d A;go_wp2
      exact G2 (Cb results127 rfl rfl (Aa a).2.1) rfl ⟨⟨⟨4,0,⟨#[]⟩,l,n,s,U,0,0⟩,jD,rfl,rfl,λz f=>D8⟩,(Aa a).1⟩
     .rw[H7 c2]at ht;obtain⟨b,rfl⟩:=Vv.bU ht;obtain⟨aJ,rfl,rfl,rfl,rfl⟩:=Aa W;have aK:=Ab (show ∀y,Tq y (Vv.ex<|.bool b) ⟨3,num,⟨#[]⟩,U,0,0,U,0,0⟩from λy=>by rw[aJ];exact Aa4 y b);clear W aJ;obtain l1|l1:=Int.lt_or_le op 11
      .have e:op=9:=Oa;subst e;have a:=Ab<|Jf (v:= .bool b) (m:=⟨3,num,⟨#[]⟩,U,0,0,U,0,0⟩) h d<|Aa aK _;obtain⟨F,G,H,I,J,-⟩:=Ap<|d.alloc<|jH #[V X 3,V X num,jC ⟨#[]⟩,Y U 0 0,Y U 0 0] 121;obtain⟨K,f1,f2,L,M⟩:=Fg<|d.alloc<|jH #[V X 3,V X num,jC ⟨#[]⟩,Y U 0 0,Y U 0 0] 121;clear h d A;go_wp2
       exact G2 (Cb results127 rfl rfl (Aa a).2.1) rfl ⟨⟨⟨3,num,⟨#[]⟩,U,0,0,U,0,0⟩,jD,rfl,rfl,λz f=>D8⟩,(Aa a).1⟩
      .have aI: ¬ op<=15:=Oa;have a5: 16<=op:=Oa;have a6: ¬ op<=18:=Oa;have a:=Ab<|Jf (v:= .bool b) (m:=⟨3,num,⟨#[]⟩,U,0,0,U,0,0⟩) h d<|Aa aK _;obtain⟨F,G,H,I,J,-⟩:=Ap<|d.alloc<|jH #[V X 3,V X num,jC ⟨#[]⟩,Y U 0 0,Y U 0 0] 121;obtain⟨K,f1,f2,L,M⟩:=Fg<|d.alloc<|jH #[V X 3,V X num,jC ⟨#[]⟩,Y U 0 0,Y U 0 0] 121;clear h d A;go_wp2
       exact G2 (Cb results127 rfl rfl (Aa a).2.1) rfl ⟨⟨⟨3,num,⟨#[]⟩,U,0,0,U,0,0⟩,jD,rfl,rfl,λz f=>D8⟩,(Aa a).1⟩
set_option maxHeartbeats 6400000
def AcI (zs:L2) (p:Nat) (R:Rq) (q:Nat):Prop:=
 ∃p1 p2 p3 p4 p5 a b,Gb zs p=(R.cl,p1)/\Gb zs p1=(R.us,p2)/\nx zs p2=(a,p3)/\nx zs p3=(b,p4)/\R.lv=a % 8/\R.nw=b*7/\Nq zs p4 R.s1 p5/\Nq zs p5 R.s2 q
def RqA (R:Nat) (a:L3) (n c:Nat) (zs:L2) (X:Rq->Nat->Prop) (w:jB) (e:Ending) (w':jB):Prop:=
 ∃ (Q:Rq) (x1 x2:L3) (c1 c2 q:Nat),e=jN (jM #[jC Q.cl,jC Q.us,V jd Q.lv,V jd Q.nw,Y x1 (T Q.s1) c1,Y x2 (T Q.s2) c2])/\Hid (X Q q)/\(Q.cl.size<=1000/\Q.us.size<=1000/\0<=Q.lv/\Q.lv<=7/\0<=Q.nw/\Q.nw<=1785/\T Q.s1<=64/\T Q.s2<=64)/\A6 w' (jh<|Z w) x1 Q.s1 c1/\A6 w' (jh<|Z w) x2 Q.s2 c2/\JU w' R a n c zs q/\AU R (R+1) w w'
theorem AjE {a:jB}{b:Nat}{l m n o q s:jF}(r:Ag a b #[l,m,n,o,q,s] t)(d f g i j k:jF){c:jB}(e:c=jJ (jJ (jJ (jJ (jJ (jJ a (jA b 0 U) d) (jA b 1 U) f) (jA b 2 U) g) (jA b 3 U) i) (jA b 4 U) j) (jA b 5 U) k):
  Ag c b #[d,f,g,i,j,k] t/\Below b a c/\∀{base cx:Nat} {x:L3} {K:L4},b<base->A6 a base x K cx->A6 c base x K cx:=by
 subst e;refine⟨(((((r.set 0 d).set 1 f).set 2 g).set 3 i).set 4 j).set 5 k,((((((Below.refl b a).setCell (p:=(jA b 0 U)) NLN _).setCell (p:=(jA b 1 U)) NLN _).setCell (p:=(jA b 2 U)) NLN _).setCell (p:=(jA b 3 U)) NLN _).setCell (p:=(jA b 4 U)) NLN _).setCell (p:=(jA b 5 U)) NLN _,λu h=>⟨Fz h.aN λy hy=>?_,h.aJ⟩⟩;subst hy;have v:=(h.aN.lt _ rfl).1
 iterate 6 rw[H5 (Oa:jT y≠b)]
theorem XV (R:Nat)(a:L3)(n c:Nat)(zs:L2)(p:Nat)(w:jB)(h:JU w R a n c zs p):
  Calls jZ 48 #[jP<|Q<|jA R 0 U] w (RqA R a n c zs (AcI zs p) w):=by
 have i:=h.lt;go_enter func48,ntmps48
 go_wp2_with fail
 refine Gd (P:=λH=>Calls _ _ _ H _) λw0 j k=>?_;have I:=AU.aH (lo:=R) (hi:=R+1) j NLN;have J:=k.lt;refine(JY R a n c zs p w0<|h.aA j i).mono ?_;rintro e K ⟨cl,l,rfl,L,M,N,m⟩;go_wp2_with fail
 refine(JY R a n c zs l K N).mono ?_;rintro e w2 ⟨us,o,rfl,O,S,W,r⟩;go_wp2_with fail
 refine(BN R a n c zs o w2 W).mono ?_;rintro e aa ⟨y,s,rfl,ab,aq,ar,h3,t⟩;go_wp2_with fail
 refine(BN R a n c zs s aa h3).mono ?_;rintro e ac ⟨z,u,rfl,ad,au,av,ae,x⟩;go_wp2_with fail
 refine(Pw R a n c zs u ac ae).mono ?_;rintro e af ⟨d,c1,b,A,rfl,ag,l1,ah,h5,B⟩;go_wp2_with fail
 refine(Pw R a n c zs A af h5).mono ?_;rintro e ai ⟨f,c2,K2,q,rfl,aj,aw,ak,al,C⟩;have ax:=m.size;have S2:=r.size;have ay:=t.size;have az:=x.size;have S5:=B.size;have T:=((((m.trans r).trans t).trans x).trans B).trans C;have g:Ag ai (jh<|Z w) _ _:=⟨(T.block _ J<|.inr Oa).trans k.out⟩
 have D:=Ab<|K6 ((ah.aR C Oa).mono (base':=jh (Z w)+1) Oa)<|ak.mono (base':=jh (Z w)+1) Oa;have ao:Hid<|AcI zs p ⟨cl,us,y % 8,z*7,b,K2⟩ q:=Ab ⟨l,o,s,u,A,y,z,Aa L,Aa O,Aa ab,Aa ad,rfl,rfl,Aa ag,Aa aj⟩;have E:=Ab<|K6 al<|I.trans T;obtain⟨g0,g1,g2,g3,aB,aC⟩:=DN g;have aD:=g.frozen;go_wp2_with fail
 obtain⟨ap,F,G⟩:=AjE g (jC cl) (jC us) (V X<|y % 8) (V X<|z*7) (Y d (ja b) c1) (Y f (ja K2) c2) rfl;obtain⟨e0,e1,e2,e3,e4,e5⟩:=DN ap;exact G2 (v:= jM #[jC cl,jC us,V X<|y % 8,V X<|z*7,Y d (ja b) c1,Y f (ja K2) c2]) (by simp[results,results48,go_sem,e0,e1,e2,e3,e4,e5]) rfl ⟨⟨cl,us,y % 8,z*7,b,K2⟩,d,f,c1,c2,q,rfl,ao,⟨M,S,P2⟩,(G Oa (Aa D).1).mono Oa,(G Oa (Aa D).2).mono Oa,(Aa E).1.aA F i,(Aa E).2.aV F NLN⟩
section
variable{aS aO aZ aW:jG}{B mb lb:Nat}{ap:L3}{np cp:Nat}{iv:jF}{a1:L3}{n1 c1:Nat}{a2:L3}{n2 c2:Nat}{s:Int}{Rr:Rq}{S:Nat}{at_:Nat}{st:M4}{sl:List M7}{sa:L3}{sc:Nat}{xs ys:L7}{w w0:jB}{P:M1}
theorem Acu (h:Dl B mb lb (Y ap np cp) iv (Y a1 n1 c1) (Y a2 n2 c2) s Rr S at_ st sl sa sc xs ys w)(E:Ai w0 w)(F:R (Z w0)<=B)(v:T st<=100)(hat:at_<=20000)(k:Nat)(zs:M4)(b:Bool)(y:st=zs++[.bool b]):
  Calls jZ 51 #[jP<|Q<|jA mb 0 U,jM #[V jd 23,V jd k]] w (λr w'=>r=jN jX/\Kv B mb lb (Y ap np cp) iv (Y a1 n1 c1) (Y a2 n2 c2) s Rr S (Y sa (T st) sc) (if b then (at_:Int)+1 else k) (zs) (sl) w w'):=by
 have G:=Gq hat;have g:=AE w<|jH #[V jd 23,V jd k] 80;have i:=(Below.refl _<|jJ w (jA mb 11 U)<|V jd<|(at_:Int)+1).alloc NLN<|jH #[V jd 23,V jd k] 80;have a:=(h.cE<|(at_:Int)+1).below i;have H:jI (jK w<|jH #[V jd 23,V jd k] 80) (jA mb 11 U)=Q (V jd at_):=(h.below g).row.cell 11;have I:=λj=>(h.below g).row.frozen j;have J:=h.row.lt;have K:=h.low.1;have z:AN (Ga mb lb<|Y sa (T st) sc) w<|jK (jJ w (jA mb 11 U)<|V jd<|(at_:Int)+1)<|jH #[V jd 23,V jd k] 80:=AN.trans ((AN.refl _ w).setCell (p:=(jA mb 11 U)) (λ_=> .inl rfl)<|V jd<|(at_:Int)+1) (AN.aH (S:=λ_=>False) i) λ_ _ h=>h.elim;have l:=Ag.new (jJ w (jA mb 11 U)<|V jd<|(at_:Int)+1) #[V jd 23,V jd k] 80;simp only[K1]at l;subst y;obtain⟨c,x,rfl,A,hx⟩:=a.bZ;obtain rfl:x=jU 157 (.bool b):=hx;have L:=Aax;have M:T zs<=100:=by simp at v;omega
 have m:T (zs++[Vv.bool b])=T zs+1:=Ox;have n:=Ab<|show Ag _ mb (No (Y ap np cp) s iv Rr (Y a1 n1 c1) (Y a2 n2 c2) (Y sa (T zs+1) sc) (Y (Q<|jA lb 0 U) S S) ((at_:Int)+1) 0 0<|Y U 0 0) 59/\jO _ B 153 1 (Y sa (T zs+1) sc) (T zs+1) (c++[jU 157<|.bool b])from⟨by have:=a.row;rw[m]at this;exact this,by have:=a.cI;rw[m]at this;exact this⟩;have d:=Ab (show ∀b,T (zs++[Vv.bool b])=T zs+1 from λb=>by simp);have N:=Ab h;go_enter func51,ntmps51
 go_wp2_with fail
 generalize jK (jJ w (jA mb 11 U) (Value.int IntKind.i64 ((at_:Int)+1))) (Obj.cells #[Value.int IntKind.i64 23,Value.int IntKind.i64 k] 80)=X at*;refine(KV mb B (T zs) sc _ _ _ _ _ _ _ _ _ _ _ sa c _ _ _ (Aa n).1 (Aa n).2 Oa).mono ?_;rintro r w2 ⟨rfl,f,C,K2⟩;have o:=(Aa<|Ab a).pop (Aa<|Ab A) f C K2;have O:=(l.bP K2 Oa).cell 1;obtain⟨g0,g1,g2,g3,P,W,aa,g7,ab,ac,ad,ae,af,ag,ah⟩:=Ir f;have ai:=λj=>f.frozen j;have t:=Ab<|z.trans K2 λq _ h=> .inl h;have u:=Ab (show ∀q,jL (Value.slice sa (T zs) sc)=Q q->jL (Value.slice sa (T<|zs++[Vv.bool b]) sc)=Q q\/R (Z w)<=q from λq hq=> .inl ((PM _ _ _ _ _).trans hq));cases b with
 |true=>
  go_wp2
  go_ret
  refine⟨rfl,sa,sc,c,ys,o,?_,?_⟩
  .have:=Aa t;rw[Aa d]at this;exact this
  .have:=Aa u;rw[Aa d]at this;exact this
 |false=>
  have D:=Ab<|(Aa t).setCell (p:=(jA mb 11 U)) (λ_=> .inl rfl)<|V jd k;go_wp2
  go_ret
  refine⟨rfl,sa,sc,c,ys,Aa<|Ab<|o.cE k,?_,?_⟩
  .have:=Aa D;rw[Aa d]at this;exact this
  .have:=Aa u;rw[Aa d]at this;exact this
end
section
variable{aS aO aZ aW:jG}{B mb lb:Nat}{ap:L3}{np cp:Nat}{iv:jF}{a1:L3}{n1 c1:Nat}{a2:L3}{n2 c2:Nat}{s:Int}{Rr:Rq}{S:Nat}{at_:Nat}{st:M4}{sl:List M7}{sa:L3}{sc:Nat}{xs ys:L7}{w w0:jB}{P:M1}
theorem Dl.store {B mb:Nat}{iv q1 q2:jF}{s:Int}{Rr:Rq}{S:Nat}{at_:Int}{st:M4}{sl:List M7}{sa:L3}{xs ys:L7}{w:jB}(h:Dl B mb n' pv iv q1 q2 s Rr S at_ st sl sa g xs ys w){k:Nat}(f:k<S){x:jF}(hx:JO (Np mb n' sa) w x v):Dl B mb n' pv iv q1 q2 s Rr S at_ st (sl.set k<|Q v) sa g xs (ys.set k x)<|jJ w (jA n' k U) x:=by
 have a:AN (λb=>b=n') w<|jJ w (jA n' k U) x:=AN.setCell (S:=λb=>b=n') (AN.refl _ w) (p:=(jA n' k U)) (λ_=>rfl) _;have c:mb≠n':=λe=>KW h<|.inl e.symm;refine⟨h.row.bP a c,Ah h.cI _ _ λq hq e=>h.bA O9,?_,⟨by rw[zv];exact h.len.1,by rw[zv];exact h.len.2⟩,λj d=>?_,λj d=>?_,h.low,h.bA⟩
 .have:=h.cQ.set k x
  grind
 all_goals grind [Dl.low,Dl.cI,Dl.row,KW,Dl.cQ,Ag.set,JO,Dl.vsl,Dl.vst,AN.setCell,No,Dl.len,Np,JO.bP,Ah,Dl.bA,Ag.bP,AN.refl]
theorem Aft (h:Dl B mb lb (Y ap np cp) iv (Y a1 n1 c1) (Y a2 n2 c2) s Rr S at_ st sl sa sc xs ys w)(o:Ai w0 w)(ai:R (Z w0)<=B)(I:T st<=100)(hat:at_<=20000)(k:Nat)(z:k<S)(zs:M4)(v:Vv)(J:st=zs++[v]):
  Calls jZ 51 #[jP<|Q<|jA mb 0 U,jM #[V jd 4,V jd k]] w (λr w'=>r=jN jX/\Kv B mb lb (Y ap np cp) iv (Y a1 n1 c1) (Y a2 n2 c2) s Rr S (Y sa (T st) sc) ((at_:Int)+1) (zs) (sl.set k<|Q v) w w'):=by
 have aj:=Gq hat;have A:=AE w<|jH #[V jd 4,V jd k] 80;have C:=(Below.refl _<|jJ w (jA mb 11 U)<|V jd<|(at_:Int)+1).alloc NLN<|jH #[V jd 4,V jd k] 80;have c:=(h.cE<|(at_:Int)+1).below C;have ak:jI (jK w<|jH #[V jd 4,V jd k] 80) (jA mb 11 U)=Q (V jd at_):=(h.below A).row.cell 11;have al:=λj=>(h.below A).row.frozen j;have ao:=h.row.lt;have aq:=h.low.1;have ar:=(o.setCell (p:=(jA mb 11 U)) S1<|V jd<|(at_:Int)+1).alloc (by simpa using o.size)<|jH #[V jd 4,V jd k] 80;have K:AN (Ga mb lb<|Y sa (T st) sc) w<|jK (jJ w (jA mb 11 U)<|V jd<|(at_:Int)+1)<|jH #[V jd 4,V jd k] 80:=AN.trans ((AN.refl _ w).setCell (p:=(jA mb 11 U)) (λ_=> .inl rfl)<|V jd<|(at_:Int)+1) (AN.aH (S:=λ_=>False) C) λ_ _ h=>h.elim;have g:=Ag.new (jJ w (jA mb 11 U)<|V jd<|(at_:Int)+1) #[V jd 4,V jd k] 80;simp only[K1]at g;subst J;obtain⟨i,x,rfl,D,hx⟩:=c.bZ;obtain⟨t,u,rfl⟩:=hx.bE;have au:T zs<=100:=by simp at I;omega
 have l:T (zs++[v])=T zs+1:=Ox;have m:=Ab<|show Ag _ mb (No (Y ap np cp) s iv Rr (Y a1 n1 c1) (Y a2 n2 c2) (Y sa (T zs+1) sc) (Y (Q<|jA lb 0 U) S S) ((at_:Int)+1) 0 0<|Y U 0 0) 59/\jO _ B 153 1 (Y sa (T zs+1) sc) (T zs+1) (i++[jU t u])from⟨by have:=c.row;rw[l]at this;exact this,by have:=c.cI;rw[l]at this;exact this⟩;have L:=Ab D;have M:=Ab hx;have av:(k:Int)<(S:Int):=Oa;have N:=c.row;have O:lb≠mb:=λe=>KW h<|.inl e;have P:R (Z w)≠lb:=λe=>H2 h.cQ.lt;have W:R (Z w)≠mb:=Oa;clear D l hx;have aa:=Ab c;have aw:=Ab h;clear h c;go_enter func51,ntmps51
 go_wp2_with fail
 generalize jK (jJ w (jA mb 11 U) (Value.int IntKind.i64 ((at_:Int)+1))) (Obj.cells #[Value.int IntKind.i64 4,Value.int IntKind.i64 k] 80)=X at*;have a:=(SH X).drew;have E:=(Aa aa).below a;have q1:(λw'=>jI w' (jA mb 10 U)=Q (Y (Q<|jA lb 0 U) S S)/\jI w' ⟨R<|Z w,1,U⟩=Q (V jd k)) X.drew:=⟨N.cell 10,g.cell 1⟩
 go_region_held3 (λw'=>jI w' (jA mb 10 U)=Q (Y (Q<|jA lb 0 U) S S)/\jI w' ⟨R<|Z w,1,U⟩=Q (V jd k)) (first|assumption|fail)
  (first
   |(go_at_call 85;refine(KV mb B (T zs) sc _ _ _ _ _ _ _ _ _ _ _ sa i t u _ ((Aa m).1.aA a NLN) (Ad (Aa m).2 (λq hq=>a.block q ((Aa m).2.lt q hq).2)) Oa).mono ?_;rintro r w2 ⟨rfl,f,F,K2⟩;have d:=E.pop (Aa L) f F K2;have G:=((Aa M).below a NLN).bP K2 λb ab=>ab.1;have n:=(g.aA a NLN).bP K2 W;have q2:(λw'=>jI w' (jA mb 10 U)=Q (Y (Q<|jA lb 0 U) S S)/\jI w' ⟨R<|Z w,1,U⟩=Q (V jd k)) w2:=⟨f.cell 10,n.cell 1⟩;have ac:(λw'=>jI w' (jA mb 10 U)=Q (Y (Q<|jA lb 0 U) S S)/\jI w' ⟨R<|Z w,1,U⟩=Q (V jd k))<|jJ w2 (jA lb k U)<|jU t u:=⟨(f.aF (p:=(jA lb k U)) (λe=>O e.symm) _).cell 10,(n.aF (p:=(jA lb k U)) P _).cell 1⟩;obtain⟨y,H,_⟩:=d.vsl k z;have ad:=(d.cQ.cell k).trans (show ys.toArray[k]? =Q y by simpa using H);have ae:=(λj=>d.cQ.frozen j))
   |fail)
 have af:=Ab<|d.store z G;have ag:=Ab<|((K.trans (AN.aH (S:=λ_=>False) a) λ_ _ h=>h.elim).trans K2 λq _ h=> .inl h).setCell (p:=(jA lb k U)) (λ_=> .inr (.inl rfl))<|jU t u;have ah:=Ab (show ∀q,jL (Value.slice sa (T zs) sc)=Q q->jL (Value.slice sa (T<|zs++[v]) sc)=Q q\/R (Z w)<=q from λq hq=> .inl ((PM _ _ _ _ _).trans hq));clear d G f F K2 n q1 q2 ac E a H ad ae;go_wp2
 go_ret
 exact⟨rfl,sa,sc,i,_,Aa af,Aa ag,Aa ah⟩
end
section
variable{aS aO aZ aW:jG}{B mb lb:Nat}{ap:L3}{np cp:Nat}{iv:jF}{a1:L3}{n1 c1:Nat}{a2:L3}{n2 c2:Nat}{s:Int}{Rr:Rq}{S:Nat}{at_:Nat}{st:M4}{sl:List M7}{sa:L3}{sc:Nat}{xs ys:L7}{w w0:jB}{P:M1}
theorem Acv (n:Nat)(F:n<=900)(u:Int)(zs:L7)(a:L3)(k c:Nat)(ss:L4)(i:Ag w mb (No (Y ap np cp) s iv Rr (Y a1 n1 c1) (Y a2 n2 c2) (Y sa (n+1) sc) (Y (Q<|jA lb 0 U) S S) (u) 0 0<|Y U 0 0) 59)(v:jO w B 153 1 (Y sa (n+1) sc) (n+1)<|zs++[jU 194<|Y a k c])(x:Aq w a k c ss)(G:T ss<=1048576)(hg:∀z,a=Q z->0<k->jT z≠mb):
  Calls jZ 86 #[jP<|Q<|jA mb 0 U] w λr w'=>r=jN (jQ #[])/\∃y b,Ag w' mb (No (Y ap np cp) s iv Rr (Y a1 n1 c1) (Y a2 n2 c2) (Y sa n sc) (Y (Q<|jA lb 0 U) S S) (u) 2 0<|Y y (T ss) b) 59/\jO w' (R<|Z w) 9 1 (Y y (T ss) b) (T ss) (ss.map Value.string)/\AN (λk=>k=mb) w w':=by
 have M:=YX;have A:=Ab<|KV mb B n sc _ _ _ _ _ _ _ _ _ _ _ sa zs _ _ w i v F;have H:=Ab x;have N:=i.lt;clear i v x;go_enter func86,ntmps86
 go_wp2_with fail
 refine(Aa A).mono ?_;rintro r I ⟨rfl,C,D,f⟩;have E:=(Aa H).bP f hg;have O:=Ab D;clear A D;dsimp only;go_wp2_with fail
 refine(Y1 a k c ss I E G).mono ?_;rintro r w2 ⟨⟨y,b,rfl,l⟩,m⟩;have d:=C.aA m NLN;obtain⟨g0,g1,g2,g3,P,W,aa,g7,ab,ac,ad,ae,af,ag,ah⟩:=Ir d;have ai:=λj=>d.frozen j;have o:=d.set 12<|V X 2;have t:=o.set 13<|V X 0;have f1:=λj=>o.frozen j;have f2:=λj=>t.frozen j;have J:=Ab<|t.set 14<|Y y (T ss) b;have g:∀q,jL (Value.slice y (T ss) b)=Q q->q≠mb:=λq hq e=>Ac d l Ob O9;have K:=Ab<|CF (Ah (Ah (Ah l (jA mb 12 U) (V X 2) g) (jA mb 13 U) (V X 0) g) (jA mb 14 U) (Y y (T ss) b) g) f.size;have L:=Ab<|(((f.trans (AN.aH (S:=λ_=>False) m) λ_ _ h=>h.elim).setCell (p:=(jA mb 12 U)) (λ_=>rfl)<|V X 2).setCell (p:=(jA mb 13 U)) (λ_=>rfl)<|V X 0).setCell (p:=(jA mb 14 U)) (λ_=>rfl)<|Y y (T ss) b;clear o t C d l f m g E;dsimp only;go_wp2_with fail
 go_end0
 exact⟨rfl,y,b,Aa J,Aa K,Aa L⟩
theorem Acw (h:Dl B mb lb (Y ap np cp) iv (Y a1 n1 c1) (Y a2 n2 c2) s Rr S at_ st sl sa sc xs ys w)(d:Ai w0 w)(M:R (Z w0)<=B)(A:T st<=100)(hat:at_<=20000)(zs:M4)(ss:L4)(C:st=zs++[.set ss]):
  Calls jZ 51 #[jP<|Q<|jA mb 0 U,jM #[V jd 25,V jd 0]] w (λr w'=>r=jN jX/\∃y b,Ag w' mb (No (Y ap np cp) s iv Rr (Y a1 n1 c1) (Y a2 n2 c2) (Y sa (T zs) sc) (Y (Q<|jA lb 0 U) S S) ((at_:Int)+1) 2 0<|Y y (T ss) b) 59/\jO w' (R<|Z w) 9 1 (Y y (T ss) b) (T ss) (ss.map Value.string)/\AN (Ga mb lb<|Y sa (T st) sc) w w'):=by
 have N:=Gq hat;have f:=AE w<|jH #[V jd 25,V jd 0] 80;have g:=(Below.refl _<|jJ w (jA mb 11 U)<|V jd<|(at_:Int)+1).alloc NLN<|jH #[V jd 25,V jd 0] 80;have a:=(h.cE<|(at_:Int)+1).below g;have O:jI (jK w<|jH #[V jd 25,V jd 0] 80) (jA mb 11 U)=Q (V jd at_):=(h.below f).row.cell 11;have P:=λj=>(h.below f).row.frozen j;have W:=h.row.lt;have aa:=h.low.1;have ab:=(d.setCell (p:=(jA mb 11 U)) S1<|V jd<|(at_:Int)+1).alloc (by simpa using d.size)<|jH #[V jd 25,V jd 0] 80;have i:AN (Ga mb lb<|Y sa (T st) sc) w<|jK (jJ w (jA mb 11 U)<|V jd<|(at_:Int)+1)<|jH #[V jd 25,V jd 0] 80:=AN.trans ((AN.refl _ w).setCell (p:=(jA mb 11 U)) (λ_=> .inl rfl)<|V jd<|(at_:Int)+1) (AN.aH (S:=λ_=>False) g) λ_ _ h=>h.elim;have D:=Ag.new (jJ w (jA mb 11 U)<|V jd<|(at_:Int)+1) #[V jd 25,V jd 0] 80;simp only[K1]at D;subst C;obtain⟨k,x,rfl,E,hx⟩:=a.bZ;obtain⟨l,m,n,rfl,o,F,t⟩:=hx;have ac:T zs<=100:=by simp at A;omega
 have c:T (zs++[Vv.set ss])=T zs+1:=Ox;have u:=Ab<|show Ag _ mb (No (Y ap np cp) s iv Rr (Y a1 n1 c1) (Y a2 n2 c2) (Y sa (T zs+1) sc) (Y (Q<|jA lb 0 U) S S) ((at_:Int)+1) 0 0<|Y U 0 0) 59/\jO _ B 153 1 (Y sa (T zs+1) sc) (T zs+1) (k++[jU 194<|Y l m n])from⟨by have:=a.row;rw[c]at this;exact this,by have:=a.cI;rw[c]at this;exact this⟩;have G:=Ab o;have H:=Ab t;clear E c o t;have ad:=Ab a;have ae:=Ab h;clear h a;go_enter func51,ntmps51
 go_wp2_with fail
 generalize jK (jJ w (jA mb 11 U) (Value.int IntKind.i64 ((at_:Int)+1))) (Obj.cells #[Value.int IntKind.i64 25,Value.int IntKind.i64 0] 80)=X at*;refine(Acv (T zs) Oa _ k l m n ss (Aa u).1 (Aa u).2 (Aa G) F λI e h0=>(Aa H I e h0).1).mono ?_;rintro r w2 ⟨rfl,y,b,v,z,K2⟩;have J:=Ab v;have K:=Ab<|CF z i.size;have L:=Ab<|i.trans K2 λq _ h=> .inl h;clear v z K2;dsimp only;go_wp2
 go_ret
 exact⟨rfl,y,b,Aa J,Aa K,Aa L⟩
end
section
variable{aS aO aZ aW:jG}{B mb lb:Nat}{ap:L3}{np cp:Nat}{iv:jF}{a1:L3}{n1 c1:Nat}{a2:L3}{n2 c2:Nat}{s:Int}{Rr:Rq}{S:Nat}{at_:Nat}{st:M4}{sl:List M7}{sa:L3}{sc:Nat}{xs ys:L7}{w w0:jB}{P:M1}
def Afu (aS aO aZ aW:jG) (G:Nat->Prop) (o:Ev) (x e:jF) (w:jB):Prop:=match o with
 |.ok v=>e=jX/\JO G w x v
 |.err c=>e=Ny aS aO aZ aW c/\1<=c/\c<=4
theorem Pp.res {o:Ev}{w:jB}{r:Ending}(h:Pp G aS aO aZ aW o w r w'):∃x e,r=jN (jQ #[x,e])/\Afu aS aO aZ aW G o x e w'/\Ai w w':=by
 obtain⟨a,b⟩:=h;cases o with
 |ok v=>obtain⟨x,rfl,hx⟩:=a;exact⟨x,_,rfl,⟨rfl,hx⟩,b⟩
 |err c=>obtain⟨x,rfl,hx⟩:=a;exact⟨x,_,rfl,⟨rfl,hx⟩,b⟩
theorem Afv {B mb:Nat}{iv q1 q2:jF}{s:Int}{Rr:Rq}{S:Nat}{at_:Int}{st:M4}{sl:List M7}{sa:L3}{xs ys:L7}{w:jB}(h:Dl B mb n' pv iv q1 q2 s Rr S at_ st sl sa g xs ys w){b:Nat}(c:R (Z w)<=b):Np mb n' sa b:=
 ⟨H2 h.row.lt,H2 h.cQ.lt,λa e=>by
  have:=(h.cI.lt (jT a) D7).2;omega⟩
theorem Acx (op:Int)(j: 8<=op/\op<=10)(l:Int)(zs:M4)(v:Vv)(h:Dl B mb lb (Y ap np cp) iv (Y a1 n1 c1) (Y a2 n2 c2) s Rr S l (zs++[v]) sl sa sc xs ys w)(O:T zs<=100)(ht:Hid<|∃t,nz (By op [v.ty])=Q t)(hs:Hid<|∀w',AN (λk=>k=mb) w w'->FV w' aS aO aZ aW)(m:Hid<|∀w',AN (λk=>k=mb) w w'->7 <R (Z w')/\∀k,jI w' ⟨7,k,U⟩=Nb[k]?):
  Calls jZ 116 #[jP<|Q<|jA mb 0 U,V X op] w λr w'=>∃x e,r=jN (jQ #[x,e])/\Afu aS aO aZ aW (Np mb lb sa) (GI op v) x e w'/\∃a,Dl B mb lb (Y ap np cp) iv (Y a1 n1 c1) (Y a2 n2 c2) s Rr S l zs sl sa sc a ys w'/\AN (λk=>k=mb) w w':=by
 obtain⟨a,x,rfl,n,hx⟩:=h.bZ;obtain⟨E,F,rfl⟩:=hx.bE;have g:T (zs++[v])=T zs+1:=Ox;have o:=Ab<|KV mb B (T zs) sc _ _ _ _ _ _ _ _ _ _ _ sa a E F w (by have:=h.row;rw[g]at this;exact this) (by have:=h.cI;rw[g]at this;exact this) Oa;have G:=Ab h;have H:=Ab hx;have I:=Ab n;have J:=Ab (show BY op=1 by rw[BY,H7 Oa,H8 j]);clear h hx n g j;go_enter func116,ntmps116
 go_wp2_with fail
 refine(Aa o).mono ?_;rintro r P ⟨rfl,p,q,c⟩;have u:=Ab<|(Aa G).pop (Aa I) p q c;have z:=Ab<|(Aa H).bP c λb K=>K.1;have d:=Ab c;clear o p q c;dsimp only;go_wp2_with fail
 refine(Nc op _ (Aa m _<|Aa d).1 (Aa m _<|Aa d).2).mono ?_;rintro r w2 ⟨rfl,f⟩;rw[Aa J];have A:=Ab<|(Aa u).below f;have C:=Ab<|(Aa z).below f NLN;have i:=Ab<|(Aa d).trans (AN.aH (S:=λ_=>False) f) λ_ _ h=>h.elim;clear u z d f;dsimp only;go_wp2_with fail
 obtain⟨t,ht⟩:=Aa ht;refine(AgQ op _ v t _ (Aa hs _<|Aa i) (Aa C) ht).mono ?_;intro r W D;obtain⟨y,e,rfl,hy,hb3⟩:=D.res;have L:=Ab<|(Aa A).below hb3;have M:=Ab<|(Aa i).trans (AN.aH (S:=λ_=>False) hb3) λ_ _ h=>h.elim;have N:=Ab hy;clear A C i hb3 hy D ht;dsimp only;go_wp2
 exact G2 (v:= jQ #[y,e]) (by simp[results,results116,go_sem]) rfl ⟨y,e,rfl,Aa N,a,Aa L,Aa M⟩
theorem ZG (op:Int)(ag: 11<=op/\op<=24)(z:Int)(zs:M4)(v c:Vv)(h:Dl B mb lb (Y ap np cp) iv (Y a1 n1 c1) (Y a2 n2 c2) s Rr S z (zs++[v]++[c]) sl sa sc xs ys w)(aA:T zs<=100)(ht:Hid<|∃t,nz (By op [v.ty,c.ty])=Q t)(hs:Hid<|∀w',AN (λk=>k=mb) w w'->FV w' aS aO aZ aW)(A:Hid<|∀w',AN (λk=>k=mb) w w'->7 <R (Z w')/\∀k,jI w' ⟨7,k,U⟩=Nb[k]?):
  Calls jZ 116 #[jP<|Q<|jA mb 0 U,V X op] w λr w'=>∃x e,r=jN (jQ #[x,e])/\Afu aS aO aZ aW (Np mb lb sa) (Cc op v c) x e w'/\∃m,Dl B mb lb (Y ap np cp) iv (Y a1 n1 c1) (Y a2 n2 c2) s Rr S z zs sl sa sc m ys w'/\AN (λk=>k=mb) w w':=by
 obtain⟨m,x,rfl,C,hx⟩:=h.bZ;obtain⟨ah,ai,rfl⟩:=hx.bE;have n:T (zs++[v]++[c])=T zs+1+1:=Ox;have e8:T (zs++[v])=T zs+1:=Ox;have D:=Ab<|KV mb B (T zs+1) sc _ _ _ _ _ _ _ _ _ _ _ sa m ah ai w (by have:=h.row;rw[n]at this;exact this) (by have:=h.cI;rw[n]at this;exact this) Oa;have aj:=Ab h;have ak:=Ab hx;have al:=Ab C;have g:=Ab e8;have ao:=Ab (show BY op=2 by rw[BY,H7 Oa,H7 Oa,H8 Oa]);have aq:=Ab (Oa:op≠25/\op≠26);clear h hx C n e8 ag;go_enter func116,ntmps116
 go_wp2_with fail
 refine(Aa D).mono ?_;rintro r aB ⟨rfl,E,F,i⟩;have G:=(Aa aj).pop (Aa al) (by rw[Aa g];exact E) (by rw[Aa g];exact F) i;have H:=Ab G;have I:=Ab<|(Aa ak).bP i λb a=>a.1;have j:=Ab i;clear D E F i G;dsimp only;go_wp2_with fail
 refine(Nc op _ (Aa A _<|Aa j).1 (Aa A _<|Aa j).2).mono ?_;rintro r w2 ⟨rfl,l⟩;rw[Aa ao];have d:=(Aa H).below l;have J:=Ab<|(Aa I).below l NLN;have K:=Ab<|(Aa j).trans (AN.aH (S:=λ_=>False) l) λ_ _ h=>h.elim;obtain⟨L,aC,e2,M,o⟩:=d.bZ;subst e2;obtain⟨ar,au,rfl⟩:=o.bE;have N:=Ab<|KV mb B (T zs) sc _ _ _ _ _ _ _ _ _ _ _ sa L ar au w2 (by have:=d.row;rw[Aa g]at this;exact this) (by have:=d.cI;rw[Aa g]at this;exact this) Oa;have O:=Ab d;have P:=Ab o;have av:=Ab M;clear H I j l d o M;dsimp only;go_wp2_with fail
 refine(Aa N).mono ?_;rintro r aw ⟨rfl,W,aa,f⟩;have p:=Ab<|(Aa O).pop (Aa av) W aa f;have ab:=Ab<|(Aa J).bP f λb a=>a.1;have ac:=Ab<|(Aa P).bP f λb a=>a.1;have q:=Ab<|(Aa K).trans f λ_ _ h=>h;clear N W aa f O J P K;obtain⟨t,ht⟩:=Aa ht;have ad:=Ab (show ∀b,R (Z aw)<=b->Np mb lb sa b from λb a=>Afv (Aa p) a);have ae:=Ab<|Ad2 op _ _ v c t _ (Aa hs _<|Aa q) (Aa ac) (Aa ab) ht (Aa aq)<|Aa ad;clear ht;dsimp only;go_wp2_with fail
 refine(Aa ae).mono ?_;intro r aD af;obtain⟨y,e,rfl,hy,u⟩:=af.res;have ax:=Ab<|(Aa p).below u;have ay:=Ab<|(Aa q).trans (AN.aH (S:=λ_=>False) u) λ_ _ h=>h.elim;have az:=Ab hy;clear p ab ac q u hy af ae ad;dsimp only;go_wp2
 exact G2 (v:= jQ #[y,e]) (by simp[results,results116,go_sem]) rfl ⟨y,e,rfl,Aa az,L,Aa ax,Aa ay⟩
end
section
variable{aS aO aZ aW:jG}{B mb lb:Nat}{ap:L3}{np cp:Nat}{iv:jF}{a1:L3}{n1 c1:Nat}{a2:L3}{n2 c2:Nat}{s:Int}{Rr:Rq}{S:Nat}{at_:Nat}{st:M4}{sl:List M7}{sa:L3}{sc:Nat}{xs ys:L7}{w w0:jB}{P:M1}
def OpA (aS aO aZ aW:jG) (B mb lb:Nat) (pv iv q1 q2:jF) (s:Int) (Rr:Rq) (S:Nat) (sv:jF) (az:Int) (zs:M4) (sl:List M7) (sa:L3) (sc:Nat) (ys:L7) (o:Ev) (w:jB) (r:Ending) (w':jB):Prop:=match o with
 |.ok u=>r=jN jX/\Kv B mb lb pv iv q1 q2 s Rr S sv az (zs++[u]) sl w w'
 |.err c=>(r=jN (Ny aS aO aZ aW c)/\1<=c/\c<=4)/\(∃ws,Dl B mb lb pv iv q1 q2 s Rr S az zs sl sa sc ws ys w')/\AN (Ga mb lb sv) w w'
theorem XP (op:Int)(C: 5<=op/\op<=21)(m:Int)(zs:M4)(l:Nat)(o:Ev)(G:T zs<=100)(D:Hid (Calls jZ 116 #[jP<|Q<|jA mb 0 U,V X<|op+3] w λr w'=>∃x e,r=jN (jQ #[x,e])/\Afu aS aO aZ aW (Np mb lb sa) o x e w'/\∃d,Dl B mb lb (Y ap np cp) iv (Y a1 n1 c1) (Y a2 n2 c2) s Rr S m zs sl sa sc d ys w'/\AN (λk=>k=mb) w w')):
  Calls jZ 87 #[jP<|Q<|jA mb 0 U,V X op] w (OpA aS aO aZ aW B mb lb (Y ap np cp) iv (Y a1 n1 c1) (Y a2 n2 c2) s Rr S (Y sa l sc) m zs sl sa sc ys o w):=by
 have H:IntKind.i64.wrap (op+3)=op+3:=by
  simp[IntKind.wrap,IntKind.bits,IntKind.signed];omega
 clear C;go_enter func87,ntmps87
 go_wp2_with fail
 refine(Aa D).mono ?_;rintro r n ⟨x,e,rfl,hx,d,a,f⟩;cases o with
 |err c=>
  obtain⟨rfl,hc⟩:=hx;obtain⟨I,he⟩:=Gv (aS:=aS) (aO:=aO) (aZ:=aZ) (aW:=aW) hc;have j:=Ab he;rw[he];have i:=Ab a;have b:=Ab<|show AN (Ga mb lb<|Y sa l sc) w n from(AN.refl _ w).trans f λq _ h=> .inl h;clear he a f;dsimp only;go_wp2
  go_ret
  exact⟨⟨by rw[Aa j];rfl,hc⟩,⟨d,Aa i⟩,Aa b⟩
 |ok u=>
  obtain⟨rfl,hv⟩:=hx;obtain⟨t,y,rfl⟩:=hv.bE;have i:=Ab a;have p:=Ab hv;have b:=Ab f;have v:=Ab<|Na mb B (T zs) sc _ _ _ _ _ _ _ _ _ _ _ sa d t y n a.row a.cI Oa a.low.1;clear a f hv;dsimp only;go_wp2_with fail
  refine(Aa v).mono ?_;rintro r w2 ⟨rfl,g,cap,z,A,hg,K2⟩;have j:=Ab<|(Aa i).push (Aa p) z A hg K2;have E:=Ab<|show AN (Ga mb lb<|Y sa l sc) w w2 from((AN.refl _ w).trans (Aa b) λq _ h=> .inl h).trans K2 λq _ h=>h.elim .inl λe=> .inr (.inr<|(PM _ _ _ _ _).trans e);have F:=Ab (show ∀q,jL (Value.slice (Q<|jA g 0 U) (T zs+1) cap)=Q q->jL (Value.slice sa l sc)=Q q\/R (Z w)<=q from λq hq=>by
   have e:g=q:=O8;subst e;exact hg.imp (λh=>(PM _ _ _ _ _).trans h) λh=>zB (Aa b).size h)
  clear v z A hg K2 i p b;dsimp only;go_wp2
  go_ret
  refine⟨rfl,Q<|jA g 0 U,cap,_,ys,Aa j,Aa E,?_⟩;rw[zC];exact Aa F
theorem Abk (h:Dl B mb lb (Y ap np cp) iv (Y a1 n1 c1) (Y a2 n2 c2) s Rr S at_ st sl sa sc xs ys w)(v:Ai w0 w)(M:R (Z w0)<=B)(N:T st<=100)(hat:at_<=20000)(op:Int)(y: 5<=op/\op<=21)(zs:M4)(o:Ev)(E:T zs<=100)(a:Hid<|∀b,AN (λk=>k=mb) w b->Dl B mb lb (Y ap np cp) iv (Y a1 n1 c1) (Y a2 n2 c2) s Rr S ((at_:Int)+1) st sl sa sc xs ys b->Calls jZ 116 #[jP<|Q<|jA mb 0 U,V X<|op+3] b λr w'=>∃x e,r=jN (jQ #[x,e])/\Afu aS aO aZ aW (Np mb lb sa) o x e w'/\∃g,Dl B mb lb (Y ap np cp) iv (Y a1 n1 c1) (Y a2 n2 c2) s Rr S ((at_:Int)+1) zs sl sa sc g ys w'/\AN (λk=>k=mb) b w'):
  Calls jZ 51 #[jP<|Q<|jA mb 0 U,jM #[V X op,V X 0]] w (OpA aS aO aZ aW B mb lb (Y ap np cp) iv (Y a1 n1 c1) (Y a2 n2 c2) s Rr S (Y sa (T st) sc) ((at_:Int)+1) zs sl sa sc ys o w):=by
 have O:=Gq hat;have z:=AE w<|jH #[V X op,V X 0] 80;have i:=(Below.refl _<|jJ w (jA mb 11 U)<|V X<|(at_:Int)+1).alloc NLN<|jH #[V X op,V X 0] 80;have l:=(h.cE<|(at_:Int)+1).below i;have P:jI (jK w<|jH #[V X op,V X 0] 80) (jA mb 11 U)=Q (V X at_):=(h.below z).row.cell 11;have W:=λj=>(h.below z).row.frozen j;have aa:=h.row.lt;have ab:=h.low.1;have ac:=(v.setCell (p:=(jA mb 11 U)) S1<|V X<|(at_:Int)+1).alloc (by simpa using v.size)<|jH #[V X op,V X 0] 80;have m:AN (Ga mb lb<|Y sa (T st) sc) w<|jK (jJ w (jA mb 11 U)<|V X<|(at_:Int)+1)<|jH #[V X op,V X 0] 80:=AN.trans ((AN.refl _ w).setCell (p:=(jA mb 11 U)) (λ_=> .inl rfl)<|V X<|(at_:Int)+1) (AN.aH (S:=λ_=>False) i) λ_ _ h=>h.elim;have F:=Ag.new (jJ w (jA mb 11 U)<|V X<|(at_:Int)+1) #[V X op,V X 0] 80;simp only[K1]at F;have n1:op≠1:=Oa;have n2:op≠2:=Oa;have ad:op≠3:=Oa;have ae:op≠4:=Oa;have af:op≠22:=Oa;have ag:op≠23:=Oa;have ah:op≠24:=Oa;have ai:op≠25:=Oa;have G:AN (λk=>k=mb) w<|jK (jJ w (jA mb 11 U)<|V X<|(at_:Int)+1)<|jH #[V X op,V X 0] 80:=AN.trans (AN.setCell (S:=λk=>k=mb) (AN.refl _ w) (p:=(jA mb 11 U)) (λ_=>rfl)<|V X<|(at_:Int)+1) (AN.aH (S:=λ_=>False) i) λ_ _ h=>h.elim;have H:=Ab<|XP (aS:=aS) (aO:=aO) (aZ:=aZ) (aW:=aW) op y ((at_:Int)+1) zs (T st) o E<|Ab<|Aa a _ G l;clear y a;have aj:=Ab l;have ak:=Ab h;clear h l;go_enter func51,ntmps51
 go_wp2_with fail
 refine(Aa H).mono ?_;intro r b a;cases o with
 |ok u=>
  obtain⟨rfl,A,C,I,J,d,f,D⟩:=a;have n:=Ab d;have t:=Ab<|m.trans f λq _ h=>h;have K:=Ab (show ∀q,jL (Value.slice A (T<|zs++[u]) C)=Q q->jL (Value.slice sa (T st) sc)=Q q\/R (Z w)<=q from λq hq=>(D q hq).imp_right λh=>zB m.size h);clear d f D;dsimp only;go_wp2
  go_ret
  exact⟨rfl,A,C,I,J,Aa n,Aa t,Aa K⟩
 |err c=>
  obtain⟨⟨rfl,hc⟩,⟨g,d⟩,f⟩:=a;obtain⟨al,he⟩:=Gv (aS:=aS) (aO:=aO) (aZ:=aZ) (aW:=aW) hc;have n:=Ab he;rw[he];have L:=Ab d;have t:=Ab<|m.trans f λq _ h=>h;clear he d f;dsimp only;go_wp2
  go_ret
  exact⟨⟨by rw[Aa n];rfl,hc⟩,⟨g,Aa L⟩,Aa t⟩
end
section
variable{aS aO aZ aW:jG}{B mb lb:Nat}{ap:L3}{np cp:Nat}{iv:jF}{a1:L3}{n1 c1:Nat}{a2:L3}{n2 c2:Nat}{s:Int}{Rr:Rq}{S:Nat}{at_:Nat}{st:M4}{sl:List M7}{sa:L3}{sc:Nat}{xs ys:L7}{w w0:jB}{P:M1}
def AkC (B mb lb:Nat) (pv iv q1 q2:jF) (s:Int) (Rr:Rq) (S:Nat) (sa:L3) (sc l n:Nat) (ko co:Int) (ss:L4) (w w':jB):Prop:=∃at' y cy,Ag w' mb (No pv s iv Rr q1 q2 (Y sa n sc) (Y (Q<|jA lb 0 U) S S) at' ko co<|Y y (T ss) cy) 59/\jO w' (R<|Z w) 9 1 (Y y (T ss) cy) (T ss) (ss.map Value.string)/\AN (Ga mb lb<|Y sa l sc) w w'
def TkA (aS aO aZ aW:jG) (B mb lb:Nat) (pv iv q1 q2:jF) (s:Int) (Rr:Rq) (S:Nat) (P:M1) (i:Be) (at_:Nat) (st:M4) (sl:List M7) (sa:L3) (sc:Nat) (ys:L7) (w:jB) (r:Ending) (w':jB):Prop:=
 (i.op=24/\r=jN jX/\AkC B mb lb pv iv q1 q2 s Rr S sa sc (T st) (T st) 1 0 [] w w')\/
 (i.op=25/\r=jN jX/\∃zs ss,st=zs++[.set ss]/\AkC B mb lb pv iv q1 q2 s Rr S sa sc (T st) (T zs) 2 0 ss w w')\/
 ((i.op≠24/\i.op≠25)/\∃c,Fo Rr P i at_ st sl= .inl c/\(r=jN (Ny aS aO aZ aW c)/\1<=c/\c<=4)/\∃zs ws,T zs<=T st/\Dl B mb lb pv iv q1 q2 s Rr S ((at_:Int)+1) zs sl sa sc ws ys w'/\AN (Ga mb lb<|Y sa (T st) sc) w w')\/
 ((i.op≠24/\i.op≠25)/\∃a st' sl',Fo Rr P i at_ st sl= .inr (a,st',sl')/\r=jN jX/\Kv B mb lb pv iv q1 q2 s Rr S (Y sa (T st) sc) a st' sl' w w')
theorem Hh {st:M4}(h:st≠ []):st=st.take (T st-1)++[FZ st]:=by
 have h0: 0<T st:=List.length_pos_iff.2 h;have e:FZ st=st[T st-1]:=by rw[FZ,List.getLast?_eq_getElem?,zM Oa];rfl
 have:=zT (l:=st) (i:=T st-1) Oa
 grind
theorem Acy {st:M4}(h: 2<=T st):st=st.take (T st-2)++[GZ st]++[FZ st]:=by
 have a:=Hh (st:=st) (λe=>by rw[e]at h;exact H9 h Ob);have e:GZ st=st[T st-2]:=by rw[GZ,zj,zM Oa];rfl
 have:=zT (l:=st) (i:=T st-2) Oa
 grind
structure AhW (w0:jB) (ap:L3) (np cp:Nat) (a1:L3) (n1 c1:Nat) (a2:L3) (n2 c2:Nat) (P:M1) (Rr:Rq) (aS aO aZ aW:jG):Prop where
 aI:SC w0 ap np cp P
 vals:∀x∈P,CW x=jD/\T x.aB<=1048576/\Cu x.num
 q1:Aq w0 a1 n1 c1 Rr.s1
 q2:Aq w0 a2 n2 c2 Rr.s2
 nums:Cu Rr.lv/\Cu Rr.nw/\T Rr.s1<=1048576/\T Rr.s2<=1048576
 sent:FV w0 aS aO aZ aW
 tab: 7 <R (Z w0)/\∀k,jI w0 ⟨7,k,U⟩=Nb[k]?
theorem Gz {S:Nat->Prop}{w0 w w':jB}(h:Ai w0 w)(k:AN S w w')(c:∀b,b<R (Z w0)->¬ S b):Ai w0 w':=
 ⟨k.os.trans h.os,k.tape.trans h.tape,k.output.trans h.output,zB h.size k.size,λb a=>(k.block b (zL a h.size)<|c b a).trans<|h.block b a⟩
theorem Afw {M:Nat}{i:Be}{v:Vs}(E:AhW w0 ap np cp a1 n1 c1 a2 n2 c2 P Rr aS aO aZ aW)(h:Dl B mb lb (Y ap np cp) iv (Y a1 n1 c1) (Y a2 n2 c2) s Rr S at_ st sl sa sc xs ys w)(g:Ai w0 w)(m:R (Z w0)<=B)(hat:at_<=20000)(hi:EF i=jD)(ak:(As (P.map Vl.aC) S M at_ i v).1=0)(G:OkS v st sl)(aB:T v.aE=S)(n:T st<=100):
  Calls jZ 51 #[jP<|Q<|jA mb 0 U,jM #[V X i.op,V X i.aY]] w (TkA aS aO aZ aW B mb lb (Y ap np cp) iv (Y a1 n1 c1) (Y a2 n2 c2) s Rr S P i at_ st sl sa sc ys w):=by
 obtain⟨J,K,ht,aD,_⟩:=Gy ak;have C:T st=T v.stack:=by rw[<-G.1,zN]
 have z: 1<=i.op/\i.op<=25/\(GJ i.op=jD->0<=i.aY)/\(GJ i.op=jE->i.aY=0):=by grind [EF]
 obtain⟨op,O⟩:=i;dsimp only at*;by_cases al:op=1
 .subst al;have l:=z.2.2.1 (by simp[GJ]);obtain⟨k,rfl⟩:=zo l;simp[AF]at J;have W:k<T P:=Oa;refine(Afq (P:=P) h g m n hat k P[k] (zM W) E.aI<|E.vals _<|zI W).mono ?_;rintro r w' ⟨rfl,d⟩;refine .inr<|.inr<|.inr ⟨Ox,_,_,_,?_,rfl,d⟩;simp[Fo,W]
 by_cases ao:op=2
 .subst ao;have l:=z.2.2.1 (by simp[GJ]);simp[AF]at J;refine(Afr h g m n hat O ⟨l,J⟩ E.q1 E.q2 E.nums).mono ?_;rintro r w' ⟨rfl,d⟩;refine .inr<|.inr<|.inr ⟨Ox,_,_,_,?_,rfl,d⟩;simp[Fo]
 by_cases c3:op=3
 .subst c3;have l:=z.2.2.1 (by simp[GJ]);obtain⟨k,rfl⟩:=zo l;simp[AF]at J;have ae:k<T v.aE:=Oa;have aF:RZ v.aE (k:Int)=v.aE[k]:=by rw[RZ,zS,zj,zM ae];rfl
  obtain h0|⟨u,aq,aG⟩:=G.2.2 k ae
  .omega
  .refine(Afs h g m n hat k Oa u aq).mono ?_;rintro r w' ⟨rfl,d⟩;refine .inr (.inr<|.inr ⟨Ox,_,_,_,?_,rfl,d⟩)
   grind [Fo]
 by_cases c4:op=4
 .subst c4;have l:=z.2.2.1 (by simp[GJ]);obtain⟨k,rfl⟩:=zo l;simp[AF]at J;have f:st≠ []:=λe=>by rw[e]at C;simp[AM]at K;simp at C;omega
  refine(Aft h g m n hat k Oa _ _<|Hh f).mono ?_;rintro r w' ⟨rfl,d⟩;refine .inr<|.inr<|.inr ⟨Ox,_,_,_,?_,rfl,d⟩;simp[Fo]
 by_cases ar:op=22
 .subst ar;have l:=z.2.2.1 (by simp[GJ]);obtain⟨k,rfl⟩:=zo l;refine(Acr h g m n hat k).mono ?_;rintro r w' ⟨rfl,d⟩;refine .inr<|.inr<|.inr ⟨Ox,_,_,_,?_,rfl,d⟩;simp[Fo]
 by_cases au:op=23
 .subst au;have l:=z.2.2.1 (by simp[GJ]);obtain⟨k,rfl⟩:=zo l;have f:st≠ []:=λe=>by rw[e]at C;simp[AM]at K;simp at C;omega
  have D:(FZ st).ty=1:=by
   rw[<-Cf st f,G.1];simpa[AJ]using ht
  obtain⟨b,H⟩:=Vv.bU D;have x:=Hh f;rw[H]at x;refine(Acu h g m n hat k _ b x).mono ?_;rintro r w' ⟨rfl,d⟩;cases b with
  |true=>
    refine .inr<|.inr<|.inr ⟨Ox,at_+1,st.take<|T st-1,sl,?_,rfl,d⟩;simp[Fo,H]
  |false=>
    refine .inr<|.inr<|.inr ⟨Ox,k,st.take<|T st-1,sl,?_,rfl,d⟩;simp[Fo,H]
 by_cases aa:op=24
 .subst aa;obtain rfl:O=0:=z.2.2.2 (by simp[GJ]);refine(Acs h g m n hat).mono ?_;rintro r w' ⟨rfl,ab,ac⟩;exact .inl ⟨rfl,rfl,_,U,0,ab,H3,ac⟩
 by_cases ad:op=25
 .subst ad;obtain rfl:O=0:=z.2.2.2 (by simp[GJ]);have f:st≠ []:=λe=>by rw[e]at C;simp[AM]at K;simp at C;omega
  have D:(FZ st).ty=4:=by
   rw[<-Cf st f,G.1];simpa[AJ]using ht
  obtain⟨ss,H⟩:=Vv.bB D;have x:=Hh f;rw[H]at x;refine(Acw h g m n hat _ ss x).mono ?_;rintro r w' ⟨rfl,y,av,ab,aw,ac⟩;exact .inr<|.inl ⟨rfl,rfl,_,ss,x,_,y,av,ab,aw,ac⟩
 have af: 5<=op/\op<=21:=Oa;obtain rfl:O=0:=z.2.2.2 (by simp[GJ];omega);have ax:(FQ op v.stack).isSome=jD:=by grind [AJ]
 obtain⟨t,ag⟩:=Z7.1 ax;have low:∀a,AN (λk=>k=mb) w a->Ai w0 a:=λa k=>Gz g k λb H e=>H2 h.low.1;have ah:Hid<|∀a,AN (λk=>k=mb) w a->FV a aS aO aZ aW:=Ab λa k=>E.sent.below (low a k) NLN;have ai:Hid<|∀a,AN (λk=>k=mb) w a->7 <R (Z a)/\∀k,jI a ⟨7,k,U⟩=Nb[k]?:=Ab λa k=>⟨zL E.tab.1 (low a k).size,λj=>((low a k).cell (p:=⟨7,j,U⟩) E.tab.1).trans<|E.tab.2 j⟩;have aj:∀(zs:M4) (o:Ev) {r:Ending} {w':jB},opS op st=o->zs=st.take (T st-AM op)->OpA aS aO aZ aW B mb lb (Y ap np cp) iv (Y a1 n1 c1) (Y a2 n2 c2) s Rr S (Y sa (T st) sc) ((at_:Int)+1) zs sl sa sc ys o w r w'->TkA aS aO aZ aW B mb lb (Y ap np cp) iv (Y a1 n1 c1) (Y a2 n2 c2) s Rr S P ⟨op,0⟩ at_ st sl sa sc ys w r w':=λzs o r w' aH I A=>by
  cases o with
  |ok u=>
    refine .inr<|.inr<|.inr ⟨⟨aa,ad⟩,at_+1,zs++[u],sl,?_,A.1,A.2⟩
    grind [Fo]
  |err c=>
    obtain⟨ay,az⟩:=A.2.1;refine .inr<|.inr<|.inl ⟨⟨aa,ad⟩,c,?_,A.1,zs,ay,by rw[I,zg];omega,az,A.2.2⟩
    grind [Fo]
 by_cases cp:AM op=1
 .have aJ:op<=7:=by grind [AM]
  have f:st≠ []:=λe=>by rw[e]at C;rw[cp,<-C]at K;exact H9 K Ob
  have x:=Hh f;have D:nz (By (op+3) [(FZ st).ty])=Q t:=by
   rw[FQ,H8 cp,<-G.1,Cf st f]at ag
   grind [Og]
  refine(Abk (aS:=aS) (aO:=aO) (aZ:=aZ) (aW:=aW) h g m n hat op af (st.take<|T st-1) (GI (op+3)<|FZ st) (by rw[zg];omega)<|Ab λa L N=>?_).mono (λr w' A=>aj _ _ (by rw[opS,H8 cp]) (by rw[cp]) A);rw[x]at N;exact Acx (op+3) Oa _ (st.take<|T st-1) (FZ st) N (by rw[zg];omega) (Ab ⟨t,D⟩) (Ab λw2 F=>Aa ah w2<|L.trans F λ_ _ h=>h)<|Ab λw2 F=>Aa ai w2<|L.trans F λ_ _ h=>h
 .have aK: 8<=op:=by
   obtain q|q:=Int.lt_or_le op 8
   all_goals grind [AM]
  have aA:AM op=2:=by rw[AM,H7 Oa,H7 Oa]
  have I: 2<=T st:=Oa;have f:st≠ []:=λe=>by rw[e]at I;exact H9 I Ob
  have x:=Acy I;have D:nz (By (op+3) [(GZ st).ty,(FZ st).ty])=Q t:=by
   rw[FQ,H7 cp,<-G.1,Cf st f,Of st I]at ag
   grind [Oh]
  refine(Abk (aS:=aS) (aO:=aO) (aZ:=aZ) (aW:=aW) h g m n hat op af (st.take<|T st-2) (Cc (op+3) (GZ st)<|FZ st) (by rw[zg];omega)<|Ab λa L N=>?_).mono (λr w' A=>aj _ _ (by rw[opS,H7 cp]) (by rw[aA]) A);rw[x]at N;exact ZG (op+3) Oa _ (st.take<|T st-2) (GZ st) (FZ st) N (by rw[zg];omega) (Ab ⟨t,D⟩) (Ab λw2 F=>Aa ah w2<|L.trans F λ_ _ h=>h)<|Ab λw2 F=>Aa ai w2<|L.trans F λ_ _ h=>h
end
end Go.Proofs.YtnjpihpohilnjaaGreatDoor
