import Derived.Test.YtlcfoihgfcmfeaaGreatDoorMXAZ
import Derived.Deep.Onto
open Option renaming none->V,some->Z
open List renaming length->Y,length->je
open Array renaming size->R,size->jh
open Go renaming World->jD,Value->jF,Addr->jH,TypeId->jR
namespace Go.Proofs.YtlcfoihgfcmfeaaGreatDoor
open Proofs.Tryz
open Value renaming int->T,int->ja,slice->X,slice->jd,string->jA,iface->jJ,agg->jL,ownBlock->jO,pointer->jQ,nilIface->jT
open IntKind renaming i64->U
open World renaming heap->Q,cell?->jE,alloc->jK,setCell->jM,ownsRow->jP,drew->jV
open Addr renaming mk->jB,block->jW
open Obj renaming cells->jC
open Ending renaming returned->jN
open Proofs.Tryz renaming prog->jZ
open Go.RowKit
set_option linter.unusedVariables false
set_option maxRecDepth 100000
set_option maxHeartbeats 6400000
variable{p:jH}{F:FuncId}{zs:M4}{rest:List Oper}{S:M9}{zb f k g7 c7:Nat}{o:Obj}{a:M3}{x:Sx}{t:jR}{v a1 l m n:jF}{w w' d:jD}
section
variable{G:Nat->Prop}
theorem Am.setG{n c:Nat}{ss:M6}(h:Am w a n c ss)(g:∀x,a=Z x->0<n->jW x≠jW p)(u:jF):Am (jM w p u) a n c ss:=⟨h.len,h.cap,h.aH,h.bE,λj d=>by obtain⟨b,i,f,k,hc⟩:=h.cells j d;refine⟨b,i,f,by simpa using k,?_⟩;rw[<-hc];exact L0<|L2 w p b u<|g _ f<|Nat.lt_of_le_of_lt (zH _) d⟩
theorem Ex.bY{w:jD}{p:jH}(a:∀b,G b->b≠jW p)(u:jF):∀(e:Ex),e.mem G w->e.mem G (jM w p u)|.int ..,h=>h|.text ..,h=>h|.bool ..,h=>h|.set ..,h=>⟨h.1.setG (λx hx c=>a _<|h.2.2 x hx c) u,h.2⟩|.name ..,h=>h|.attr ..,h=>h|.lett ..,h=>h|.un _ _ e,h=>Ex.bY a u e h|.bin _ _ e f,h=>⟨Ex.bY a u e h.1,Ex.bY a u f h.2⟩|.ite _ e f g,h=>⟨Ex.bY a u e h.1,Ex.bY a u f h.2.1,Ex.bY a u g h.2.2⟩
theorem Ex.aY{G i:Nat->Prop}{w:jD}(d:∀b,b<R (Q w)->G b->i b):∀(e:Ex),e.mem G w->e.mem i w|.int ..,h=>h|.text ..,h=>h|.bool ..,h=>h|.set _ a n c ss,h=>⟨h.1,h.2.1,λx hx j=>by obtain⟨b,m,k,l,_⟩:=h.1.cells 0 j;have hg:=h.2.2 x hx j;rw[hx]at k;cases k;exact d _ l hg⟩|.name ..,h=>h|.attr ..,h=>h|.lett ..,h=>h|.un _ _ e,h=>Ex.aY d e h|.bin _ _ e f,h=>⟨Ex.aY d e h.1,Ex.aY d f h.2⟩|.ite _ e f g,h=>⟨Ex.aY d e h.1,Ex.aY d f h.2.1,Ex.aY d g h.2.2⟩
def So(G:Nat->Prop)(x:N5)(v:jF)(w:jD):Prop:=∃o':N5,v=oV o'/\o'.map Ex.st=x.map Ex.st/\∀e,o'=Z e->e.mem G w
theorem So.below{x:N5}(h:So G x v w)(a:Ak w w'):So G x v w':=by obtain⟨o',h1,h2,h3⟩:=h;exact⟨o',h1,h2,λe he=>e.aG a NLN<|h3 e he⟩
theorem So.dR{x:N5}(h:So G x v w)(a:∀b,G b->b≠jW p)(u:jF):So G x v<|jM w p u:=by obtain⟨o',h1,h2,h3⟩:=h;exact⟨o',h1,h2,λe he=>e.bY a u<|h3 e he⟩
def RbO(G:Nat->Prop)(F:FuncId)(pre post:Array jF)(w0:jD)(v:jF)(x:N5):Prop:=∀w,Ak w0 w->Calls jZ 98 #[v,.func (.func F) pre post] w λr w'=>∃v',r=jN v'/\So G x v' w'/\Ak w w'
theorem YI(F:FuncId)(a b:Array jF)(c:jD):RbO G F a b c jT V:=λw _=>(Aj4 F a b w).mono λd w' h=>⟨_,h.1,⟨V,rfl,rfl,λe he=>by cases he⟩,h.2⟩
theorem YJ{a b:Array jF}{c:jD}{x:Ex}(h:RbX G F a b c v x):RbO G F a b c v<|Z x:=λw d=>(h w d).mono λg w' f=>by obtain⟨e,h1,h2,h3,h4⟩:=f;exact⟨_,h2,⟨Z e,rfl,congrArg Z h1,λi he=>by cases he;exact h3⟩,h4⟩
abbrev Sp(G:Nat->Prop)(b:Nat):Nat->Prop:=λx=>x≠b/\x≠b+1/\G x
theorem So.form{x:N5}{v:jF}{w:jD}(h:So G x v w):(x=V->v=jT)/\(x≠V->∃t u,v=jJ t u):=by
 obtain⟨o',rfl,h2,_⟩:=h;cases o'<;>cases x<;>first|cases h2;done|skip
 .exact⟨λ_=>rfl,λh=>K4 rfl h⟩
 exact⟨λh=>(nomatch h),λ_=>Ex.form _⟩
abbrev s5(W:jD)(s:Nat)(a b c d e:jF):jD:=jM (jM (jM (jM (jM W (jB s 0 V) a) (jB s 1 V) b) (jB s 2 V) c) (jB s 3 V) d) (jB s 4 V) e
theorem AmR{f:jD}{s:Nat}{i k:jF}(R:Ah f s #[i,k,l,m,n] t)(B:Below s w f)(a b c d e:jF):Ah (s5 f s a b c d e) s #[a,b,c,d,e] t/\Below s w (s5 f s a b c d e)/\∀{G:Nat->Prop}(x:Ex),x.mem (λb=>b≠s/\G b) f->x.mem G (s5 f s a b c d e):=by have g:∀{f:jD}{G:Nat->Prop}(j:Nat) (u:jF) (x:Ex),x.mem (λb=>b≠s/\G b) f->x.mem (λb=>b≠s/\G b) (jM f (jB s j V) u):=λj u=>Ex.bY (p:=(jB s j V)) (λb h=>h.1) u;have bel:∀{f:jD}(j:Nat) (u:jF),Below s w f->Below s w (jM f (jB s j V) u):=λj u B=>B.setCell (p:=(jB s j V)) NLN u;exact⟨((((R.set 0 a).set 1 b).set 2 c).set 3 d).set 4 e,bel 4 e<|bel 3 d<|bel 2 c<|bel 1 b<|bel 0 a B,λx h=>Ex.aY (λb _ h=>h.2) x<|g 4 e x<|g 3 d x<|g 2 c x<|g 1 b x<|g 0 a x h⟩
theorem AlE{w2 f:jD}{b:Nat}{T:jR}{d a2 r s g z1 z2 i k a c:jF}{l x2:N5}(R:Ah w2 b #[d,a1,a2,r,s] T)(t:Ah w2 (b+1) #[g,z1,z2,i,k] T)(B:Below b w w2)(y:So (Sp G b) l a w2)(o2:So (Sp G b) x2 c w2)(h:f=jM (jM w2 (jB b 3 V) a) (jB b 4 V) c):Ah f b #[d,a1,a2,a,c] T/\Ah f (b+1) #[g,z1,z2,i,k] T/\Ah (s5 f (b+1) d a1 a2 a c) (b+1) #[d,a1,a2,a,c] T/\Below b w (s5 f (b+1) d a1 a2 a c)/\So G l a (s5 f (b+1) d a1 a2 a c)/\So G x2 c (s5 f (b+1) d a1 a2 a c):=by
 subst h;have m:=(t.aJ (p:=(jB b 3 V)) (Oa:b+1≠b) a).aJ (p:=(jB b 4 V)) (Oa:b+1≠b) c;obtain⟨z,_,A⟩:=AmR m (Below.refl (b+1) _) d a1 a2 a c;have n:∀{x:N5}{v:jF},So (Sp G b) x v w2->So G x v (s5 (jM (jM w2 (jB b 3 V) a) (jB b 4 V) c) (b+1) d a1 a2 a c):=λo=>by obtain⟨o',h1,h2,h3⟩:=(o.dR (p:=(jB b 3 V)) (λb h=>h.1) a).dR (p:=(jB b 4 V)) (λb h=>h.1) c;exact⟨o',h1,h2,λe he=>A e<|Ex.aY (λ_ _ h=>h.2) e<|h3 e he⟩
 have bel:∀{q:jD}(j:Nat) (u:jF),Below b w q->Below b w (jM q ⟨b+1,j,V⟩ u):=λj u B=>B.setCell (p:=⟨b+1,j,V⟩) (zQ _) u;exact⟨(R.set 3 a).set 4 c,m,z,bel 4 c<|bel 3 a<|bel 2 a2<|bel 1 a1<|bel 0 d<|(B.setCell (p:=(jB b 3 V)) NLN a).setCell (p:=(jB b 4 V)) NLN c,n y,n o2⟩
theorem UR(F:FuncId)(f g:Array jF)(j s:Int)(nm:M1)(i d:jF)(b x2:N5)(w:jD)(O:Hid<|∀a,Ak w a->R (Q w)+2<=R (Q a)->RbO (Sp G<|R<|Q w) F f g a i b)(S:Hid<|∀a,Ak w a->R (Q w)+2<=R (Q a)->RbO (Sp G<|R<|Q w) F f g a d x2):Calls jZ 42 #[jL #[T U j,T U s,jA nm,i,d],.func (.func F) f g] w λt w'=>(∃n o,t=jN (jL #[T U j,T U s,jA nm,n,o])/\So G b n w'/\So G x2 o w')/\Ak w w':=by
 have E:(Tryz.f98.name== "runtime.NumGoroutine")=false:=Ok;have H:Tryz.f98.body.isNone=false:=Ok;have W:Hid (b=V)\/Hid (b≠V):=by by_cases h:b=V;exact .inl<|Ab h;exact .inr<|Ab h
 have aa:Hid (x2=V)\/Hid (x2≠V):=by by_cases h:x2=V;exact .inl<|Ab h;exact .inr<|Ab h
 obtain X1|X1:=W<;>obtain X2|X2:=aa;all_goals go_enter func42,ntmps42;go_wp2_with fail;refine Le (P:=Code.wp _ _ _ _) λa l p u=>?_;have hz:=u.lt;have ab:=Ab<|Aa O a l hz;have ac:=Ab<|Aa S a l hz;have r2:jE a ⟨R<|Q w,3,V⟩=Z i:=p.cell 3;have r3:jE a ⟨R<|Q w,4,V⟩=Z d:=p.cell 4;have I:Ak a<|jV a:=BRN.drew;go_region_law (first|(refine Cc rfl 98 _ func98 E H _ _ _ rfl i (.func (.func F) f g) rfl rfl (λv' w'=>So (Sp G<|R<|Q w) b v' w'/\Ak a w') ((Aa ab (jV a) I).mono λt w' h=>⟨h.choose,h.choose_spec.1,h.choose_spec.2.1,I.trans h.choose_spec.2.2⟩) ?_;rintro n x ⟨q,r⟩;have y:=p.aB r NLN;have ad:jE x ⟨R<|Q w,4,V⟩=Z d:=y.cell 4)|(refine Cc rfl 98 _ func98 E H _ _ _ rfl d (.func (.func F) f g) rfl rfl (λv' w'=>So (Sp G<|R<|Q w) x2 v' w'/\Ak x w') ((Aa ac x r).mono λt w' h=>⟨h.choose,h.choose_spec.1,h.choose_spec.2.1,h.choose_spec.2.2⟩) ?_;rintro o w2 ⟨o2,z⟩;have m:=y.aB z NLN;have ae:jE w2 ⟨R<|Q w,3,V⟩=Z i:=m.cell 3;have af:jE w2 ⟨R<|Q w,4,V⟩=Z d:=m.cell 4;have ag:=λk=>m.frozen k;obtain⟨ar,A⟩:∃ah,ah=jM (jM w2 ⟨R (Q w),3,V⟩ n) ⟨R (Q w),4,V⟩ o:=⟨_,rfl⟩;have B:=r.trans<|z.mono r.size;have J:=Ab<|AlE m (u.aB B NLN) (l.trans<|B.mono l.size) (q.below z) o2 A;have K:=Ab A;clear A;(first|(have c:Hid (b=V):=X1;obtain rfl:=q.form.1<|Aa c)|(have c:Hid<|b≠V:=X1;obtain⟨au,av,rfl⟩:=q.form.2<|Aa c));(first|(have c:Hid (x2=V):=X2;obtain rfl:=o2.form.1<|Aa c)|(have c:Hid<|x2≠V:=X2;obtain⟨aw,ax,rfl⟩:=o2.form.2<|Aa c))));all_goals rw[<-Aa K];obtain⟨ai,aj,L,M,C,D⟩:=Aa J;simp only[s5]at L M C D;clear ae af ag ad r2 r3 m y B l p u q o2 K J;obtain⟨ay,az,aA,aC,aD⟩:=Cp ai;obtain⟨aE,z1,z2,aF,aG⟩:=Cp aj;have N:=Ab<|And.intro C D;clear C D;go_wp2_with fail;obtain⟨ak,al,ao,ap,aq⟩:=Cp L;exact bodyPost_ret (v:=jL #[T U j,T U s,jA nm,_,_]) (by simp[results,results42,go_sem,ak,al,ao,ap,aq]) rfl ⟨⟨_,_,rfl,(Aa N).1,(Aa N).2⟩,M⟩
end
section
variable{aS aO aZ aW:jH}{G:Nat->Prop}
theorem LtM.le{G a:Nat->Prop}{c:Nat}{d:jF}{f:M3}{g:Nat}{ls:M8}(h:LtM G w c d f g ls)(i:∀b,b<R (Q w)->G b->a b):LtM a w c d f g ls:=⟨h.row,h.aH,λj k=>by obtain⟨b,l,h1,h2,h3,h4⟩:=h.cells j k;exact⟨b,l,h1,h2,h3,Ex.aY i _ h4⟩⟩
theorem OzS.le{G a:Nat->Prop}{w:jD}{zb:Nat}{ls:M8}(h:OzS G w zb ls)(c:∀b,b<R (Q w)->G b->a b):OzS a w zb ls:=by obtain⟨d,f,g,h1,h2⟩:=h;exact⟨d,f,g,h1,h2.le c⟩
def Ahu(G:Nat->Prop)(ts:M4)(o:N5)(w:jD):Prop:=∀e,o=Z e->FH e/\(∃t,An ts e=Z t)/\e.mem G w
theorem Ahv{ls:M8}(h:OzS G w zb ls)(i:∀b,R (Q w)<=b->G b)(hS:Cx w aS aO aZ aW)(ts:M4)(j:Y ts=Y ls)(hy:FI ts ls)(hg:∀c∈ls,FH c)(o:N5)(k:Ahu G ts o w)(a:jD)(d:Ak w a)(hz:R (Q w)+2<=R (Q a)):RbO (Sp G<|R<|Q w) 43 #[jQ<|Z<|jB zb 0 V] #[] a (AO o) (o.map<|Cw ls):=by cases o with|none=>exact YI _ _ _ a|some e=>obtain⟨g,t,m⟩:=k e rfl;have f:∀b,b<R (Q w)->G b->Sp G (R<|Q w) b:=λb h g=>⟨Oa,Oa,g⟩;exact YJ<|L5 ((h.le f).below d) (λb h=>⟨Oa,Oa,i b Oa⟩) (hS.below d NLN) ts j hy hg e g t<|e.aG d NLN<|Ex.aY f e m
theorem Abc{ls:M8}(h:OzS G w zb ls)(f:∀b,R (Q w)<=b->G b)(hS:Cx w aS aO aZ aW)(ts:M4)(g:Y ts=Y ls)(hy:FI ts ls)(hg:∀c∈ls,FH c)(x:Sx)(h1:Ahu G ts x.cond w)(h2:Ahu G ts x.aD w):Calls jZ 42 #[jL #[T U x.bZ,T U x.aF,jA x.name,AO x.cond,AO x.aD],.func (.func 43) #[jQ<|Z<|jB zb 0 V] #[]] w λk w'=>(∃i j,k=jN (jL #[T U x.bZ,T U x.aF,jA x.name,i,j])/\So G (x.cond.map<|Cw ls) i w'/\So G (x.aD.map<|Cw ls) j w')/\Ak w w':=UR _ _ _ x.bZ x.aF x.name _ _ _ _ w (Ab λa d hz=>Ahv h f hS ts g hy hg x.cond h1 a d hz) (Ab λa d hz=>Ahv h f hS ts g hy hg x.aD h2 a d hz)
end
def AT(S:M9):Nat:=Y<|S.filter λx=>x.aF==1
theorem L6(S:M9)(x:Sx):AT (S++[x])=AT S+if x.aF=1 then 1 else 0:=by unfold AT;rw[List.filter_append,zC];by_cases h:x.aF=1<;>simp[h]
theorem YK(S:M9):AT S<=Y S:=List.length_filter_le _ _
structure ZB(w:jD)(g:Nat)(S:M9):Prop where ex:∃cur,Ah w g cur 88/\∀(r:Nat)(u:jF),(Io S)[r]?=Z u->cur[r]?=Z u
theorem ZB.below{g:Nat}(h:ZB w g S)(a:Ak w w'):ZB w' g S:=by obtain⟨b,h1,h2⟩:=h.ex;exact⟨b,h1.aB a NLN,h2⟩
theorem ZB.at{g:Nat}(h:ZB w g S)(k:Nat)(c:k<Y S):jE w ⟨g,k*5,V⟩=Z (T U S[k].bZ)/\jE w ⟨g,k*5+1,V⟩=Z (T U S[k].aF)/\jE w ⟨g,k*5+2,V⟩=Z (jA S[k].name)/\jE w ⟨g,k*5+3,V⟩=Z (AO S[k].cond)/\jE w ⟨g,k*5+4,V⟩=Z (AO S[k].aD):=by
 obtain⟨f,R,hc⟩:=h.ex;have a:∀b,b<5->∀u,(GG S[k])[b]?=Z u->jE w ⟨g,k*5+b,V⟩=Z u:=λb d u hu=>by rw[R.cell];refine hc _ _ ?_;rw[PZ S k c b d];exact hu
 exact⟨a 0 Ob _ rfl,a 1 Ob _ rfl,a 2 Ob _ rfl,a 3 Ob _ rfl,a 4 Ob _ rfl⟩
theorem ZB.lt{w:jD}{g:Nat}{S:M9}(h:ZB w g S):g<jh (Q w):=by obtain⟨a,R,_⟩:=h.ex;exact R.lt
theorem Bz(o:N5):AO o=jT\/∃t u,AO o=jJ t u:=by cases o with|none=>exact .inl rfl|some e=>exact .inr e.form
theorem Wd(S:M9)(m g c:Nat)(w:jD)(hm:Y S=m)(I:m<=65535)(h:ZB w g S):Calls jZ 46 #[X (Z<|jB g 0 V) m c] w λy w'=>y=jN (T U<|AT S)/\Ak w w':=by
 have r:=Ab hm;have z:=Ab h;clear hm h;go_enter func46,ntmps46;go_wp2_with fail;go_loopw[8,3] (λi n wr=>∃k:Nat,k<=m/\i=T U k/\n=T U (AT<|S.take k)/\Ak w wr) (λi _ _=>m-(intOf i).toNat);case atStart=>exact⟨0,Oa,rfl,rfl,BRN⟩
 obtain⟨k,J,rfl,rfl,d⟩:=hrel;have l:=YK<|S.take k;rw[zv]at l;by_cases f:k<m
 .have K:(k:Int)<(m:Int):=Oa;have o:k<Y S:=by rw[Aa r];exact f
  have s:=(Aa z).below d;obtain⟨c0,c1,c2,c3,c4⟩:=s.at k o;have a:=Ab (show AT (S.take<|k+1)=AT (S.take k)+if S[k].aF=1 then 1 else 0 by rw[zY o,L6]);have j:=Ab f;have A:AT (S.take k)<=65535:=Oa;generalize AT (S.take k)=q at a A l|-;generalize S[k]=x at c0 c1 c2 c3 c4 a;obtain⟨B,p,C,t,u⟩:=x;simp only at c0 c1 c2 c3 c4 a;have v:=λD E=>d.alloc d.size<|jC #[T U B,T U p,jA C,D,E] 88;clear f o s l;by_cases hx:p=1
  .subst hx;have b:=Ab<|show AT (S.take<|k+1)=q+1 from(Aa a).trans (by rw[K1 rfl]);clear a;obtain e3|⟨F,u3,e3⟩:=Bz t<;>obtain e4|⟨G,u4,e4⟩:=Bz u<;>(
    rw[e3]at c3;rw[e4]at c4;clear e3 e4;go_wp2;go_roundw;case rel=>exact⟨k+1,Aa j,O0,by rw[Aa b];go_num,v _ _⟩
    have:=Aa j;simp[intOf];omega)
  have e1:(p==1)=false:=zA.2 hx;have b:=Ab<|show AT (S.take<|k+1)=q from(Aa a).trans (by rw[K0 hx];rfl);clear a hx;obtain e3|⟨F,u3,e3⟩:=Bz t<;>obtain e4|⟨G,u4,e4⟩:=Bz u<;>(
   rw[e3]at c3;rw[e4]at c4;clear e3 e4;go_wp2;go_roundw;case rel=>exact⟨k+1,Aa j,O0,by rw[Aa b],v _ _⟩
   have:=Aa j;simp[intOf];omega)
 have H:k=m:=Oa;have b:=Ab (show S.take k=S from zh<|by rw[Aa r];omega);subst H;clear f;go_wp2;go_ret;exact⟨by simp[Aa b],d⟩
def Cu(x:Sx):Sx:=⟨0,x.aF,x.name,x.cond.map Ex.st,x.aD.map Ex.st⟩
theorem Abd(ls:M8)(o:N5):(o.map Ex.st).map (Cw<|ls.map Ex.st)=(o.map<|Cw ls).map Ex.st:=by cases o<;>grind[LT]
theorem AlJ(ls:M8)(x:Sx):Ia (ls.map Ex.st) (Cu x)=Cu (Ia ls x):=by simp only[Ia,Cu,Abd]
theorem AlK(ls:M8)(x:Sx):KQ (ls.map Ex.st) (Cu x)=(KQ ls x).map Ex.st:=by
 unfold KQ;by_cases h:x.aF=1
 .rw[K1<|show(Cu x).aF=1 from h,K1 h];simp only[Cu];cases x.cond<;>simp[Ex.st]
 simp_all[Cu]
theorem Aj8:∀(X:M9)(ls:M8),CY (ls.map Ex.st) (X.map Cu)=(CY ls X).map Cu:=by intro X;induction X<;>intros<;>grind[CY,AlK,AlJ]
theorem Aj9(b:Bool)(o:N5):La b (o.map Ex.st)=La b o:=by cases o with|none=>rfl|some e=>exact AaW b e
theorem Wf:∀(X:M9),Bp (X.map Cu)=(Bp X).map Cu:=by intro X;induction X<;>intros<;>grind[Bp,Cu,Aj9]
theorem AlL(n:Int):∀(e:Ex),usE n e.st=usE n e:=by intro e;induction e<;>intros<;>grind[Ex.st,usE]
theorem AlM(n:Int)(o:N5):usO n (o.map Ex.st)=usO n o:=by cases o with|none=>rfl|some e=>exact AlL n e
theorem AlN(n:Int)(x:Sx):Ii n (Cu x)=Ii n x:=by simp only[Ii,Cu,AlM]
theorem Ahw(o:N5):Jr (o.map Ex.st)=Jr o:=by cases o with|none=>rfl|some e=>exact PQ e
theorem Abe:∀(a:M9)(n:Int),Cj n (a.map Cu)=(Cj n a).map λq=>(Cu q.1,q.2)
 |[],n=>rfl|x::a,n=>by
  have b:((Cj (n+1) a).map λq=>(Cu q.1,q.2)).any (λq=>Ii n q.1)=(Cj (n+1) a).any λq=>Ii n q.1:=by grind[AlN,List.any_map]
  rw[List.map_cons,Cj,Cj,Abe a<|n+1,Abe a n,b];simp only[show(Cu x).aF=x.aF from rfl,show(Cu x).cond=x.cond.map Ex.st from rfl,Ahw];grind
theorem AlO(K:List<|Sx×Int):GH (K.map λq=>(Cu q.1,q.2))=GH K:=by unfold GH;rw[List.filter_map,z6];rfl
theorem AlP(l:M4):∀(e:Ex),BV l e.st=(BV l e).st:=by intro e;induction e<;>intros<;>grind[Ex.st,BV]
theorem AlQ(l:M4)(x:Sx):(Cu<|FJ l x)=Cu (FJ l<|Cu x):=by
 have h:∀o:N5,(o.map<|BV l).map Ex.st=((o.map Ex.st).map<|BV l).map Ex.st:=λo=>by cases o<;>grind[AlP,AmM]
 grind[FJ,Cu]
theorem Wg(X:M9):(Tu<|X.map Cu).map Cu=(Tu X).map Cu:=by unfold Tu;rw[Abe,AlO,z6,z6,z6];grind[List.map_congr_left,AlQ]
theorem AcZ(X:M9):(BU<|X.map Cu).map Cu=(BU X).map Cu:=by unfold BU;rw[show([]:M8)=([]:M8).map Ex.st from rfl,Aj8,Wf,Wg];rfl
section
variable{G:Nat->Prop}
noncomputable def lsF:M8->M9->M8|ls,[]=>ls|ls,x::Xx=>lsF (KQ ls<|Ia ls x) Xx
theorem US:∀(a:M9)(ls:M8)(x:Sx),CY ls (a++[x])=CY ls a++[Ia (lsF ls a) x]|[],ls,x=>rfl|y::a,ls,x=>by rw[List.cons_append,CY,CY,US a,lsF];rfl
theorem Sq:∀(a:M9)(ls:M8)(x:Sx),lsF ls (a++[x])=KQ (lsF ls a) (Ia (lsF ls a) x)|[],ls,x=>rfl|y::a,ls,x=>by rw[List.cons_append,lsF,lsF,Sq a]
structure SiP(S:M9)(k:Nat)(ls:M8)(X:M9):Prop where
 st:X.map Cu=(CY []<|S.take k).map Cu
 lt:ls.map Ex.st=(lsF []<|S.take k).map Ex.st
 ty:∃ts:M4,Y ts=Y ls/\FI ts ls/\JD ts (S.drop k)gd:∀c∈ls,FH c
 len:Y X=k
 dZ:Y ls<=k
 pl:∀x∈X,∃s∈S,x.bZ=s.bZ
theorem SiP.zero(h:JD [] S):SiP S 0 [] []:=⟨by rw[List.take_zero];rfl,by rw[List.take_zero];rfl,⟨[],rfl,λn c hc=>by simp at hc,by rw[List.drop_zero];exact h⟩,(λc hc=>by cases hc),rfl,NLN,λx hx=>Q4⟩
theorem YL{ls a:M8}(h:ls.map Ex.st=a.map Ex.st)(o:N5):(o.map<|Cw ls).map Ex.st=(o.map<|Cw a).map Ex.st:=by rw[<-Abd,<-Abd,h]
theorem SiP.next{k:Nat}{ls:M8}{X:M9}(h:SiP S k ls X)(m:k<Y S)(hg:UF S):∃ts:M4,Y ts=Y ls/\FI ts ls/\(∀e,S[k].cond=Z e->FH e/\∃t,An ts e=Z t)/\(∀e,S[k].aD=Z e->FH e/\∃t,An ts e=Z t)/\∀g i:N5,g.map Ex.st=(S[k].cond.map<|Cw ls).map Ex.st->i.map Ex.st=(S[k].aD.map<|Cw ls).map Ex.st->(S[k].aF≠1->SiP S (k+1) ls (X++[⟨S[k].bZ,S[k].aF,S[k].name,g,i⟩]))/\(S[k].aF=1->∃j,g=Z j/\SiP S (k+1) (ls++[j]) (X++[⟨S[k].bZ,S[k].aF,S[k].name,g,i⟩])):=by
 obtain⟨ts,n,o,l⟩:=h.ty;have p:=hg _<|zI m;have v:=zI m;have q:S.take (k+1)=S.take k++[S[k]]:=zY m;rw[Z7 m]at l;generalize S[k]=x at*;have u:∀g i:N5,g.map Ex.st=(x.cond.map<|Cw ls).map Ex.st->i.map Ex.st=(x.aD.map<|Cw ls).map Ex.st->(X++[(⟨x.bZ,x.aF,x.name,g,i⟩:Sx)]).map Cu=(CY []<|S.take<|k+1).map Cu:=λg i h1 h2=>by rw[q,US,zN,zN,h.st];congr 1;simp only[List.map_cons,List.map_nil,Cu,Ia,h1,h2,YL h.lt]
 have pl:∀g i:N5,∀y∈X++[(⟨x.bZ,x.aF,x.name,g,i⟩:Sx)],∃s∈S,y.bZ=s.bZ:=λg i y hy=>by
  obtain hy|hy:=zJ.1 hy
  .exact h.pl y hy
  rw[zK.1 hy];exact⟨x,v,rfl⟩
 refine⟨ts,n,o,λe he=>⟨(p.1 e he).1,?_⟩,λe he=>⟨(p.2 e he).1,?_⟩,λg i h1 h2=>⟨λhx=>?_,λhx=>?_⟩⟩
 .obtain⟨_,j,t,a,b,_⟩|⟨_,⟨j,a,b⟩,_⟩|⟨_,a,_⟩:=l
  .rw[a]at he;cases he;exact⟨t,b⟩
  .rw[a]at he;cases he;exact⟨1,b⟩
  rw[a]at he;cases he
 .obtain⟨_,j,t,_,_,a,_⟩|⟨_,_,a,_⟩|⟨_,_,a,_⟩:=l
  .rw[a]at he;cases he
  .rw[he]at a;exact⟨4,a⟩
  rw[he]at a;exact⟨4,a⟩
 .refine⟨u g i h1 h2,?_,⟨ts,n,o,?_⟩,h.gd,by simp[h.len],Nat.le_succ_of_le h.dZ,pl g i⟩
  .rw[q,Sq,KQ,K0<|show ¬ (Ia (lsF []<|S.take k) x).aF=1 from hx];exact h.lt
  obtain⟨a,_⟩|⟨_,_,_,a⟩|⟨_,_,_,a⟩:=l
  .exact K4 a hx
  .exact a
  exact a
 obtain⟨_,e,t,a,b,d,f⟩|⟨a,_⟩|⟨a,_⟩:=l
 .rw[a]at h1;cases g with|none=>cases h1|some j=>
   have r:j.st=(Cw ls e).st:=Mk h1;refine⟨j,rfl,u (Z j) i (by rw[a];exact h1) h2,?_,⟨ts++[t],by simp[n],o.cE n.symm<|by rw[Fl r];exact DG o e t b,f⟩,?_,by simp[h.len],by simp;exact h.dZ,pl _ i⟩
   .rw[q,Sq,KQ,K1<|show(Ia (lsF []<|S.take k) x).aF=1 from hx,zN,zN,h.lt];congr 1;have:=YL h.lt<|Z e;simp only[z0,Option.some.injEq]at this;simp[Ia,a,r,this]
   intro c hc;obtain hc|hc:=zJ.1 hc
   .exact h.gd c hc
   rw[zK.1 hc];exact FU r<|Ks h.gd e (p.1 e a).1
 .omega
 omega
theorem Ex.bU{S:Nat->Prop}{w w':jD}(k:IP S w w')(hS:∀b,G b->¬ S b):∀(e:Ex),e.mem G w->e.mem G w'|.int ..,h=>h|.text ..,h=>h|.bool ..,h=>h|.set _ a n c ss,h=>⟨⟨h.1.len,h.1.cap,h.1.aH,h.1.bE,λj d=>by obtain⟨b,m,i,l,hc⟩:=h.1.cells j d;have o:=h.2.2 _ i<|Nat.lt_of_le_of_lt (zH _) d;exact⟨b,m,i,zG l k.size,by rw[<-hc];exact L0<|k.block b l<|hS b o⟩⟩,h.2⟩|.name ..,h=>h|.attr ..,h=>h|.lett ..,h=>h|.un _ _ e,h=>Ex.bU k hS e h|.bin _ _ e f,h=>⟨Ex.bU k hS e h.1,Ex.bU k hS f h.2⟩|.ite _ e f g,h=>⟨Ex.bU k hS e h.1,Ex.bU k hS f h.2.1,Ex.bU k hS g h.2.2⟩
def ExO(G:Nat->Prop)(w:jD)(o:N5):Prop:=∀e,o=Z e->e.mem G w
def ST(G:Nat->Prop)(w:jD)(X:M9):Prop:=∀x∈X,ExO G w x.cond/\ExO G w x.aD
theorem ST.map{G a:Nat->Prop}{X:M9}(h:ST G w X)(f:∀e:Ex,e.mem G w->e.mem a w'):ST a w' X:=λx hx=>⟨λe he=>f e<|(h x hx).1 e he,λe he=>f e<|(h x hx).2 e he⟩
theorem ST.cE{X:M9}(h:ST G w X)(h1:ExO G w x.cond)(h2:ExO G w x.aD):ST G w<|X++[x]:=λy hy=>by
 obtain hy|hy:=zJ.1 hy
 .exact h y hy
 rw[zK.1 hy];exact⟨h1,h2⟩
theorem Fe{B C n m s t:Nat}{d e:jR}{u v:jF}{c ys:N4}(h:jP w B d s u n c)(k:jP w C e t v m ys)(f:d≠e){q:Nat}(hq:jO u=Z q):jO v≠Z q:=λa=>by
 obtain⟨h1,_⟩|⟨g,cap,l,h1,_,hg,_⟩:=h.2
 .rw[h1]at hq;cases hq
 obtain⟨b,_⟩|⟨i,o,p,b,_,j,_⟩:=k.2
 .rw[b]at a;cases a
 rw[h1]at hq;rw[b]at a;obtain rfl:g=q:=P1;obtain rfl:i=g:=by simpa[jO]using a
 have:=hg.symm.trans j;simp at this;exact f this.2
theorem Ip.aV{c:jF}{d:M4}{f:Array jF}(h:Ip w zb c d F f)(a:∀b,b<R (Q w)->b≠zb->(Q w')[b]?=(Q w)[b]?):Ip w' zb c d F f:=by obtain⟨g,i,j,tA,k,l,h0,h1,h2,h3,h4,h5,h6⟩:=h;exact⟨g,i,j,tA,k,l,h0,⟨(a g h1.lt h4).trans h1.out⟩,⟨(a i h2.lt h5).trans h2.out⟩,⟨(a j h3.lt h6).trans h3.out⟩,h4,h5,h6⟩
def OzE(w:jD)(zb rb:Nat):Prop:=∃f2 f3 f6 f7 f8 f9 f10 f11 f12 f13 f14 f15 f16 c2 c3 c13 c14,OzM w zb rb f2 f3 f6 f7 f8 f9 f10 f11 f12 f13 f14 f15 f16 c2 c3 c13 c14
theorem OzE.aV{w w':jD}{zb d:Nat}(h:OzE w zb d)(a:∀b,b<jh (Q w)->b≠zb->(Q w')[b]?=(Q w)[b]?):OzE w' zb d:=by obtain⟨f,g,i,j,k,l,m,n,o,p,q,r,s,c2,c3,u,v,h⟩:=h;have c:∀{b:Nat}{cs:Array jF}{t:jR},Ah w b cs t->b≠zb->Ah w' b cs t:=λR x=>⟨(a _ R.lt x).trans R.out⟩;exact⟨f,g,i,j,k,l,m,n,o,p,q,r,s,c2,c3,u,v,⟨c h.row h.dR,h.dR,h.x2.aV a,c h.r2 h.n2,h.n2,h.x3.aV a,c h.r3 h.n3,h.n3,h.x6.aV a,h.x7.aV a,h.x8.aV a,h.x9.aV a,h.x10.aV a,h.x11.aV a,h.x12.aV a,h.x13.aV a,c h.r13 h.n13,h.n13,h.x14.aV a,c h.r14 h.n14,h.n14,h.x15.aV a,h.x16.aV a⟩⟩
def UT(zb:Nat)(la:M3)(v:jF):Nat->Prop:=λb=>b≠zb/\jO (Value.slice la 0 0)≠Z b/\jO v≠Z b
theorem Jl(a:M3)(n c:Nat):jO (Value.slice a n c)=jO (Value.slice a 0 0):=by cases a<;>rfl
structure YM(w1 wr:jD)(zb rb:Nat)(la:M3)(lc:Nat)(ls:M8)(v:jF)(X:M9):Prop where
 dM:Ah wr zb #[jd (Z<|jB rb 0 V) 17 17,jd la (Y ls) lc] 94
 aQ:jP wr (R<|Q w1) 86 1 (jd la (Y ls) lc) (Y ls)<|ls.map Ex.val
 cC:jP wr (R<|Q w1) 88 5 v (Y X)<|Io X
 aV:∀b,b<R (Q w1)->b≠zb->(Q wr)[b]?=(Q w1)[b]?aP:zb<R (Q w1)size:R (Q w1)<=R (Q wr)lmem:∀c∈ls,c.mem (UT zb la v) wr
 xmem:ST (UT zb la v) wr X
theorem YM.below{d wr w':jD}{g:M3}{i:Nat}{ls:M8}{X:M9}(h:YM d wr zb f g i ls v X)(a:Ak wr w'):YM d w' zb f g i ls v X:=⟨h.dM.aB a NLN,Ai h.aQ a NLN,Ai h.cC a NLN,λb h1 h2=>(a.block b<|zG h1 h.size).trans<|h.aV b h1 h2,h.aP,zB h.size a.size,λc hc=>c.aG a NLN<|h.lmem c hc,h.xmem.map λe he=>e.aG a NLN he⟩
theorem YM.fresh{c:jD}{d:Nat}{f:Nat}{ls:M8}{X:M9}(h:YM c w' zb d a f ls v X){b:Nat}(g:R (Q w')<=b):UT zb a v b:=by
 refine⟨?_,λe=>?_,λe=>?_⟩
 .have:=h.aP;have:=h.size;omega
 .have:=(h.aQ.lt b<|by rw[Jl];exact e).2;omega
 have:=(h.cC.lt b e).2;omega
theorem YM.oz{i:jD}{a:Nat}{d:M3}{ls:M8}{X:M9}(h:YM i w' zb a d k ls v X)(hz:OzE i zb a)(m:Y ls<=65535)(n:∀b,b<R (Q w')->UT zb d v b->G b):OzS G w' zb ls:=by refine⟨a,d,k,hz.aV h.aV,⟨h.dM,m,λj f=>?_⟩⟩;obtain⟨x,c,e1,e2⟩:=Af h.aQ;cases e1;obtain⟨g,rfl,_,hc⟩:=e2<|Nat.lt_of_le_of_lt (zH _) f;have l:=hc j ls[j].val (by simp[f]);exact⟨g,0,rfl,World.block_lt_of_cell? w' _ l,by rw[zT];exact l,Ex.aY n _<|h.lmem _<|zI f⟩
theorem YM.push{f w2:jD}{i:Nat}{g:Nat}{ls:M8}{X:M9}{e:Ex}(h:YM f w2 zb i a g ls v X)(he:e.mem (UT zb a v) w2)(O:jP d (R<|Q f) 86 1 (jd (Z<|jB g7 0 V) (Y ls+1) c7) (Y ls+1)<|ls.map Ex.val++[e.val])(hg:(jK w2 o).grownBy d<|jO<|Value.slice a (Y ls) g)(hat:jO (Value.slice a (Y ls) g)=Z g7\/g7=R (Q w2)+1):YM f (jM d (jB zb 1 V)<|jd (Z<|jB g7 0 V) (Y ls+1) c7) zb i (Z<|jB g7 0 V) c7 (ls++[e]) v X/\Ah d zb #[jd (Z<|jB i 0 V) 17 17,jd a (Y ls) g] 94/\R (Q f)<=g7/\IP (λb=>b=zb\/jO (Value.slice a 0 0)=Z b) w2 (jM d (jB zb 1 V)<|jd (Z<|jB g7 0 V) (Y ls+1) c7)/\∀e:Ex,e.mem (UT zb a v) w2->e.mem (UT zb (Z<|jB g7 0 V) v) (jM d (jB zb 1 V)<|jd (Z<|jB g7 0 V) (Y ls+1) c7):=by
 have A:=Ar w2 o;rw[Jl]at hg hat;have l:∀q,jO (Value.slice a 0 0)=Z q->R (Q f)<=q/\q<R (Q w2):=λq hq=>h.aQ.lt q (by rw[Jl];exact hq);have t:jO (Value.slice a 0 0)≠Z zb:=λe=>by have:=l _ e;have:=h.aP;omega
 have u:R (Q f)<=g7:=by obtain q|q:=hat;exact(l _ q).1;have:=h.size;omega
 have w:g7≠zb:=G7 h.aP;have n:Ah d zb #[jd (Z<|jB i 0 V) 17 17,jd a (Y ls) g] 94:=IF (h.dM.aB A NLN) hg λe=>t e.symm;have x:IP (λb=>b=zb\/jO (Value.slice a 0 0)=Z b) w2 d:=⟨hg.os,hg.tape,hg.output,zB A.size hg.size,λk r hS=>(hg.block k (zG r A.size) λe=>hS<|.inr e.symm).trans<|A.block k r⟩;have K:=x.setCell (p:=(jB zb 1 V)) (λ_=>.inl rfl)<|jd (Z<|jB g7 0 V) (Y ls+1) c7;have j:∀e:Ex,e.mem (UT zb a v) w2->e.mem (UT zb (Z<|jB g7 0 V) v) (jM d (jB zb 1 V)<|jd (Z<|jB g7 0 V) (Y ls+1) c7):=λe he=>by
  have y:e.mem (λb=>UT zb a v b/\b≠g7) w2:=Ex.aY (λb m hs=>⟨hs,λz=>by
   obtain q|q:=hat
   .exact hs.2.1 (by rw[z];exact q)
   omega⟩) e he;exact Ex.aY (λb _ hs=>⟨hs.1.1,λe=>hs.2<|by simpa[jO]using e.symm,hs.1.2.2⟩) e<|Ex.bU K (λb hs hS=>hS.elim hs.1.1 hs.1.2.1) e y
 refine⟨⟨?_,?_,?_,?_,h.aP,?_,?_,?_⟩,n,u,K,j⟩
 .rw[zC];exact n.set 1 _
 .rw[zC,zN];exact Ag O (jB zb 1 V) _ (λq hq=>by simp[jO]at hq;subst hq;exact w)
 .exact Ac h.cC (λq hq=>K.block q (h.cC.lt q hq).2 (λhS=>by
   obtain hS|hS:=hS
   .have:=(h.cC.lt q hq).1;have:=h.aP;omega
   exact Fe h.cC h.aQ Ob hq (by rw[Jl];exact hS)))
 .intro b m s;refine(K.block b (zG m h.size) λhS=>?_).trans (h.aV b m s);obtain hS|hS:=hS
  .exact s hS
  have:=l _ hS;omega
 .exact zB h.size K.size
 .intro c hc;obtain hc|hc:=zJ.1 hc
  .exact j c (h.lmem c hc)
  rw[zK.1 hc];exact j e he
 exact h.xmem.map j
theorem YM.out{f w2:jD}{l:Nat}{m:Nat}{ls:M8}{X:M9}(h:YM f w2 zb l a m ls v X)(h1:ExO (UT zb a v) w2 x.cond)(h2:ExO (UT zb a v) w2 x.aD)(O:jP d (R<|Q f) 88 5 (jd (Z<|jB g7 0 V) (Y X+1) c7) (Y X+1)<|Io X++GG x)(hg:(jK w2 o).grownBy d<|jO v)(hat:jO v=Z g7\/g7=R (Q w2)+1):YM f d zb l a m ls (jd (Z<|jB g7 0 V) (Y X+1) c7) (X++[x])/\R (Q f)<=g7/\IP (λb=>jO v=Z b) w2 d:=by
 have A:=Ar w2 o;have i:=h.cC.lt;have p:R (Q f)<=g7:=by obtain q|q:=hat;exact(i _ q).1;have:=h.size;omega
 have r:jO v≠Z zb:=λe=>by have:=i _ e;have:=h.aP;omega
 have K:IP (λb=>jO v=Z b) w2 d:=⟨hg.os,hg.tape,hg.output,zB A.size hg.size,λk n hS=>(hg.block k (zG n A.size) λe=>hS e.symm).trans<|A.block k n⟩;have g:∀e:Ex,e.mem (UT zb a v) w2->e.mem (UT zb a<|jd (Z<|jB g7 0 V) (Y X+1) c7) d:=λe he=>by
  have s:e.mem (λb=>UT zb a v b/\b≠g7) w2:=Ex.aY (λb j hs=>⟨hs,λt=>by
   obtain q|q:=hat
   .exact hs.2.2 (by rw[t];exact q)
   omega⟩) e he;exact Ex.aY (λb _ hs=>⟨hs.1.1,hs.1.2.1,λe=>hs.2<|by simpa[jO]using e.symm⟩) e<|Ex.bU K (λb hs hS=>hs.1.2.2 hS) e s
 refine⟨⟨h.dM.cX K r,?_,?_,?_,h.aP,zB h.size K.size,λc hc=>g c<|h.lmem c hc,(h.xmem.map g).cE (λe he=>g e<|h1 e he) λe he=>g e<|h2 e he⟩,p,K⟩
 .exact Ac h.aQ (λq hq=>K.block q (h.aQ.lt q hq).2 λhS=>Fe h.aQ h.cC Ob hq hS)
 .rw[zC,show Io (X++[x])=Io X++GG x by rw[Io,List.flatMap_append];simp[Io]];exact O
 intro b j u;refine(K.block b (zG j h.size) λhS=>?_).trans (h.aV b j u);have:=i _ hS;omega
end
section
variable{aS aO aZ aW:jH}
theorem Abg:(jZ.info? 88).map (λi=>(i.zero,i.size,i.bytes))=Z (Z<|jL #[T U 0,T U 0,jA ByteArray.empty,jT,jT],5,64):=Ok
theorem UU{S:Nat->Prop}{a b:jD}{B:Nat}(h:IP S a b)(hS:∀q,S q->B<=q)(hB:B<=a.heap.size):Below B a b:=⟨h.os,h.tape,h.output,h.size,λk c=>h.block k (zG c hB) λs=>G7<|hS k s⟩
theorem Fm(o:N5):oV o=jT\/∃t u,oV o=jJ t u:=Bz o
theorem Nu{f:Ex->Ex}{o p:N5}(h:o.map Ex.st=(p.map f).map Ex.st):oV o=jT↔AO p=jT:=by
 have no:∀e:Ex,e.val≠jT:=λe h=>by obtain⟨t,u,q⟩:=e.form;rw[q]at h;cases h
 cases o with
 |none=>cases p with|none=>exact⟨λ_=>rfl,λ_=>rfl⟩|some e=>cases h
 |some e=>cases p with|none=>cases h|some d=>exact⟨λq=>K4 q<|no e,λq=>K4 q<|no d⟩
theorem L9{b:jD}{B:Nat}{X:M9}{d:Array Oper}{o:Oper}{a:Act}{f:Exit->Act->jD->Prop}{i j:jF}{k:Nat}(l:o.guard=V)(s y:Operand)(m:o.op=.call {callee:=.builtin .append,args:=#[s,y],argTypes:=#[41,41]})(O:jP b B 88 5 v (Y X)<|Io X)(hB:B<=R (Q b))(hc:AO x.cond=i)(hg:AO x.aD=j)(hs:a.eval s=v)(n:R (Q b)=k)(hy:a.eval y=jd (Z<|jB k 0 V) 1 1)(C:Y X<=65535)(h:∀g c w' o',jP w' B 88 5 (jd (Z<|jB g 0 V) (Y X+1) c) (Y X+1) (Io X++GG x)->(jK b o').grownBy w' (jO v)->(jO v=Z g\/g=R (Q b)+1)->wpList jZ d f rest (a.put o.dst<|jd (Z<|jB g 0 V) (Y X+1) c) w'):wpList jZ d f (o::rest) a (jK b<|jC #[T U x.bZ,T U x.aF,jA x.name,i,j] 88):=by subst hc hg n;obtain⟨p,r,t,w,z⟩:=info_parts Abg;refine J6 _ l s y 41 m B 88 p _ 5 64 underlying41 r t w z rfl Ob v (Y X) (Io X) hs (K7 O _) ⟨R<|Q b,0,V⟩ 1 1 (GG x) hy rfl (K9<|Lz b _) ?_ Ob O3 Oa Od (R (Q b)+1) Oz λg c w' O A hat _=>h g c w' _ O A hat;intro u hu;simp only[GG,zS,Z9,or_false]at hu;obtain rfl|rfl|rfl|rfl|rfl:=hu<;>first|rfl|(obtain q|⟨_,_,q⟩:=Bz _<;>rw[q]<;>rfl)
theorem Abh{i d:jD}{j:Nat}{f:M3}{ls:M8}{X:M9}{l:Array Oper}{o:Oper}{a:Act}{m:Exit->Act->jD->Prop}{n p:jF}{q:Nat}(r:o.guard=V)(s y:Operand)(t:o.op=.call {callee:=.builtin .append,args:=#[s,y],argTypes:=#[41,41]})(M:YM i d zb j f k ls v X)(hc:AO x.cond=n)(hg:AO x.aD=p)(hs:a.eval s=v)(u:R (Q d)=q)(hy:a.eval y=jd (Z<|jB q 0 V) 1 1)(h1:ExO (UT zb f v) d x.cond)(h2:ExO (UT zb f v) d x.aD)(w:Y X<=65535)(h:∀g c w',YM i w' zb j f k ls (jd (Z<|jB g 0 V) (Y X+1) c) (X++[x])->IP (λb=>jO v=Z b) d w'->wpList jZ l m rest (a.put o.dst<|jd (Z<|jB g 0 V) (Y X+1) c) w'):wpList jZ l m (o::rest) a (jK d<|jC #[T U x.bZ,T U x.aF,jA x.name,n,p] 88):=L9 r s y t M.cC M.size hc hg hs u hy w λg c w' _ O z hat=>by obtain⟨A,_,B⟩:=M.out h1 h2 O z hat;exact h g c w' A B
theorem Ou(S:M9)(m g c:Nat)(w:jD)(hm:Y S=m)(bQ:m<=65535)(h:ZB w g S)(hg:UF S)(ht:JD [] S)(hx:ST TT w S)(hS:Cx w aS aO aZ aW):Calls jZ 14 #[jd (Z<|jB g 0 V) m c] w λak w'=>∃v X,ak=jN v/\jP w' (R<|Q w) 88 5 v (Y X) (Io X)/\X.map Cu=(CY [] S).map Cu/\ST TT w' X/\(∀x∈X,∃s∈S,x.bZ=s.bZ)/\Ak w w':=by
 obtain⟨bm,bn,bo,bp,bq⟩:=info_parts AhC;have aX:=Ab hm;have br:=Ab h;have bs:=Ab hg;have al:=Ab<|show ST (λb=>b<R (Q w)) w S from hx.map λe he=>Ex.aY (λb p _=>p) e he;have bt:=Ab hS;have bu:=Ab ht;clear hm h hg hx hS ht;go_enter func14,ntmps14;go_wp2_with fail;refine(Ot _).mono ?_;rintro ak A ⟨zb,af,hz,rfl,ao,bR,ap⟩;have bv:=Ab<|show OzE A zb af from hz;have bw:=ao.lt;have bx:=ap.size;have a0:YM A A zb af V 0 [] (jd V 0 0) []:=⟨ao,G8,G8,λ_ _ _=>rfl,bw,NLN,(λc hc=>by cases hc),(λc hc=>by cases hc)⟩;have a1:=Ab a0;clear ao a0 hz;dsimp only;go_wp2_with fail;go_loopw[10,4] (λi o wr=>∃k:Nat,k<=m/\i=T U k/\(∃r N ls X,SiP S k ls X/\YM A wr zb af r N ls o X/\True)/\Ak w wr) (λi _ _=>m-(intOf i).toNat);case atStart=>exact⟨0,Oa,rfl,⟨V,0,[],[],SiP.zero<|Aa bu,Aa a1,trivial⟩,ap⟩
 obtain⟨k,bS,rfl,⟨r,N,ls,X,a2,M,_⟩,C⟩:=hrel;have D:=Ab a2;clear a2 a1 ap;by_cases ag:k<m
 .have bT:(k:Int)<(m:Int):=Oa;have ah:k<Y S:=by rw[Aa aX];exact ag
  have a3:=(Aa br).below C;obtain⟨c0,c1,c2,c3,c4⟩:=a3.at k ah;obtain⟨ts,a4,a5,P,W,n⟩:=(Aa D).next ah<|Aa bs;have aa:=Aa al _<|zI ah;have a6:=Ab ag;have bU:=M.size;generalize S[k]=x at c0 c1 c2 c3 c4 P W n aa;obtain⟨ab,O,ac,E,F⟩:=x;simp only at c0 c1 c2 c3 c4 P W n aa;have t:=Ab n;clear ag ah a3 n;have ad:=Ah.new wr #[T U ab,T U O,jA ac,AO E,AO F] 88;have y:=Ar wr<|jC #[T U ab,T U O,jA ac,AO E,AO F] 88;have aq:∀b,b<R (Q w)->b≠R (Q wr)/\UT zb r u4 b:=λb p=>⟨Oa,Oa,λe=>by have:=(M.aQ.lt b<|by rw[Jl];exact e).1;omega,λe=>G7<|(M.cC.lt b e).1⟩;have H:=Abc (G:=λb=>b≠R (Q wr)/\UT zb r u4 b) (aS:=aS) (aO:=aO) (aZ:=aZ) (aW:=aW) (zb:=zb) (ls:=ls) ((M.oz (G:=λb=>b≠R (Q wr)/\UT zb r u4 b) (Aa bv) (G7<|(Aa D).dZ) λb p hs=>⟨Oa,hs⟩).below y) (λb p=>by rw[K6]at p;exact⟨Oa,M.fresh Oa⟩) (((Aa bt).below C NLN).below y NLN) ts a4 a5 (Aa D).gd ⟨ab,O,ac,E,F⟩ (λe he=>⟨(P e he).1,(P e he).2,e.aG y NLN<|e.aG C NLN<|Ex.aY (λb _ p=>aq b p) e<|aa.1 e he⟩) (λe he=>⟨(W e he).1,(W e he).2,e.aG y NLN<|e.aG C NLN<|Ex.aY (λb _ p=>aq b p) e<|aa.2 e he⟩);dsimp only at H;clear aq aa P W a5 ts a4;have e3:=Bz E;have e4:=Bz F;have ar:=λd=>@Nu (Cw ls) d E;have au:=λd=>@Nu (Cw ls) d F;generalize E.map (Cw ls)=bV at H t ar;generalize F.map (Cw ls)=bW at H t au;have av:=Ab ar;have aw:=Ab au;clear ar au;generalize AO E=bX at ad y H e3 c3 av;generalize AO F=bY at ad y H e4 c4 aw;obtain rfl|⟨b0,b2,rfl⟩:=e3<;>obtain rfl|⟨b3,b4,rfl⟩:=e4;all_goals have a7:=Ab H;clear H;obtain⟨bz,bA,bB,bC,bD,_⟩:=Cp ad;go_wp2_with fail;refine(Aa a7).mono ?_;rintro ak w2 ⟨⟨b5,b6,rfl,⟨d,rfl,ax,a8⟩,⟨I,rfl,ay,a9⟩⟩,az⟩;have aA:=(Aa av) d ax;have aC:=(Aa aw) I ay;have ae:=Ab<|Aa t d I ax ay;have ai:=ad.aB az NLN;have e5:=Fm d;have ba:=Fm I;obtain⟨z,aD,aE⟩:=AmR ai (y.trans<|az.mono y.size) (T U ab) (T U O) (jA ac) (oV d)<|oV I;have a:=M.below aD;have f:=C.trans<|aD.mono C.size;have l:=Ab<|L7 (λe he=>aE e<|a8 e he) λe he=>aE e<|a9 e he;clear a7 av aw ax a8 ay a9 az t M c0 c1 c2 c3 c4 bz bA bB bC bD ad y aE aD;have t:=Ab<|show AO d=oV d from rfl;have bb:=Ab<|show AO I=oV I from rfl;simp only[s5]at z a f l;generalize oV d=b7 at t e5 aA z a f l|-;generalize oV I=b8 at bb ba aC z a f l|-;have b9:=λj=>ai.frozen j;obtain⟨ca,z1,z2,cb,cc,_⟩:=Cp ai;obtain⟨aF,aH,r2,r3,aI,_⟩:=Cp z;clear ai;obtain rfl|⟨n,u5,rfl⟩:=e5<;>obtain rfl|⟨cd,u6,rfl⟩:=ba<;>first|(simp at aA;done)|(simp at aC;done)|skip
  all_goals
   clear aA aC;by_cases hx:O=1;case' pos=>first|obtain⟨J,bE,_⟩:=(Aa ae).2 hx;obtain⟨ce,cf,hf'⟩:=J.form;have h5:=Aa t;rw[bE,show AO (Z J)=_ from hf']at h5;cases h5;done|subst hx;obtain⟨J,rfl,bc⟩:=(Aa ae).2 rfl;have bd:=Ab bc;clear bc ae;dsimp only;go_wp2_with fail;generalize jM (jM (jM (jM (jM w2 _ _) _ _) _ _) _ _) _ _=K at z a f l aF aH r2 r3 aI|-;have aJ:=Ab z;have aK:Ak K (jV K):=BRN.drew;obtain⟨m0,bF⟩:=Ca a.dM;have bf:=a.below aK;obtain⟨bG,d1⟩:=Ca bf.dM;obtain⟨k0,bH,bI,bJ,bK,_⟩:=Cp (z.aB aK NLN);have cg:=(Aa D).dZ;have ch:=a.size;have ci:=a.dM.lt;have bg:jP (jV (jK K (jC #[jJ n u5] 86))) (R (Q A)) 86 1 (jd r (Y ls) N) (Y ls) (ls.map Ex.val):=(a.aQ.alloc _).drew;clear z;go_region_law (refine step_append_lies _ rfl _ _ 91 rfl (R (Q A)) 86 bm jT 1 16 underlying91 bn bo bp bq rfl Ob (jd r (Y ls) N) (Y ls) (ls.map Ex.val) rfl bg ⟨R (Q K),0,V⟩ 1 1 [jJ n u5] rfl rfl (A6 K _ _ _ rfl) H5 Ob O3 Oa Od _ rfl ?_;intro b1 c1 aj bh L hat cj;have aL:Ah aj zb #[jd (Z (jB af 0 V)) 17 17,jd r (Y ls) N] 94:=⟨(L.block zb Od λe=>Ad a.dM a.aQ Ob e.symm).trans (a.dM.alloc<|jC #[jJ n u5] 86).out⟩;have bL:=aL.cell 1;have bM:=aL.frozen 1);all_goals
       have bi:(jK K<|jC #[jJ n u5] 86).grownBy aj<|jO<|Value.slice r (Y ls) N:=⟨L.os,L.tape,L.output,L.size,L.block⟩;have bj:jP aj (R<|Q A) 86 1 (jd (Z<|jB b1 0 V) (Y ls+1) c1) (Y ls+1)<|ls.map Ex.val++[J.val]:=by rw[show J.val=jJ n u5 from Aa t];exact bh
       obtain⟨aM,_,ck,aN,aR⟩:=a.push (e:=J) ((Aa l).1 J rfl) bj bi (hat.imp id λe=>by rw[e];show R (Q<|jK K _)=_;simp);have aT:=(Aa aJ).cX aN (λh=>by
        obtain h|h:=h
        .have:=a.aP;omega
        exact Ad (Aa aJ) a.aQ Ob (by rw[Jl];exact h));have aU:=Ab<|L7 (λe he=>aR e<|(Aa l).1 e he) λe he=>aR e<|(Aa l).2 e he;have aV:=f.trans (UU aN (B:=R<|Q w) (λq hq=>by
        obtain hq|hq:=hq
        .omega
        have:=(a.aQ.lt q<|by rw[Jl];exact hq).1;omega) f.size);clear L bi hat bh bj bg aL aN aR bL bM bf a f l bG d1 k0 bH bI bJ bK m0 bF aF aH r2 r3 aI aJ aK;generalize jM aj (jB zb 1 V) (jd (Z (jB b1 0 V)) (Y ls+1) c1)=cl at aM aT aU aV|-;obtain⟨aF,aH,r2,r3,aI,_⟩:=Cp aT;have a:=aM;have f:=aV;have l:=aU;clear aM aV aU aT
   case' neg=>have e1:(O==1)=false:=zA.2 hx;have bd:=Ab<|(Aa ae).1 hx;clear ae hx;dsimp only
   all_goals
    go_wp2_with (at_builtin;refine Abh (x:=⟨ab,_,ac,_,_⟩) rfl _ _ rfl a (Aa t) (Aa bb) rfl (by first|(simp;done)|rfl) rfl (Aa l).1 (Aa l).2 (G7<|(Aa D).len) ?_);intro g7 cm cn bk bl;have bN:=f.trans<|UU bl (B:=R<|Q w) (λq hq=>G7<|(a.cC.lt q hq).1) f.size;have bO:=Ab bk;clear bl a bk f;go_wp2;go_roundw;case rel=>exact⟨k+1,Aa a6,O0,⟨_,_,_,_,Aa bd,by have:=Aa bO;simpa using this,trivial⟩,bN⟩
    have:=Aa a6;simp[intOf];omega
 have bP:k=m:=Oa;have al:=Ab (show S.take k=S from zh<|by rw[Aa aX];omega);subst bP;clear ag;go_wp2;go_ret;exact⟨u4,X,rfl,World.ownsRow.mono M.cC bx,by rw[(Aa D).st,Aa al],M.xmem.map λe he=>Ex.aY (λ_ _ _=>trivial) e he,(Aa D).pl,C⟩
end
theorem Nv(X:M9)(x:Sx):Io (X++[x])=Io X++GG x:=by rw[Io,List.flatMap_append];simp[Io]
theorem Ma(X:M9)(m g c:Nat)(w:jD)(hm:je X=m)(ax:m<=65535)(h:ZB w g X)(h2:∀x∈X,x.aF=2->∃e,x.cond=Z e):Calls jZ 19 #[jd (Z<|jB g 0 V) m c] w λS w'=>∃v,S=jN v/\jP w' (R<|Q w) 88 5 v (je<|Bp X) (Io<|Bp X)/\Ak w w':=by
 have ae:=Ab hm;have al:=Ab h;have ao:=Ab h2;clear hm h h2;go_enter func19,ntmps19;go_wp2_with fail;go_loopw[8,3] (λi o wr=>∃k:Nat,k<=m/\i=T U k/\(∃Y:M9,jP wr (R<|Q w) 88 5 o (je Y) (Io Y)/\Y++Bp (X.drop k)=Bp X/\je Y<=k)/\Ak w wr) (λi _ _=>m-(intOf i).toNat);case atStart=>exact⟨0,Oa,rfl,⟨[],G8,Oz,NLN⟩,BRN⟩
 obtain⟨k,ay,rfl,⟨Y,af,ag,ah⟩,A⟩:=hrel;have s:=Ab<|L7 ag ah;clear ag ah;by_cases B:k<m
 .have az:(k:Int)<(m:Int):=Oa;have C:k<je X:=by rw[Aa ae];exact B
  have ai:=(Aa al).below A;obtain⟨c0,c1,c2,c3,c4⟩:=ai.at k C;have D:=Aa ao _<|zI C;have E:=Ab B;have t:=Ab (show Y++Bp (X[k]::X.drop (k+1))=Bp X by rw[<-Z7 C];exact(Aa s).1);generalize X[k]=x at c0 c1 c2 c3 c4 D t;obtain⟨n,p,u,d,f⟩:=x;simp only at c0 c1 c2 c3 c4 D;clear B C ai;have W:=Ab (λ(h:p=2)b aa=>show Calls jZ 53 #[AO d,.bool b] aa (Bb (La b d) aa)by obtain⟨e,rfl⟩:=D h;exact DH e b aa);have e3:=Bz d;have e4:=Bz f;have j:=Ah.new wr #[T U n,T U p,jA u,AO d,AO f] 88;have F:=Ar wr<|jC #[T U n,T U p,jA u,AO d,AO f] 88;generalize h3:AO d=aA at e3 c3 W j F;generalize h4:AO f=aC at e4 c4 j F;have ap:=Ab h3;have aj:=Ab h4;clear D h3 h4;obtain rfl|⟨aD,aE,rfl⟩:=e3<;>obtain rfl|⟨aG,aH,rfl⟩:=e4;all_goals
   obtain⟨G,H,I,J,K,_⟩:=Cp j;have l:=Ai af F NLN;have a:=A.trans<|F.mono A.size;by_cases hx:p=2;case' pos=>
    subst hx;have ak:=Ab<|Aa W rfl;clear W;go_wp2_with fail;refine(Aa ak false _).mono ?_;rintro S w2 ⟨rfl,L⟩;replace j:=j.aB L NLN;replace l:=Ai l L NLN;replace a:=a.trans<|L.mono a.size;clear L G H I J K;obtain⟨G,H,I,J,K,_⟩:=Cp j;have aq:=(Aa s).2;dsimp only;cases M:La false d;case true=>
     have r:=Ab (show Y++Bp (X.drop<|k+1)=Bp X by have:=Aa t;rw[Bp,K1 ⟨rfl,M⟩]at this;exact this);go_wp2;go_roundw;case rel=>exact⟨k+1,Aa E,O0,⟨Y,l,Aa r,Oa⟩,a⟩
     have:=Aa E;simp[intOf];omega
    go_wp2_with fail;refine(Aa ak true _).mono ?_;rintro S aI ⟨rfl,N⟩;replace j:=j.aB N NLN;replace l:=Ai l N NLN;replace a:=a.trans<|N.mono a.size;clear N G H I J K;obtain⟨G,H,I,J,K,_⟩:=Cp j;dsimp only;have O:∀{q:Prop},¬ (q/\La false d=true):=λh=>by rw[M]at h;cases h.2
    cases P:La true d;case true=>have r:=Ab (show Y++[(⟨n,3,⟨#[]⟩,V,f⟩:Sx)]=Bp X by have:=Aa t;rw[Bp,K0 O,K1 ⟨rfl,P⟩]at this;exact this);clear O M P;go_wp2_with (at_builtin;refine L9 (x:=⟨n,3,⟨#[]⟩,V,f⟩) rfl _ _ rfl l a.size rfl (Aa aj) rfl rfl rfl Oa ?_);intro g7 ar au ab y z _;have ac:=(a.alloc a.size ab).grown z (by have:=a.size;simp;omega) λq hq=>(l.lt q hq).1;have ad:=Ab y;clear z y;go_wp2;go_ret;exact⟨_,rfl,by rw[<-Aa r,Nv,zC];exact Aa ad,ac⟩
    have r:=Ab (show Y++[(⟨n,2,u,d,f⟩:Sx)]++Bp (X.drop<|k+1)=Bp X by have:=Aa t;rw[Bp,K0 O,K0 λh=>by rw[P]at h;cases h.2]at this;rw[zd];exact this);clear O M P aq
   case' neg=>have e1:(p==2)=false:=zA.2 hx;have r:=Ab (show Y++[(⟨n,p,u,d,f⟩:Sx)]++Bp (X.drop<|k+1)=Bp X by have:=Aa t;rw[Bp,K0 λh=>hx h.1,K0 λh=>hx h.1]at this;rw[zd];exact this);clear hx
   all_goals
    go_wp2_with (at_builtin;refine L9 (x:=⟨n,_,u,d,f⟩) rfl _ _ rfl l a.size (Aa ap) (Aa aj) rfl (by first|rfl|simp) rfl (G7<|(Aa s).2) ?_);intro g7 ar au ab y z _;have ac:=(a.alloc a.size ab).grown z (by have:=a.size;simp at this|-;omega) λq hq=>(l.lt q hq).1;have ad:=Ab y;clear z y;go_wp2;go_roundw;case rel=>exact⟨k+1,Aa E,O0,⟨Y++[_],by rw[Nv,zC];exact Aa ad,Aa r,by have:=(Aa s).2;simp;omega⟩,ac⟩
    have:=Aa E;simp[intOf];omega
 have av:k=m:=Oa;have aw:=Ab (show Y=Bp X by have:=(Aa s).1;rw[List.drop_of_length_le<|by rw[Aa ae];omega]at this;simpa[Bp]using this);subst av;clear B;go_wp2;go_ret;exact⟨u3,rfl,by rw[<-Aa aw];exact af,A⟩
section
variable{G:Nat->Prop}
def Jm(w:jD)(mb:Nat)(zs:M4):Prop:=∃ (es:Array MapEntry) (cl:Nat),(Q w)[mb]?=Z (.map es cl)/\es.size=Y zs/\∀j,(h:j<Y zs)->∃e,es[j]?=Z e/\e.key=T U zs[j]/\e.val=T U j
theorem Jm.aV{a:Nat}(h:Jm w a zs)(b:(Q w')[a]?=(Q w)[a]?):Jm w' a zs:=by obtain⟨c,cl,h1,h2⟩:=h;exact⟨c,cl,b.trans h1,h2⟩
theorem Jm.lt{a:Nat}(h:Jm w a zs):a<R (Q w):=by obtain⟨b,cl,h1,_⟩:=h;exact(yG.1 h1).1
theorem Jm.below{a:Nat}(h:Jm w a zs)(b:Ak w w'):Jm w' a zs:=h.aV<|b.block a h.lt
theorem UV{a:Array MapEntry}(hz:a.size=Y zs)(h:∀j,(h:j<Y zs)->∃e,a[j]?=Z e/\e.key=T U zs[j]/\e.val=T U j):∀x∈a.toList,∃(j:Nat)(b:j<Y zs),x.key=T U zs[j]/\x.val=T U j:=λx hx=>by
 obtain⟨j,b,rfl⟩:=zk hx;have c:j<Y zs:=by simpa[hz]using b
 obtain⟨e,e1,e2,e3⟩:=h j c;have:a.toList[j]=e:=by have:=e1;rw[<-Array.getElem?_toList,zE b]at this;exact Mk this
 rw[this];exact⟨j,c,e2,e3⟩
theorem Aes(w:jD)(c:Nat)(zs:M4)(n:Int)(h:Jm w c zs)(i:zs.Nodup)(hm:n∈zs):(Instr.lookup 177 (.map<|Z c) (T U n) false).run jZ w=.ok (T U<|Wz zs n) w:=by
 obtain⟨f,cl,h1,h2,h3⟩:=h;have he:=UV h2 h3;have l:∀x∈f.toList,MapKept.IsKey (.int U) x.key:=λx hx=>by obtain⟨j,g,e,_⟩:=he x hx;rw[e];rfl
 obtain⟨a,b⟩|⟨j,e,a,b,m⟩:=MapKept.findNow_spec (d:=.int U) (k:=T U n) rfl f.toList 0 l
 .obtain⟨j,g,rfl⟩:=zk hm;obtain⟨e,e1,e2,_⟩:=h3 j g;exact K4 e2 (b e<|by rw[<-Array.getElem?_toList]at e1;exact zX e1)
 obtain⟨k,o,e2,e3⟩:=he e<|zX b;rw[m]at e2;have en:n=zs[k]:=by cases e2;rfl
 have p:Wz zs n=(k:Nat):=by
  have:zs.idxOf n=k:=by rw[en];exact i.idxOf_getElem k o
  rw[Wz,this]
 rw[e3]at a;rw[p];simp[Instr.lookup,run_underlying underlying177,MapKept.run_getObj_map h1,MapKept.run_checkKey underlying2 (k:=T U n) rfl,MapKept.run_findKey underlying2 a]
theorem AhD(w:jD)(a:Nat)(zs:M4)(n:Int)(h:Jm w a zs)(hf:n ∉ zs):∃w',(Instr.mapUpdate 177 (.map<|Z a) (T U n)<|T U (Y zs:Nat)).run jZ w=.ok () w'/\Jm w' a (zs++[n])/\(∀k,k≠a->(Q w')[k]?=(Q w)[k]?)/\R (Q w')=R (Q w)/\∀B,B<=a->Below B w w':=by
 obtain⟨b,cl,h1,h2,h3⟩:=h;have he:=UV h2 h3;have c:∀x∈b.toList,MapKept.IsKey (.int U) x.key:=λx hx=>by obtain⟨j,f,e,_⟩:=he x hx;rw[e];rfl
 obtain⟨g,i⟩|⟨j,e,g,i,m⟩:=MapKept.findNow_spec (d:=.int U) (k:=T U n) rfl b.toList 0 c
 .obtain⟨g1,g2⟩:=MapKept.heap_set (o':=.map (b.push ⟨T U n,T U (Y zs:Nat),cl⟩) (cl+1)) h1;refine⟨{w with heap:=(Q w).setIfInBounds a (.map (b.push ⟨T U n,T U (Y zs:Nat),cl⟩)<|cl+1)},?_,⟨_,_,g1,by simp[h2],λj f=>?_⟩,g2,Oz,λB hB=>⟨rfl,rfl,rfl,Oz,λk c=>g2 k Oa⟩⟩
  .simp[Instr.mapUpdate,run_underlying underlying177,MapKept.run_getObj_map h1,MapKept.run_checkKey underlying2 (k:=T U n) rfl,MapKept.run_findKey underlying2 g,MapKept.run_setObj_map _ h1]
  by_cases l:j<Y zs
  .obtain⟨e,e1,e2,e3⟩:=h3 j l;exact⟨e,by rw[Array.getElem?_push_lt Oa,<-e1,Array.getElem?_eq_getElem Oa],by rw[zg l];exact e2,e3⟩
  have o:j=Y zs:=by simp at f;omega
  subst o;refine⟨⟨T U n,T U (Y zs:Nat),cl⟩,by rw[show Y zs=b.size from h2.symm];exact Array.getElem?_push_size,?_,rfl⟩;rw[Z2 NLN];simp
 exfalso;obtain⟨k,p,e2,_⟩:=he e<|zX i;rw[m]at e2;cases e2;exact hf<|zI p
theorem Dp(args:Array jF)(w:jD):(callFunc 103 args).run jZ w=.ok (.enter 103 args) w:=BL func103 Ok Ok args w
theorem FV{S:jR}(a:Nat)(hS:S≠175)(v:jF)(w:jD):Calls jZ 103 #[jJ S v,jQ<|Z<|jB a 0 V] w<|CQ (jJ S v) w:=by have c:=AI (S:=S) (T:=175) underlying175 zeroValue175 hS 86;have b:=Ar w<|jC #[ja U 0,ja U 0] 175;clear hS;go_enter func103,ntmps103;go_wp2;go_ret;exact⟨rfl,b⟩
theorem AlR(i n:Int)(b a:Nat)(zs:M4)(w:jD)(d:Ah w b #[.map<|Z a] 177)(M:Jm w a zs)(f:zs.Nodup)(hm:n∈zs):Calls jZ 103 #[jJ 175<|jL #[ja U i,ja U n],jQ<|Z<|jB b 0 V] w (CQ (jJ 175<|jL #[ja U i,ja U<|Wz zs n]) w):=by have h:=CK (T:=175) underlying175 86;have c:=Ar w<|jC #[ja U i,ja U n] 175;have j:jE (jK w<|jC #[ja U i,ja U n] 175) (jB b 0 V)=Z (.map<|Z a):=(d.aB c NLN).cell 0;obtain⟨k,l⟩:=Ca<|Ah.new w #[ja U i,ja U n] 175;have g:=Aes _ a zs n (M.below c) f hm;clear d M f hm;generalize Wz zs n=q at g|-;go_enter func103,ntmps103;go_wp2;go_ret;exact⟨rfl,c⟩
theorem Mb{g:jD}{h z:Nat}{zs:M4}(r:Ah g h #[.map<|Z z] 177)(M:Jm g z zs)(s:zs.Nodup):∀(e:Ex),(∀m,usE m e=true->m∈zs)->e.mem G g->RbX G 103 #[] #[jQ<|Z<|jB h 0 V] g e.val (BV zs e)|.un i op k,hu,m=>by have D:=Mb r M s k (λq hq=>hu q<|by simp[usE,hq]) m;obtain⟨t,u,p⟩:=k.form;rw[p]at D;simp only[Ex.val,p];refine Ahn _ _ _ (Ab Dp) g i op t u _ (Ab D) _<|Ab λe1 d s1 f v=>?_;exact(FV h Ob _ d).mono λj w' b=>⟨.un i op e1,by simp only[BV,Ex.st,s1],b.1,Ex.aG b.2 NLN (.un i op e1) v,b.2⟩|.bin i op k l,hu,m=>by have w:=Mb r M s k (λq hq=>hu q<|by simp[usE,hq]) m.1;have x:=Mb r M s l (λq hq=>hu q<|by simp[usE,hq]) m.2;obtain⟨t,u,p⟩:=k.form;obtain⟨A,B,y⟩:=l.form;rw[p]at w;rw[y]at x;simp only[Ex.val,p,y];refine AcW _ _ _ (Ab Dp) g i op t u _ (Ab w) A B _ (Ab x) _<|Ab λe1 e2 d s1 s2 f v C=>?_;exact(FV h Ob _ d).mono λj w' b=>⟨.bin i op e1 e2,by simp only[BV,Ex.st,s1,s2],b.1,Ex.aG b.2 NLN (.bin i op e1 e2) ⟨v,C⟩,b.2⟩|.ite i k l o,hu,m=>by have w:=Mb r M s k (λq hq=>hu q<|by simp[usE,hq]) m.1;have x:=Mb r M s l (λq hq=>hu q<|by simp[usE,hq]) m.2.1;have E:=Mb r M s o (λq hq=>hu q<|by simp[usE,hq]) m.2.2;obtain⟨t,u,p⟩:=k.form;obtain⟨A,B,y⟩:=l.form;obtain⟨H,I,F⟩:=o.form;rw[p]at w;rw[y]at x;rw[F]at E;simp only[Ex.val,p,y,F];refine AcX _ _ _ (Ab Dp) g i t u _ (Ab w) A B _ (Ab x) H I _ (Ab E) _<|Ab λe1 e2 e3 d s1 s2 J f v C K=>?_;exact(FV h Ob _ d).mono λj w' b=>⟨.ite i e1 e2 e3,by simp only[BV,Ex.st,s1,s2,J],b.1,Ex.aG b.2 NLN (.ite i e1 e2 e3) ⟨v,C,K⟩,b.2⟩|.lett i n,hu,m=>CR _ _ _ (Ab Dp) g _ _ _ Ob Ob Ob<|Ab λd f=>(AlR i n h z zs d (r.aB f NLN) (M.below f) s<|hu n<|by simp[usE]).mono λj w' b=>⟨.lett i<|Wz zs n,rfl,b.1,trivial,b.2⟩|.int i n,hu,m=>CR _ _ _ (Ab Dp) g _ _ _ Ob Ob Ob<|Ab λd f=>(FV h Ob _ d).mono λj w' b=>⟨.int i n,rfl,b.1,Ex.aG b.2 NLN (.int i n)<|Ex.aG f NLN (.int i n) m,b.2⟩|.text i n,hu,m=>CR _ _ _ (Ab Dp) g _ _ _ Ob Ob Ob<|Ab λd f=>(FV h Ob _ d).mono λj w' b=>⟨.text i n,rfl,b.1,Ex.aG b.2 NLN (.text i n)<|Ex.aG f NLN (.text i n) m,b.2⟩|.bool i n,hu,m=>CR _ _ _ (Ab Dp) g _ _ _ Ob Ob Ob<|Ab λd f=>(FV h Ob _ d).mono λj w' b=>⟨.bool i n,rfl,b.1,Ex.aG b.2 NLN (.bool i n)<|Ex.aG f NLN (.bool i n) m,b.2⟩|.set i a n c ss,hu,m=>CR _ _ _ (Ab Dp) g _ _ _ Ob Ob Ob<|Ab λd f=>(FV h Ob _ d).mono λj w' b=>⟨.set i a n c ss,rfl,b.1,Ex.aG b.2 NLN (.set i a n c ss)<|Ex.aG f NLN (.set i a n c ss) m,b.2⟩|.attr i n,hu,m=>CR _ _ _ (Ab Dp) g _ _ _ Ob Ob Ob<|Ab λd f=>(FV h Ob _ d).mono λj w' b=>⟨.attr i n,rfl,b.1,Ex.aG b.2 NLN (.attr i n)<|Ex.aG f NLN (.attr i n) m,b.2⟩|.name i n,hu,m=>CR _ _ _ (Ab Dp) g _ _ _ Ob Ob Ob<|Ab λd f=>(FV h Ob _ d).mono λj w' b=>⟨.name i n,rfl,b.1,Ex.aG b.2 NLN (.name i n)<|Ex.aG f NLN (.name i n) m,b.2⟩
theorem AhE{d:Nat}(i:Ah w d #[.map<|Z f] 177)(M:Jm w f zs)(j:zs.Nodup)(o:N5)(hu:∀m,usO m o=true->m∈zs)(k:ExO G w o)(a:jD)(c:Ak w a)(hz:R (Q w)+2<=R (Q a)):RbO (Sp G<|R<|Q w) 103 #[] #[jQ<|Z<|jB d 0 V] a (AO o) (o.map<|BV zs):=by cases o with|none=>exact YI _ _ _ a|some e=>have l:∀b,b<R (Q w)->G b->Sp G (R<|Q w) b:=λb h g=>⟨Oa,Oa,g⟩;exact YJ<|Mb (i.aB c NLN) (M.below c) j e hu<|e.aG c NLN<|Ex.aY l e<|k e rfl
theorem Abi{c d:Nat}(f:Ah w c #[.map<|Z d] 177)(M:Jm w d zs)(g:zs.Nodup)(x:Sx)(hu:∀m,Ii m x=true->m∈zs)(h1:ExO G w x.cond)(h2:ExO G w x.aD):Calls jZ 42 #[jL #[T U x.bZ,T U x.aF,jA x.name,AO x.cond,AO x.aD],.func (.func 103) #[] #[jQ<|Z<|jB c 0 V]] w λj w'=>(∃h i,j=jN (jL #[T U x.bZ,T U x.aF,jA x.name,h,i])/\So G (x.cond.map<|BV zs) h w'/\So G (x.aD.map<|BV zs) i w')/\Ak w w':=UR _ _ _ x.bZ x.aF x.name _ _ _ _ w (Ab λa b hz=>AhE f M g x.cond (λm hm=>hu m<|by simp[Ii,hm]) h1 a b hz) (Ab λa b hz=>AhE f M g x.aD (λm hm=>hu m<|by simp[Ii,hm]) h2 a b hz)
end
end Go.Proofs.YtlcfoihgfcmfeaaGreatDoor
