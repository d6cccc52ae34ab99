import Derived.Test.YtlcfoihgfcmfeaaGreatDoorMXAZ
open Option renaming none->V,some->Z
open List renaming length->Y
open Array renaming size->R,size->jh
open Go renaming World->jD,Addr->jH
open Bool renaming true->jG,false->jI
namespace Go.Proofs.YtlcfoihgfcmfeaaGreatDoor
open Proofs.Tryz
open Value renaming int->T,slice->X,slice->jd,string->jA,agg->jL,ownBlock->jO
open IntKind renaming i64->U
open World renaming heap->Q,cell?->jE,alloc->jK,ownsRow->jP
open Addr renaming mk->jB
open Obj renaming cells->jC
open Proofs.Tryz renaming prog->jZ
open Go.RowKit
set_option linter.unusedVariables false
variable{x y:Ex}{i op c:Int}{ss:M6}{ls:M8}{ts:M4}{N:M7}{vs:N6}{a b:Nat}{row:Wa}{v:Vv}{w w':jD}
def gvV(v:Vv):Prop:=gdV v/\Tv v
structure RqG(R:Rq):Prop where
 s1:Ax R.s1=jG
 s2:Ax R.s2=jG
 cl:BM R.cl=jG
 us:BM R.us=jG
 lv:Cf R.lv
 nw:Cf R.nw
theorem Yx(h:Ax ss=jG):Y ss<=64:=by simp[Ax]at h;exact h.1
theorem AjF{R:Rq}(h:RqG R)(n:Int):gvV<|Qb R n:=by
 have k:∀{ss},Ax ss=jG->gvV (.set ss):=λq=>⟨q,by have:=Yx q;show _<=_;omega⟩;unfold Qb;repeat' split
 all_goals first|exact⟨h.us,trivial⟩|exact⟨h.cl,trivial⟩|exact⟨trivial,h.nw⟩|exact⟨trivial,h.lv⟩|exact k h.s1|exact k h.s2
theorem Js{R:Rq}(a:RqG R){ls:N6}(b:∀v∈ls,gvV v):∀(e:Ex),FH e->Ln e->∀v,At R ls e=.ok v->gvV v
 |.int ..,_,o,v,h=>by cases h;exact⟨trivial,o⟩|.text ..,g,_,v,h=>by cases h;exact⟨g,trivial⟩|.bool ..,_,_,v,h=>by cases h;exact⟨trivial,trivial⟩|.set ..,g,o,v,h=>by cases h;exact⟨g,o⟩|.name ..,g,_,_,_=>K4 g id|.attr _ n,_,_,v,h=>by cases h;exact AjF a n|.lett _ n,_,_,v,h=>by rw[At]at h;cases e:ls[n.toNat]?with|none=>rw[e]at h;cases h|some u=>rw[e]at h;cases h;exact b _<|zX e
 |.un _ op k,g,o,v,h=>by rw[At]at h;cases e:At R ls k with|err c=>rw[e]at h;cases h|ok u=>rw[e]at h;have:=Js a b k g.2 o u e;exact⟨AcH this.1 h,AcD this.2 h⟩
 |.bin _ op l r,g,o,v,h=>by rw[At]at h;cases e:At R ls l with|err c=>rw[e]at h;cases h|ok x=>
   have hx:=Js a b l g.2.1 o.1 x e;rw[e]at h;dsimp only at h;split at h
   .cases h;exact hx
   cases e2:At R ls r with|err c=>rw[e2]at h;cases h|ok y=>
    have hy:=Js a b r g.2.2 o.2 y e2;rw[e2]at h;dsimp only at h;split at h
    .cases h;exact hy
    exact⟨RJ hx.1 hy.1 h,RI hx.2 hy.2 h⟩
 |.ite _ c t e,g,o,v,h=>by
  rw[At]at h;split at h
  .split at h
   .exact Js a b t g.2.1 o.2.1 v h
   exact Js a b e g.2.2 o.2.2 v h
  .cases h
  cases h
theorem EK{R:Rq}{ls:N6}{ts:M4}(f:ls.map Vv.ty=ts):∀(e:Ex)(t:Int),An ts e=Z t->AD e=jG->∃v,At R ls e=.ok v
 |.int ..,_,_,_=>⟨_,rfl⟩|.text ..,_,_,_=>⟨_,rfl⟩|.bool ..,_,_,_=>⟨_,rfl⟩|.set ..,_,_,_=>⟨_,rfl⟩|.name ..,_,h,_=>O6|.attr ..,_,_,_=>⟨_,rfl⟩|.lett _ n,t,h,_=>by
  rw[An]at h;split at h
  .rw[<-f,zi]at h;cases e:ls[n.toNat]?with|none=>rw[e]at h;cases h|some u=>exact⟨u,by rw[At,e]⟩
  cases h|.un _ op k,t,h,s=>by rw[An]at h;simp only[AD,zF,Bool.not_eq_true',decide_eq_false_iff_not]at s;cases i:An ts k with|none=>rw[i]at h;cases h|some a=>
   rw[i]at h;obtain⟨u,hu⟩:=EK f k a i s.2;have ht:=AZ f k a i u hu;rw[At,hu];obtain⟨e,_⟩|⟨rfl,rfl,_⟩|⟨rfl,rfl,_⟩:=FY h
   .exact K4 e s.1
   .obtain⟨b,rfl⟩:=Vv.bC ht;exact⟨_,rfl⟩
   obtain⟨b,rfl⟩:=Vv.aR ht;exact⟨_,rfl⟩
 |.bin _ op l r,t,h,s=>by rw[An]at h;simp only[AD,zF,Bool.not_eq_true',decide_eq_false_iff_not]at s;cases hx:An ts l with|none=>rw[hx]at h;cases h|some a=>cases hy:An ts r with|none=>rw[hx,hy]at h;cases h|some b=>
    rw[hx,hy]at h;obtain⟨u,hu⟩:=EK f l a hx s.2.1;obtain⟨v,j⟩:=EK f r b hy s.2.2;have h1:=AZ f l a hx u hu;have h2:=AZ f r b hy v j;rw[At,hu,j];dsimp only;split
    .exact⟨_,rfl⟩
    obtain⟨g,_⟩|⟨g,rfl,rfl,_⟩|⟨g,_⟩|⟨g,rfl,rfl,_⟩|⟨rfl,rfl,rfl,_⟩|⟨rfl,rfl,rfl,_⟩|⟨g,_⟩:=BP h
    .omega
    .obtain⟨x,rfl⟩:=Vv.aR h1;obtain⟨y,rfl⟩:=Vv.aR h2;rcases(Oa:op=17\/op=18)with rfl|rfl<;>exact⟨_,rfl⟩
    .obtain rfl|rfl:=g<;>exact⟨_,rfl⟩
    .obtain⟨x,rfl⟩:=Vv.bI h1;obtain⟨y,rfl⟩:=Vv.bI h2;obtain rfl|rfl:=g<;>exact⟨_,rfl⟩
    .obtain⟨x,rfl⟩:=Vv.cA h1;obtain⟨y,rfl⟩:=Vv.aR h2;exact⟨_,rfl⟩
    .obtain⟨x,rfl⟩:=Vv.aR h1;obtain⟨y,rfl⟩:=Vv.aR h2;exact⟨_,rfl⟩
    rw[K1 g];exact⟨_,rfl⟩
 |.ite _ c t e,ty,h,s=>by rw[An]at h;simp only[AD,zF]at s;cases hx:An ts c with|none=>rw[hx]at h;cases h|some a=>cases hy:An ts t with|none=>rw[hx,hy]at h;cases h|some b=>cases hz:An ts e with|none=>rw[hx,hy,hz]at h;cases h|some d=>
     rw[hx,hy,hz]at h;obtain⟨u,hu⟩:=EK f c a hx s.1;obtain⟨h1,h0⟩:=DO h;simp only[Ba]at h1;have m:a=1:=by split at h1<;>omega
     subst m;obtain⟨q,rfl⟩:=Vv.bC<|AZ f c 1 hx u hu;rw[At,hu];cases q
     .exact EK f e d hz s.2.2
     exact EK f t b hy s.2.1
theorem Nj:Ax []=jG:=Ob
theorem Kv{M:M6}{tt:M6}(h1:Ax ss=jG)(h2:Ax tt=jG)(h3:Ax M=jG)(hm:∀x,x∈M↔x∈ss++tt):Fz ss tt=(M,0):=KG ⟨λh=>by simp[h1,h2]at h,λ_=>⟨M,⟨(CF h3).2,hm⟩,λh=>G7<|Yx h3,λ_=>⟨rfl,rfl⟩⟩⟩
theorem AcR(s:M1):KY [] s=jI:=by rw[yD,Ne,Gj];simp
theorem Yz  :Bq [] ss=[]/\Bq ss []=[]:=by unfold Bq CX;simp[AcR]
theorem Aee(h:Ax ss=jG):Bq ss ss=ss:=by unfold Bq CX;rw[h];simp[Gj]
theorem UN(h:Ax ss=jG):AP ss []=ss/\AP [] ss=[]:=by unfold AP CX;simp[AcR,h,Nj]
theorem AaY(ss:M6):AP ss ss=[]:=by unfold AP CX;simp[Gj]
theorem Pn(h:Ax ss=jG):Cy ss ss=jG/\Cy [] ss=jG:=by unfold Cy CX;simp[Gj,h,Nj]
theorem Jg{b:Bool}{e:Ex}(h:isB b e=jG):∃i,e=.bool i b:=by cases e<;>simp[isB]at h;exact⟨_,by rw[h]⟩
theorem Ic{n:Int}{e:Ex}(h:SQ n e=jG):∃i,e=.int i n:=by cases e<;>simp[SQ]at h;exact⟨_,by rw[h]⟩
theorem Id{e:Ex}(h:Km e=jG):∃i a n c,e=.set i a n c []:=by cases e<;>simp[Km]at h;exact⟨_,_,_,_,by rw[h]⟩
theorem AjG{R:Rq}{ls:N6}(c:ls.map Vv.ty=ts){a:Int}(h:sameL x y=jG)(hx:An ts x=Z a):∃v,At R ls x=.ok v/\At R ls y=.ok v:=by
 cases x<;>cases y<;>simp[sameL]at h
 .subst h;exact⟨_,rfl,rfl⟩
 subst h;obtain⟨v,b⟩:=EK (R:=R) c _ a hx rfl;exact⟨v,b,b⟩
theorem Jh{R:Rq}{ls:N6}(h:At R ls x=.err c):At R ls (.bin i op x y)=.err c:=by rw[At,h]
theorem CH{R:Rq}{ls:N6}(h:At R ls x=.ok v)(a:op≠25/\op≠26):At R ls (.bin i op x y)=(match At R ls y with|.ok u=>BI op v u|.err c=>.err c):=by
 rw[At,h];have:GJ op v=jI:=by cases v<;>simp[GJ,a.1,a.2]
 simp only[this,Bool.false_eq_true,if_false];simp only[K0 (Oa:¬ (op=25\/op=26))];cases At R ls y<;>rfl
theorem AjH{R:Rq}{ls:N6}(s:ls.map Vv.ty=ts){a b t:Int}{z:Ex}(hx:An ts x=Z a)(hy:An ts y=Z b)(ht:nz (Ba op [a,b])=Z t)(D:∀v,At R ls x=.ok v->gvV v)(w:∀v,At R ls y=.ok v->gvV v)(h:DE op x y=Z z):At R ls z=At R ls (.bin i op x y):=by
 have o:∀v,At R ls x=.ok v->v.ty=a:=AZ s x a hx;have ty:∀v,At R ls y=.ok v->v.ty=b:=AZ s y b hy;have A:=EK (R:=R) s x a hx;have B:=EK (R:=R) s y b hy;have sm:=λq:sameL x y=jG=>AjG (R:=R) s q hx;obtain⟨k,rfl,rfl,rfl⟩|⟨k,rfl,rfl,rfl⟩|⟨k,rfl,rfl⟩|⟨k,rfl,rfl,rfl⟩|⟨rfl,rfl,rfl,rfl⟩|⟨rfl,rfl,rfl,rfl⟩|⟨k,rfl,rfl,rfl⟩:=BP ht
 .have l:∀e:Ex,(∀v,At R ls e=.ok v->gvV v)->(∀v,At R ls e=.ok v->v.ty=2)->(∃c,At R ls e=.err c)\/∃n,At R ls e=.ok (.int n)/\Cf n:=λe g t=>by cases q:At R ls e with|err c=>exact .inl ⟨c,rfl⟩|ok v=>obtain⟨n,rfl⟩:=Vv.bI<|t v q;exact .inr ⟨n,rfl,(g _ q).2⟩
  have r:∀{n:Int},Cf n->GO n=(n,0):=λh=>DM h.lo h.hi;have p:=l x D o;have C:=l y w ty;rcases(Oa:op=11\/op=12\/op=13\/op=14\/op=15)with rfl|rfl|rfl|rfl|rfl
  .have h:Nb x y=Z z:=h;unfold Nb at h;split at h
   .cases h;obtain⟨j,rfl⟩:=Ic P0;rw[CH (v:=.int 0) rfl Ob];obtain⟨c,e⟩|⟨n,e,q⟩:=C
    .rw[e]
    rw[e];show _=BJ (GO<|0+n);rw[Int.zero_add,r q];rfl
   split at h<;>cases h;obtain⟨j,rfl⟩:=Ic P0;obtain⟨c,e⟩|⟨n,e,q⟩:=p
   .rw[e,Jh e]
   rw[e,CH e Ob];show _=BJ (GO<|n+0);rw[Int.add_zero,r q];rfl
  .have h:DD 0 x y=Z z:=h;unfold DD at h;split at h<;>cases h;obtain⟨j,rfl⟩:=Ic P0;obtain⟨c,e⟩|⟨n,e,q⟩:=p
   .rw[e,Jh e]
   rw[e,CH e Ob];show _=BJ (GO<|n-0);rw[Int.sub_zero,r q];rfl
  .have h:Hz x y=Z z:=h;unfold Hz at h;split at h
   .cases h;obtain⟨j,rfl⟩:=Ic P0;rw[CH (v:=.int 1) rfl Ob];obtain⟨c,e⟩|⟨n,e,q⟩:=C
    .rw[e]
    rw[e];show _=BJ (GO<|1*n);rw[Int.one_mul,r q];rfl
   split at h
   .cases h;obtain⟨j,rfl⟩:=Ic P0;obtain⟨c,e⟩|⟨n,e,q⟩:=p
    .rw[e,Jh e]
    rw[e,CH e Ob];show _=BJ (GO<|n*1);rw[Int.mul_one,r q];rfl
   split at h
   .cases h;rename_i q;rw[zF]at q;obtain⟨j,rfl⟩:=Ic q.1;obtain⟨v,f⟩:=B q.2;obtain⟨n,rfl⟩:=Vv.bI<|ty v f;rw[CH (v:=.int 0) rfl Ob,f];show _=BJ (GO<|0*n);rw[Int.zero_mul];rfl
   split at h<;>cases h;rename_i q;rw[zF]at q;obtain⟨j,rfl⟩:=Ic q.1;obtain⟨v,f⟩:=A q.2;obtain⟨n,rfl⟩:=Vv.bI<|o v f;rw[CH f Ob];show _=BJ (GO<|n*0);rw[Int.mul_zero];rfl
  .have h:DD 1 x y=Z z:=h;unfold DD at h;split at h<;>cases h;obtain⟨j,rfl⟩:=Ic P0;obtain⟨c,e⟩|⟨n,e,q⟩:=p
   .rw[e,Jh e]
   rw[e,CH e Ob];show _=BJ (GO<|n.tdiv 1);rw[Int.tdiv_one,r q];rfl
  cases h
 .have l:∀e:Ex,(∀v,At R ls e=.ok v->gvV v)->(∀v,At R ls e=.ok v->v.ty=4)->(∃c,At R ls e=.err c)\/∃n,At R ls e=.ok (.set n)/\Ax n=jG:=λe g t=>by cases q:At R ls e with|err c=>exact .inl ⟨c,rfl⟩|ok v=>obtain⟨n,rfl⟩:=Vv.aR<|t v q;exact .inr ⟨n,rfl,(g _ q).1⟩
  have p:=l x D o;have C:=l y w ty;rcases(Oa:op=16\/op=17\/op=18)with rfl|rfl|rfl
  .have h:EI x y=Z z:=h;unfold EI at h;split at h
   .cases h;obtain⟨j,_,_,_,rfl⟩:=Id P0;rw[CH (v:=.set []) rfl Ob];obtain⟨c,e⟩|⟨n,e,q⟩:=C
    .rw[e]
    rw[e];show _=DP (Fz [] n);rw[Kv Nj q q Oz];rfl
   split at h<;>cases h;rename_i q;rw[Z0]at q;obtain⟨c,e⟩|⟨n,e,u⟩:=p
   .rw[e,Jh e]
   rw[CH e Ob,e];obtain q|q:=q
   .obtain⟨j,_,_,_,rfl⟩:=Id q;show _=DP (Fz n []);rw[Kv u Nj u Oz];rfl
   obtain⟨v,h1,h2⟩:=sm q;rw[e]at h1;cases h1;rw[h2];show _=DP (Fz n n);rw[Kv u u u Oz];rfl
  .have h:Hy x y=Z z:=h;unfold Hy at h;split at h
   .cases h;rename_i q;rw[zF]at q;obtain⟨j,_,_,_,rfl⟩:=Id q.1;obtain⟨v,f⟩:=B q.2;obtain⟨n,rfl⟩:=Vv.aR<|ty v f;rw[CH (v:=.set []) rfl Ob,f];show _=Ev.ok (.set<|Bq [] n);rw[Yz.1];rfl
   split at h
   .cases h;rename_i q;rw[zF]at q;obtain⟨j,_,_,_,rfl⟩:=Id q.1;obtain⟨v,f⟩:=A q.2;obtain⟨n,rfl⟩:=Vv.aR<|o v f;rw[CH f Ob];show _=Ev.ok (.set<|Bq n []);rw[Yz.2];rfl
   split at h<;>cases h;obtain⟨v,h1,h2⟩:=sm P0;obtain⟨c,e⟩|⟨n,e,u⟩:=p
   .rw[e]at h1;cases h1
   rw[e]at h1;cases h1;rw[CH e Ob,h2,e];show _=Ev.ok (.set<|Bq n n);rw[Aee u]
  have h:Fc x y=Z z:=h;unfold Fc at h;split at h
  .cases h;rename_i q;simp only[Z0,zF]at q;obtain q|q:=q
   .obtain⟨j,_,_,_,rfl⟩:=Id q;obtain⟨c,e⟩|⟨n,e,u⟩:=p
    .rw[e,Jh e]
    rw[e,CH e Ob];show _=Ev.ok (.set<|AP n []);rw[(UN u).1]
   obtain⟨j,_,_,_,rfl⟩:=Id q.1;obtain⟨v,f⟩:=B q.2;obtain⟨n,rfl⟩:=Vv.aR<|ty v f;rw[CH (v:=.set []) rfl Ob,f];show _=Ev.ok (.set<|AP [] n);rw[(UN (w _ f).1).2];rfl
  split at h<;>cases h;obtain⟨v,h1,h2⟩:=sm P0;obtain⟨n,rfl⟩:=Vv.aR<|o v h1;rw[CH h1 Ob,h2];show _=Ev.ok (.set<|AP n n);rw[AaY];rfl
 .have l:∀c:Bool,Dt c x y=Z z->op=(if c then 19 else 20)->At R ls z=At R ls (.bin i op x y):=λc h k=>by
   unfold Dt at h;split at h<;>cases h;obtain⟨v,h1,h2⟩:=sm P0;rw[CH h1 (by rw[k];cases c<;>decide),h2];subst k;cases c
   .show _=Ev.ok (.bool<|!CJ v v);simp[CJ,At]
   show _=Ev.ok (.bool<|CJ v v);simp[CJ,At]
  obtain rfl|rfl:=k
  .exact l jG h rfl
  exact l jI h rfl
 .have l:∀c:Bool,Dt c x y=Z z->op=(if c then 22 else 21)->At R ls z=At R ls (.bin i op x y):=λc h k=>by
   unfold Dt at h;split at h<;>cases h;obtain⟨v,h1,h2⟩:=sm P0;obtain⟨n,rfl⟩:=Vv.bI<|o v h1;rw[CH h1 (by rw[k];cases c<;>decide),h2];subst k;cases c
   .show _=Ev.ok (.bool<|decide (n<n));simp[At]
   show _=Ev.ok (.bool<|decide (n<=n));simp[At]
  obtain rfl|rfl:=k
  .exact l jI h rfl
  exact l jG h rfl
 .have h:inE x y=Z z:=h;unfold inE at h;split at h<;>cases h;rename_i q;rw[zF]at q;obtain⟨j,_,_,_,rfl⟩:=Id q.1;obtain⟨v,f⟩:=A q.2;obtain⟨n,rfl⟩:=Vv.cA<|o v f;rw[CH f Ob];show _=Ev.ok (.bool _);simp[At]
 .have h:Fh x y=Z z:=h;unfold Fh at h;split at h
  .cases h;obtain⟨v,h1,h2⟩:=sm P0;obtain⟨n,rfl⟩:=Vv.aR<|o v h1;rw[CH h1 Ob,h2];show _=Ev.ok (.bool<|Cy n n);rw[(Pn (D _ h1).1).1];rfl
  split at h<;>cases h;rename_i q;rw[zF]at q;obtain⟨j,_,_,_,rfl⟩:=Id q.1;obtain⟨v,f⟩:=B q.2;obtain⟨n,rfl⟩:=Vv.aR<|ty v f;rw[CH (v:=.set []) rfl Ob,f];show _=Ev.ok (.bool<|Cy [] n);rw[(Pn (w _ f).1).2];rfl
 have F:∀e:Ex,(∀v,At R ls e=.ok v->v.ty=1)->(∃c,At R ls e=.err c)\/∃n,At R ls e=.ok (.bool n):=λe t=>by cases q:At R ls e with|err c=>exact .inl ⟨c,rfl⟩|ok v=>obtain⟨n,rfl⟩:=Vv.bC<|t v q;exact .inr ⟨n,rfl⟩
 have l:∀c:Bool,GL c x y=Z z->op=(if c then 25 else 26)->At R ls z=At R ls (.bin i op x y):=λc h k=>by
  have E:∀n,At R ls x=.ok (.bool n)->At R ls (.bin i op x y)=if n=c then At R ls y else .ok (.bool n):=λn G=>by rw[At,G];subst k;cases c<;>cases n<;>simp[GJ]<;>obtain⟨d,e⟩|⟨m,e⟩:=F y ty<;>rw[e]
  unfold GL at h;split at h
  .cases h;obtain⟨j,rfl⟩:=Jg P0;rw[E c rfl,K1 rfl]
  split at h
  .cases h;rename_i q;rw[Z0]at q;obtain⟨d,e⟩|⟨m,e⟩:=F x o
   .rw[e,Jh e]
   rw[E m e,e];obtain q|q:=q
   .obtain⟨j,rfl⟩:=Jg q;cases e;cases c<;>rfl
   obtain⟨j,rfl⟩:=Jg q;split
   .rename_i hm;rw[hm];rfl
   rfl
  split at h<;>cases h;rename_i q;rw[zF]at q;obtain⟨j,rfl⟩:=Jg q.1;obtain⟨v,f⟩:=A q.2;obtain⟨m,rfl⟩:=Vv.bC<|o v f;rw[E m f];cases c<;>cases m<;>rfl
 obtain rfl|rfl:=k
 .exact l jG h rfl
 exact l jI h rfl
theorem Alr(R:Rq)(ls:N6)(v:Vv):At R ls v.ex=.ok v:=by cases v<;>rfl
theorem UO{e:Ex}(h:e.cv=Z v)(R:Rq)(ls:N6):At R ls e=.ok v:=by cases e<;>simp only[Ex.cv]at h<;>first|(cases h;rfl)|cases h
theorem Als{e:Ex}(h:e.bQ=jG)(R:Rq)(ls:N6)(b:Rq)(c:N6):At R ls e=At b c e:=by obtain⟨v,a⟩:=yI.1 h;rw[UO a,UO a]
theorem AjI{e c:Ex}(h:AM e=Z c)(R:Rq)(ls:N6):At R ls c=At R ls e:=by
 unfold AM at h;split at h
 .cases h
 split at h
 .rename_i f;split at h
  .rename_i v g;cases h;have k:∀k∈e.aC,At SS [] k=At R ls k:=λk j=>Als (zo.1 f k j) _ _ _ _;rw[Alr,<-g];cases e with|un i op a=>rw[At,At,k a O4]|bin i op a b=>rw[At,At,k a O4,k b O4]|ite i a b d=>rw[At,At,k a O4,k b O4,k d O4]|_=>simp[Ex.aC]at*
  cases h
 cases h
def AjJ(ls:M8)(vs:N6):Prop:=∀(n:Nat) (c:Ex) (v:Vv),ls[n]?=Z c->c.cv=Z v->vs[n]?=Z v
theorem AjK{R:Rq}(l:vs.map Vv.ty=ts)(s:AjJ ls vs){e c:Ex}{t:Int}(h:An ts e=Z t)(hg:∀k∈e.aC,∀v,At R vs k=.ok v->gvV v)(f:AS ls e=Z c):At R vs c=At R vs e:=by cases e with
 |lett i n=>
  rw[AS]at f;split at f
  .rename_i d hd;split at f
   .rename_i hc;cases f;obtain⟨v,g⟩:=yI.1 hc;rw[UO g,At,s _ _ _ hd g]
   cases f
  cases f|un i op k=>
  rw[AS]at f;split at f
  .rename_i m;subst m;cases k with
   |un B o j=>
    rw[LS]at f;split at f
    .rename_i m;subst m;cases f;rw[An,An]at h;cases p:An ts c with|none=>rw[p]at h;cases h|some a=>rw[p]at h;dsimp only at h;cases hq:nz (Ba 9 [a])with|none=>rw[hq]at h;cases h|some b=>
       obtain⟨e,_⟩|⟨_,rfl,rfl⟩|⟨e,_⟩:=FY hq
       .cases e
       .rw[At,At];cases he:At R vs c with|err d=>rfl|ok v=>obtain⟨b,rfl⟩:=Vv.bC<|AZ l c 1 p v he;simp[Ie]
       cases e
    cases f|_=>cases f
  cases f|bin i op x y=>rw[AS]at f;rw[An]at h;cases hx:An ts x with|none=>rw[hx]at h;cases h|some a=>cases hy:An ts y with|none=>rw[hx,hy]at h;cases h|some b=>rw[hx,hy]at h;exact AjH l hx hy h (hg x O4) (hg y O4) f
 |ite i x y z=>
  rw[AS]at f;rw[An]at h;split at f
  .cases f;obtain⟨j,rfl⟩:=Jg P0;rfl
  split at f
  .cases f;obtain⟨j,rfl⟩:=Jg P0;rfl
  split at f<;>cases f;rename_i q;rw[zF]at q;cases hx:An ts x with|none=>rw[hx]at h;cases h|some a=>
   rw[hx]at h;obtain⟨v,g⟩:=EK (R:=R) l x a hx q.2;have w:a=1:=by
    dsimp only at h;split at h
    .split at h
     .obtain⟨h1,h0⟩:=DO h;simp only[Ba]at h1;split at h1<;>omega
     cases h
    cases h
   subst w;obtain⟨b,rfl⟩:=Vv.bC<|AZ l x 1 hx v g;rw[At,g];have r:=q.1;simp only[VY,zF,zO]at r;obtain⟨u,hu⟩:=yI.1 r.1;have A:=r.2 ▸ hu;rw[UO hu,UO A];cases b<;>rfl
 |_=>cases f
theorem Ik{R:Rq}(a:vs.map Vv.ty=ts)(b:AjJ ls vs){e:Ex}{t:Int}(h:An ts e=Z t)(hg:∀k∈e.aC,∀v,At R vs k=.ok v->gvV v):At R vs (NN ls e)=At R vs e:=by unfold NN;cases hf:AM e with|some c=>exact AjI hf R vs|none=>cases d:AS ls e with|none=>rfl|some c=>exact AjK a b h hg d
theorem Ji{R:Rq}(l:RqG R){vs:N6}{ts:M4}(f:vs.map Vv.ty=ts)(m:∀v∈vs,gvV v){ls:M8}(j:AjJ ls vs)(ht:FI ts ls):∀(e:Ex)(t:Int),An ts e=Z t->FH e->Ln e->At R vs (Cw ls e)=At R vs e
 |.un i op k,t,h,g,o=>by rw[Cw];rw[An]at h;cases q:An ts k with|none=>rw[q]at h;cases h|some a=>
   rw[q]at h;have r:=Ji l f m j ht k a q g.2 o;refine(Ik (t:=t) f j (by rw[An,DG ht k a q];exact h) ?_).trans ?_
   .simp only[Ex.aC,zK,forall_eq,r];exact Js l m k g.2 o
   rw[At,At,r]
 |.bin i op x y,t,h,g,o=>by rw[Cw];rw[An]at h;cases hx:An ts x with|none=>rw[hx]at h;cases h|some a=>cases hy:An ts y with|none=>rw[hx,hy]at h;cases h|some b=>
    rw[hx,hy]at h;have p:=Ji l f m j ht x a hx g.2.1 o.1;have i2:=Ji l f m j ht y b hy g.2.2 o.2;refine(Ik (t:=t) f j (by rw[An,DG ht x a hx,DG ht y b hy];exact h) ?_).trans ?_
    .simp only[Ex.aC,zS,Z9,or_false,forall_eq_or_imp,forall_eq,p,i2];exact⟨Js l m x g.2.1 o.1,Js l m y g.2.2 o.2⟩
    rw[At,At,p,i2]
 |.ite i x y z,t,h,g,o=>by rw[Cw];rw[An]at h;cases hx:An ts x with|none=>rw[hx]at h;cases h|some a=>cases hy:An ts y with|none=>rw[hx,hy]at h;cases h|some b=>cases hz:An ts z with|none=>rw[hx,hy,hz]at h;cases h|some d=>
     rw[hx,hy,hz]at h;have p:=Ji l f m j ht x a hx g.1 o.1;have i2:=Ji l f m j ht y b hy g.2.1 o.2.1;have s:=Ji l f m j ht z d hz g.2.2 o.2.2;refine(Ik (t:=t) f j (by rw[An,DG ht x a hx,DG ht y b hy,DG ht z d hz];exact h) ?_).trans ?_
     .simp only[Ex.aC,zS,Z9,or_false,forall_eq_or_imp,forall_eq,p,i2,s];exact⟨Js l m x g.1 o.1,Js l m y g.2.1 o.2.1,Js l m z g.2.2 o.2.2⟩
     rw[At,At,p,i2,s]
 |.int i n,t,h,_,_=>Ik f j h O4|.text i n,t,h,_,_=>Ik f j h O4|.bool i n,t,h,_,_=>Ik f j h O4|.set i a n c ss,t,h,_,_=>Ik f j h O4|.name i n,t,h,_,_=>Ik f j h O4|.attr i n,t,h,_,_=>Ik f j h O4|.lett i n,t,h,_,_=>Ik f j h O4
noncomputable def V8(R:Rq)(vs:N6):N5->Dr|none=>.out 1 []|some e=>match At R vs e with|.ok (.set ss)=>.out 2 ss|.ok _=>.err 4|.err c=>.err c
noncomputable def Ef(R:Rq):N6->M9->Dr|_,[]=>.err 4|vs,x::Xx=>match x.cond with|none=>V8 R vs x.aD|some e=>match At R vs e with|.err c=>.err c|.ok v=>if x.aF=1 then Ef R (vs++[v]) Xx else match v with|.bool jG=>V8 R vs x.aD|_=>Ef R vs Xx
theorem AaT{R:Rq}{Es:M8}:∀(L:Nz)(i:Nat)(vs:N6),(∀s∈L,(s.cond=-1\/s.cond.toNat<Y Es)/\(s.aD=-1\/s.aD.toNat<Y Es))->CV R Es vs L=Ef R vs (GQ Es i L)
 |[],_,_,_=>rfl|s::L,i,vs,h=>by
  have a:=λvs=>AaT (R:=R) L (i+1) vs λs hs=>h s<|zV _ hs;obtain⟨h1,h2⟩:=h s (zR ..);have hg:Ju R vs Es s.aD=V8 R vs (BS Es s.aD):=by
   unfold Ju BS;by_cases q:s.aD=-1
   .rw[K1 q,K1 q];rfl
   rw[K0 q,K0 q,zE<|h2.resolve_left q];rfl
  rw[CV,GQ,Ef,hg];by_cases q:s.cond=-1
  .rw[K1 q];simp only[BS,K1 q]
  rw[K0 q];simp only[BS,K0 q,zE<|h1.resolve_left q,a];rfl
theorem UH{R:Rq}:∀(c d:M9)(vs:N6),c.map (λx=>(x.aF,x.cond.map Ex.st,x.aD.map Ex.st))=d.map (λx=>(x.aF,x.cond.map Ex.st,x.aD.map Ex.st))->Ef R vs c=Ef R vs d
 |[],[],_,_=>rfl|[],_::_,_,h=>O6|_::_,[],_,h=>O6|x::c,y::d,vs,h=>by
  simp only[List.map_cons,List.cons.injEq,Prod.mk.injEq]at h;obtain⟨⟨h1,h2,h3⟩,h4⟩:=h;have i:=λvs=>UH (R:=R) c d vs h4;have g:∀{a b:N5},a.map Ex.st=b.map Ex.st->(a=V/\b=V)\/∃e f,a=Z e/\b=Z f/\∀vs,At R vs e=At R vs f:=λ{a b}h=>by
   cases a<;>cases b<;>simp at h
   .exact .inl ⟨rfl,rfl⟩
   exact .inr ⟨_,_,rfl,rfl,λvs=>by rw[<-AgO,h,AgO]⟩
  have hg:V8 R vs x.aD=V8 R vs y.aD:=by
   obtain⟨a,b⟩|⟨e,f,a,b,q⟩:=g h3
   .rw[a,b]
   rw[a,b,V8,V8,q]
  rw[Ef,Ef,hg,h1];obtain⟨a,b⟩|⟨e,f,a,b,q⟩:=g h2
  .rw[a,b]
  rw[a,b];simp only[q,i]
theorem II{R:Rq}{x:Sx}{X:M9}(h:x.cond=V):Ef R vs (x::X)=V8 R vs x.aD:=by rw[Ef,h]
theorem Sa{R:Rq}(f:RqG R):∀(d:M9)(ts:M4)(vs:N6)(ls:M8),vs.map Vv.ty=ts->(∀v∈vs,gvV v)->AjJ ls vs->FI ts ls->Y ls=Y ts->JD ts d->UF d->Ef R vs (CY ls d)=Ef R vs d
 |[],_,_,_,_,_,_,_,_,_,_=>rfl|x::d,ts,vs,ls,hls,hv,hl,ht,hn,h,hg=>by
  rw[CY];obtain⟨g1,g2⟩:=hg x (zR ..);have gX:UF d:=λy hy=>hg y<|zV _ hy;have j:∀{ts':M4},Wy ts x.aD->V8 R vs (x.aD.map<|Cw ls)=V8 R vs x.aD:=λh=>by cases e:x.aD with|none=>rfl|some g=>rw[e]at h;obtain⟨a,b,_⟩:=g2 g e;rw[z0,V8,V8,Ji f hls hv hl ht g 4 h a b]
  obtain⟨k,e,t,h1,h2,h3,h4⟩|⟨k,⟨e,h1,h2⟩,h3,h4⟩|⟨k,h1,h3,h4⟩:=h
  .obtain⟨ga,i,_⟩:=g1 e h1;have q:=Ji f hls hv hl ht e t h2 ga i;have e1:KQ ls (Ia ls x)=ls++[Cw ls e]:=by rw[KQ,K1<|show(Ia ls x).aF=1 from k];simp[Ia,h1]
   rw[Ef,Ef,h1,show(Ia ls x).cond=Z (Cw ls e)by simp[Ia,h1]];dsimp only;rw[q];cases he:At R vs e with|err c=>rfl|ok v=>
    dsimp only;rw[K1<|show(Ia ls x).aF=1 from k,K1 k,e1];refine Sa f d (ts++[t]) (vs++[v]) _ (by rw[zN,hls,List.map_cons,AZ hls e t h2 v he];rfl) (λu hu=>?_) (λn c u hc hu=>?_) (ht.cE hn<|DG ht e t h2) (by simp[hn]) h4 gX
    .obtain hu|hu:=zJ.1 hu
     .exact hv u hu
     rw[zK.1 hu];exact Js f hv e ga i v he
    have m:Y vs=Y ls:=by rw[hn,<-hls,zZ]
    obtain a|a|a:=Nat.lt_trichotomy n<|Y ls
    .rw[zp a]at hc;rw[zp Oa];exact hl n c u hc hu
    .subst a;simp at hc;subst hc;rw[UO hu]at q;rw[<-m];simp;rw[he]at q;exact(Ev.ok.inj q).symm
    rw[zw Od]at hc;cases hc
  .obtain⟨ga,i,_⟩:=g1 e h1;have q:=Ji f hls hv hl ht e 1 h2 ga i;have e1:KQ ls (Ia ls x)=ls:=by rw[KQ,K0 (Hi:(Ia ls x).aF≠1)]
   have l:x.aF≠1:=Oa;rw[Ef,Ef,h1,show(Ia ls x).cond=Z (Cw ls e)by simp[Ia,h1],e1,Sa f d ts vs ls hls hv hl ht hn h4 gX,show V8 R vs (Ia ls x).aD=V8 R vs x.aD from j (ts':=ts) h3];dsimp only;rw[q];simp only[K0 l,K0<|show(Ia ls x).aF≠1 from l]
  rw[II<|by simp[Ia,h1],II h1];exact j (ts':=ts) h3
theorem YA{R:Rq}:∀(a:M9)(vs:N6),(∀x∈a,x.aF=3->x.cond=V)->Ef R vs (Bp a)=Ef R vs a
 |[],_,_=>rfl|x::a,vs,h=>by
  have d:=λvs=>YA (R:=R) a vs λy hy=>h y<|zV _ hy;have f:∀{b:Bool},La b x.cond=jG->∃i,x.cond=Z (.bool i b):=λ{b}q=>by cases e:x.cond with|none=>rw[e]at q;cases q|some c=>rw[e]at q;obtain⟨i,rfl⟩:=Jg q;exact⟨i,rfl⟩
  rw[Bp];split
  .rename_i q;obtain⟨i,e⟩:=f q.2;rw[d,Ef,e];simp only[At,K0 (Oa:x.aF≠1)]
  split
  .rename_i q;obtain⟨i,e⟩:=f q.2;rw[II rfl,Ef,e];simp only[At,K0 (Oa:x.aF≠1)]
  rw[Ef,Ef];simp only[d]
def vL(vs:N6)(l:M4):N6:=l.map λm=>vs.getD m.toNat<|.bool jI
theorem Nl{R:Rq}{vs:N6}{ts g o:M4}(f:vs.map Vv.ty=ts):∀(e:Ex)(t:Int),(∀m,usE m e=jG->0<=m->m.toNat<Y ts->m∈g)->An ts e=Z t->At R (vL vs g) (BV (g++o) e)=At R vs e
 |.lett i n,t,hu,h=>by
  rw[An]at h;split at h
  .rename_i h0;have j:n.toNat<Y ts:=(zL.1 h).1;have p:n.toNat<Y vs:=by rw[<-f,zZ]at j;exact j
   have hm:=hu n (by simp[usE]) h0 j;have hi:=List.idxOf_lt_length_iff.2 hm;rw[BV,Wz,List.idxOf_append,K1 hm,At,At,zP,vL,zi,zE hi,List.getElem_idxOf hi];simp only[z0,zf,zE p,Option.getD_some]
  cases h|.un i op k,t,hu,h=>by rw[BV,At,At];rw[An]at h;cases l:An ts k with|none=>rw[l]at h;cases h|some a=>rw[Nl f k a (λm hm=>hu m S6) l]
 |.bin i op x y,t,hu,h=>by rw[BV,At,At];rw[An]at h;cases hx:An ts x with|none=>rw[hx]at h;cases h|some a=>cases hy:An ts y with|none=>rw[hx,hy]at h;cases h|some b=>rw[Nl f x a (λm hm=>hu m S6) hx,Nl f y b (λm hm=>hu m S6) hy]
 |.ite i x y z,t,hu,h=>by rw[BV,At,At];rw[An]at h;cases hx:An ts x with|none=>rw[hx]at h;cases h|some a=>cases hy:An ts y with|none=>rw[hx,hy]at h;cases h|some b=>cases hz:An ts z with|none=>rw[hx,hy,hz]at h;cases h|some d=>rw[Nl f x a (λm hm=>hu m S6) hx,Nl f y b (λm hm=>hu m S6) hy,Nl f z d (λm hm=>hu m S6) hz]
 |.int i n,t,_,_=>rfl|.text i n,t,_,_=>rfl|.bool i n,t,_,_=>rfl|.set i a n c ss,t,_,_=>rfl|.name i n,t,_,h=>O6|.attr i n,t,_,_=>rfl
theorem AcS{a:M4}(b:∀m∈a,m.toNat<Y vs):vL (vs++[v]) a=vL vs a:=List.map_congr_left λm hm=>by rw[zf,zf,zp<|b m hm]
theorem AjL{a:M4}(b:∀m∈a,m.toNat<Y vs)(n:Nat)(c:n=Y vs):vL (vs++[v]) (a++[(n:Int)])=vL vs a++[v]:=by subst c;rw[show vL (vs++[v]) (a++[(Y vs:Int)])=vL (vs++[v]) a++vL (vs++[v]) [(Y vs:Int)]from zN,AcS b];simp[vL]
theorem PT{R:Rq}:∀(d:M9)(ts b:M4)(vs:N6),vs.map Vv.ty=ts->(∀m∈b,m.toNat<Y ts)->(∀q∈Cj (Y ts:Nat) d,∀m,Ii m q.1=jG->0<=m->m.toNat<Y ts->m∈b)->JD ts d->Ef R (vL vs b) ((Cj (Y ts:Nat) d).map λq=>FJ (b++GH (Cj (Y ts:Nat) d)) q.1)=Ef R vs d
 |[],_,_,_,_,_,_,_=>rfl|x::d,ts,b,vs,hls,hl,hu,h=>by
  have l:Y vs=Y ts:=by rw[<-hls,zZ]
  have o:∀n,(∀m,Ii m x=jG->0<=m->m.toNat<Y ts->m∈b)->Wy ts x.aD->V8 R (vL vs b) (FJ (b++n) x).aD=V8 R vs x.aD:=λn hu h=>by show V8 R (vL vs b) (x.aD.map<|BV<|b++n)=_;cases e:x.aD with|none=>rfl|some g=>rw[e]at h;rw[z0,V8,V8,Nl hls g 4 (λm hm=>hu m<|by simp[Ii,usO,e,hm]) h]
  obtain⟨k,e,t,h1,h2,h3,h4⟩|⟨k,⟨e,h1,h2⟩,h3,h4⟩|⟨k,h1,h3,h4⟩:=h
  .have en:((Y ts:Nat):Int)+1=(Y (ts++[t]):Nat):=Oz;rw[Cj,K1 k]at hu|-;rw[en]at hu|-;have p:∀m∈b,m.toNat<Y (ts++[t]):=λm hm=>by have:=hl m hm;simp;omega
   have r:∀v,At R vs e=.ok v->(vs++[v]).map Vv.ty=ts++[t]:=λv j=>by rw[zN,hls,List.map_cons,AZ hls e t h2 v j];rfl
   rw[show Ef R vs (x::d)=match At R vs e with|.err c=>.err c|.ok v=>Ef R (vs++[v]) d by rw[Ef,h1];simp only[K1 k]];split
   .rename_i f;rw[K1 f]at hu;have u:∀q∈Cj (Y (ts++[t]):Nat) d,Ii ((Y ts:Nat):Int) q.1=jI:=λq hq=>by simp only[zF,Bool.not_eq_true',List.any_eq_false]at f;simpa using f.1 q hq
    obtain⟨v,j⟩:=EK (R:=R) hls e t h2 (by rw[zF,h1]at f;exact f.2);have:=PT (R:=R) d (ts++[t]) b (vs++[v]) (r v j) p (λq hq m hm h0 i=>by
     obtain a|a:=Nat.lt_or_ge m.toNat<|Y ts
     .exact hu q hq m hm h0 a
     have:m=((Y ts:Nat):Int):=by simp at i;omega
     rw[this,u q hq]at hm;cases hm) h4;rw[AcS<|by rw[l];exact hl]at this;rw[this,j]
   rename_i f;rw[K0 f]at hu;rw[Jc k];have w:b++((Y ts:Nat):Int)::GH (Cj (Y (ts++[t]):Nat) d)=(b++[((Y ts:Nat):Int)])++GH (Cj (Y (ts++[t]):Nat) d):=Oz;rw[List.map_cons,Ef,show(FJ (b++((Y ts:Nat):Int)::GH (Cj (Y (ts++[t]):Nat) d)) x).cond=Z (BV (b++((Y ts:Nat):Int)::GH (Cj (Y (ts++[t]):Nat) d)) e)by simp[FJ,h1]];dsimp only;rw[Nl hls e t (λm hm h0 i=>hu _ (zR ..) m (by simp[Ii,h1,usO,hm]) h0 i) h2];cases j:At R vs e with
   |err c=>rfl
   |ok v=>dsimp only;rw[K1<|show(FJ (b++((Y ts:Nat):Int)::GH (Cj (Y (ts++[t]):Nat) d)) x).aF=1 from k];have s:=PT (R:=R) d (ts++[t]) (b++[((Y ts:Nat):Int)]) (vs++[v]) (r v j) (λm hm=>by
     obtain hm|hm:=zJ.1 hm
     .exact p m hm
     .rw[zK.1 hm];simp) (λq hq m hm h0 i=>by
     obtain a|a:=Nat.lt_or_ge m.toNat<|Y ts
     .exact z3 _ (hu q (zV _ hq) m hm h0 a)
     have:m=((Y ts:Nat):Int):=by simp at i;omega
     rw[this];simp) h4;rw[AjL (by rw[l];exact hl) (Y ts) l.symm]at s;rw[w];exact s
  .rw[Cj,K0 Oa]at hu|-;rw[CP Oa,List.map_cons,Ef,Ef,h1,show(FJ (b++GH (Cj (Y ts:Nat) d)) x).cond=Z (BV (b++GH (Cj (Y ts:Nat) d)) e)by simp[FJ,h1]];dsimp only;rw[Nl hls e 1 (λm hm h0 i=>hu _ (zR ..) m (by simp[Ii,h1,usO,hm]) h0 i) h2,o _ (hu _ (zR ..)) h3,PT d ts b vs hls hl (λq hq=>hu q<|zV _ hq) h4];simp only[K0 (Oa:x.aF≠1),K0 (Hi:(FJ (b++GH (Cj (Y ts:Nat) d)) x).aF≠1)]
  rw[Cj,K0 Oa]at hu|-;rw[CP Oa,List.map_cons,II<|by simp[FJ,h1],II h1,o _ (hu _ (zR ..)) h3]
theorem AgF{R:Rq}(g:RqG R){X:M9}(h:JD [] X)(hg:UF X):Ef R [] (BU X)=Ef R [] X:=by
 have h1:=Jb X [] [] (λn c hc=>by simp at hc) rfl h;have h2:=Ib _ [] h1;have i:∀(X:M9) (ts:M4),JD ts X->∀x∈X,x.aF=3->x.cond=V:=λX=>by induction X with|nil=>intro ts _ x hx;cases hx|cons y l f=>
   intro ts h x hx k;obtain⟨q,e,t,a,b,c,d⟩|⟨q,a,b,d⟩|⟨q,a,b,d⟩:=h<;>obtain rfl|hx:=zS.1 hx
   .omega
   .exact f _ d x hx k
   .omega
   .exact f _ d x hx k
   .exact a
   exact f _ d x hx k
 have:=PT (R:=R) (Bp<|CY [] X) [] [] [] rfl (λm hm=>by cases hm) (λq hq m hm h0 j=>by simp at j) h2;exact this.trans<|(YA _ []<|i _ _ h1).trans<|Sa g X [] [] [] rfl Oz (λn c v hc=>by simp at hc) (λn c hc=>by simp at hc) rfl h hg
theorem Be.gd(g:∀x∈N,AR x=jG){i:Nat}{e:Ex}(t:Be N i e):FH e:=by
 have fld:∀{i:Nat}{x:Nd},N[i]?=Z x->Px x=jG:=λh=>by have:=g _<|zX h;rw[AR,zF]at this;exact this.2
 induction t with|int h b d=>trivial|@text i x h b d=>have hq:=fld h;rw[Px,K0 Oa,K0 Oa,K0 Oa,wfB,K0 Oa,K1 b]at hq;simp only[zF]at hq;exact hq.1.1|bool h b d=>trivial|@set i x h b d a n c=>have hq:=fld h;rw[Px,K0 Oa,K0 Oa,K0 Oa,wfB,K0 Oa,K0 Oa,K0 Oa,K1 b]at hq;simp only[zF]at hq;exact hq.1.1|name h b d=>have hq:=fld h;rw[Px,K1 b]at hq;cases hq|@attr i x h b d=>have hq:=fld h;rw[Px,K0 Oa,K1 b]at hq;simp only[zF,zO]at hq;exact hq.1.1|lett h b d=>trivial|un h b d hi t j=>exact⟨b,j⟩|bin h b d hi t u f i2=>exact⟨b,f,i2⟩|ite h b d hi t u v f i2 k=>exact⟨f,i2,k⟩
theorem Be.ok(g:∀x∈N,Cf x.num/\Y x.aE<=1048576){i:Nat}{e:Ex}(t:Be N i e):Ln e:=by induction t with|int h b d=>exact(g _<|zX h).1|set h b d a n c=>exact(g _<|zX h).2|un h b d hi t j=>exact j|bin h b d hi t u f i2=>exact⟨f,i2⟩|ite h b d hi t u v f i2 k=>exact⟨f,i2,k⟩|_=>trivial
theorem AcO{p:Nat×Nat}:∀{ks:List (Nat×Nat)},p∈ks->p.2<=EB ks
 |q::ks,h=>by
  rw[EB];obtain e|e:=zS.1 h
  .rw[e];omega
  have:=AcO e;omega
theorem Aed{l:List (Nat×Nat)}(h:As (N.map Nd.aC) a l b):∀p∈l,∀e,Be N p.1 e->Eu e<=p.2:=by induction h with|nil a=>intro p d;cases d|@cons a t b ks l y ht hf u i2=>
  intro p d e he;obtain q|q:=zS.1 d
  .subst q;dsimp only at he|-;have v:∀{x:Nd},N[t]?=Z x->x.aC=Al ks:=λhx=>by rw[zi,hx]at ht;exact Mk ht
   have g:∀{x:Nd}{k:Nat}{f:Ex},N[t]?=Z x->(k:Int)∈x.aC->Be N k f->Eu f<=EB ks:=λ{x k f}hx hm hf'=>by rw[v hx,Al]at hm;obtain⟨p,d,e⟩:=zU.1 hm;have e2:p.1=k:=Oa;have:=u p d f (by rw[e2];exact hf');have:=AcO d;omega
   have m:mx 0 (EB ks:Int)=EB ks:=by unfold mx;split<;>omega
   have e1:mx (EB ks:Int) (EB ks)=EB ks:=by unfold mx;split<;>rfl
   cases he with|un h s c hi i=>have:=g h (by rw[c];simp) i;rw[Eu];have j:=Ej (zr 0) this;rw[m]at j;omega|bin h s c hi i n=>have o:=g h (by rw[c];simp) i;have r:=g h (by rw[c];simp) n;rw[Eu];have j:=Ej (Ej (zr 0) o) r;rw[m,e1]at j;omega|ite h s c hi i n v'=>have o:=g h (by rw[c];simp) i;have r:=g h (by rw[c];simp) n;have w:=g h (by rw[c];simp) v';rw[Eu];have j:=Ej (Ej (Ej (zr 0) o) r) w;rw[m,e1,e1]at j;omega|int=>show(1:Int)<=_;omega|text=>show(1:Int)<=_;omega|bool=>show(1:Int)<=_;omega|set=>show(1:Int)<=_;omega|name=>show(1:Int)<=_;omega|attr=>show(1:Int)<=_;omega|lett=>show(1:Int)<=_;omega
  exact i2 p q e he
def WA(ns:M6)(X:M9):Prop:=(Mj X).Nodup/\∀a∈Mj X,a ∉ ns
theorem WA.sub{ns:M6}{X Y:M9}(h:WA ns X)(hs:(Mj Y).Sublist<|Mj X):WA ns Y:=⟨h.1.sublist hs,λa b=>h.2 a<|hs.subset b⟩
theorem Jf{x:Sx}{X:M9}(h:x.aF=1):Mj (x::X)=x.name::Mj X:=by unfold Mj;rw[List.filter_cons_of_pos<|by exact zc h];rfl
theorem Gx{x:Sx}{X:M9}(h:x.aF≠1):Mj (x::X)=Mj X:=by unfold Mj;rw[List.filter_cons_of_neg<|by rw[zO];exact h]
theorem AcP(Es:M8):∀(L:Nz)(i:Nat),Br L=jG->1<=Y L->Ku (GQ Es i L)|s::L,i,h,_=>by simp only[Br,zF,zD]at h;obtain⟨⟨h1,h2⟩,h3⟩:=h;rw[GQ];cases L with|nil=>exact .inl ⟨M0<|by rw[h2];rfl,rfl⟩|cons s2 L=>exact .inr ⟨of_decide_eq_false<|by rw[h2];rfl,AcP Es (s2::L) (i+1) h3 Oz⟩
theorem AcQ(Es:M8):∀(L:Nz)(i:Nat)(ns:M6)(ts tt:M4)(d:F5),AC Es (ns,ts,tt) L=Z d->Br L=jG->(∀s∈L,(s.aF≠3->0<=s.cond)/\(s.aD=-1\/0<=s.aD))->JD ts (GQ Es i L)/\nmX (GQ Es i L)/\WA ns (GQ Es i L)
 |[],_,_,_,_,_,_,_,_=>⟨trivial,λx hx=>Q4,List.nodup_nil,λa l=>(by cases l)⟩|s::L,i,ns,ts,tt,d,h,hs,hr=>by
  simp only[Br,zF,zD]at hs;obtain⟨⟨b,A⟩,m⟩:=hs;have o:=hr s zR;have n:=λx hx=>hr x<|zV _ hx;rw[AC,Dq]at h;have u:∀{s1 s2:F5},AU Es s1 s=Z s2->s2.1=s1.1/\s2.2.1=s1.2.1/\Wy s1.2.1 (BS Es s.aD):=λ{s1 s2}hg=>by
   rw[AU]at hg;unfold BS;split at hg
   .cases hg;rename_i hm;rw[K1 hm];exact⟨rfl,rfl,trivial⟩
   rename_i hm;rw[K0 hm];split at hg
   .rename_i e he;rw[he];unfold ckG at hg;split at hg
    .rename_i t ht;split at hg
     .rename_i h4;cases hg;exact⟨rfl,rfl,by show An _ e=Z 4;rw[<-h4];exact ht⟩
     cases hg
    cases hg
   cases hg
  cases hc:AK Es (ns,ts,tt) s with|none=>rw[hc]at h;cases h|some s1=>rw[hc]at h;simp only[zn]at h;cases hg:AU Es s1 s with|none=>rw[hg]at h;cases h|some s2=>
    rw[hg]at h;simp only[zn]at h;obtain⟨g1,g2,g3⟩:=u hg;rw[GQ];unfold DY at b;split at b
    .rename_i k;simp only[zF,zO]at b;have v:=o.1 Oa;rw[AK,K0 Oa]at hc;split at hc
     .rename_i e he;unfold SO at hc;rw[K1 k]at hc;split at hc
      .rename_i t ht;split at hc
       .cases hc
       rename_i p;cases hc;dsimp only at g1 g2 g3 p ht;obtain⟨n2,r,f⟩:=s2;dsimp only at g1 g2;subst g1 g2;obtain⟨g,i2,c⟩:=AcQ Es L (i+1) _ _ f d h m n;have eo:BS Es s.cond=Z e:=by rw[BS,K0 Oa,he]
       have w:BS Es s.aD=V:=by rw[BS,K1 b.2]
       refine⟨.inl ⟨k,e,t,eo,ht,w,g⟩,λy hy=>?_,?_⟩
       .obtain q|q:=zS.1 hy
        .rw[q];exact⟨λ_=>b.1,λq=>K4 k q⟩
        exact i2 y q
       rw[WA,Jf<|show(⟨(i:Int),s.aF,s.name,BS Es s.cond,BS Es s.aD⟩:Sx).aF=1 from k];refine⟨List.nodup_cons.2 ⟨λhm=>c.2 _ hm Oz,c.1⟩,λa l=>?_⟩;obtain q|q:=zS.1 l
       .rw[q];exact p
       exact λhm=>c.2 a q<|z3 _ hm
      cases hc
     cases hc
    rename_i j;split at b
    .rename_i k;have hz:=M0 b;have v:=o.1 Oa;rw[AK,K0 Oa]at hc;split at hc
     .rename_i e he;unfold SO at hc;rw[K0 j]at hc;split at hc
      .rename_i t ht;split at hc
       .rename_i z;cases hc;dsimp only at g1 g2 g3 ht;obtain⟨n2,r,f⟩:=s2;dsimp only at g1 g2;subst g1 g2;obtain⟨g,i2,c⟩:=AcQ Es L (i+1) _ _ f d h m n;have eo:BS Es s.cond=Z e:=by rw[BS,K0 Oa,he]
        refine⟨.inr<|.inl ⟨k,⟨e,eo,by rw[<-z];exact ht⟩,g3,g⟩,λy hy=>?_,?_⟩
        .obtain q|q:=zS.1 hy
         .rw[q];exact⟨λq=>K4 q j,λ_=>UM hz⟩
         exact i2 y q
        rw[WA,Gx<|show(⟨(i:Int),s.aF,s.name,BS Es s.cond,BS Es s.aD⟩:Sx).aF≠1 from j];exact c
       cases hc
      cases hc
     cases hc
    split at b
    .rename_i k;simp only[zF,zO]at b;rw[AK,K1 b.2]at hc;cases hc;dsimp only at g1 g2 g3;obtain⟨n2,r,f⟩:=s2;dsimp only at g1 g2;subst g1 g2;obtain⟨g,i2,c⟩:=AcQ Es L (i+1) _ _ f d h m n;have eo:BS Es s.cond=V:=by rw[BS,K1 b.2]
     refine⟨.inr<|.inr ⟨k,eo,g3,g⟩,λy hy=>?_,?_⟩
     .obtain q|q:=zS.1 hy
      .rw[q];exact⟨λq=>K4 q j,λ_=>UM b.1⟩
      exact i2 y q
     rw[WA,Gx<|show(⟨(i:Int),s.aF,s.name,BS Es s.cond,BS Es s.aD⟩:Sx).aF≠1 from j];exact c
    cases b
theorem fC(ts:M4):∀(e:Ex),Cv ts e.st=Cv ts e|.un i op k=>by have h:=Kq ts<|.un i op k;rw[Ex.st]at h|-;rw[Cv,Cv,fC ts k,h]|.bin i op l a=>by have h:=Kq ts<|.bin i op l a;rw[Ex.st]at h|-;rw[Cv,Cv,fC ts l,fC ts a,h]|.ite i c t e=>by have h:=Kq ts<|.ite i c t e;rw[Ex.st]at h|-;rw[Cv,Cv,fC ts c,fC ts t,fC ts e,h]|.int ..=>rfl|.text ..=>rfl|.bool ..=>rfl|.set ..=>rfl|.name ..=>rfl|.attr ..=>rfl|.lett ..=>rfl
theorem Alq{f e:Ex}(h:f.st=e.st)(ts:M4):An ts f=An ts e/\Cv ts f=Cv ts e:=⟨by rw[<-Kq,h,Kq],by rw[<-fC,h,fC]⟩
theorem Kh{N:M7}:∀(e:Ex)(b:Nat),EQ N b (GY e b)->FH e->∃f,Be N (b+e.aL-1) f/\f.st=e.st
 |.un i op k,b,h,g=>by
  rw[GY]at h;obtain⟨f,h1,h2⟩:=Kh k b h.left g.2;have hx:=h.right (Bi k b) 0 _ rfl;rw[ze]at hx;have c1:=k.cY;have e1:b+(Ex.un i op k).aL-1=b+k.aL:=by simp only[Ex.aL];omega
  refine⟨.un (b+k.aL:Nat) op f,?_,by rw[Ex.st,Ex.st,h2]⟩;rw[e1];exact Be.un (k:=b+k.aL-1) hx g.1 rfl Oa h1|.bin i op l r,b,h,g=>by
  rw[GY]at h;obtain⟨f,h1,h2⟩:=Kh l b h.left.left g.2.1;obtain⟨d,j,o⟩:=Kh r (b+l.aL) (h.left.right<|Bi l b) g.2.2;have hx:=h.right (k:=l.aL+r.aL) (by rw[zC,Bi,Bi]) 0 _ rfl;rw[ze]at hx;have c1:=l.cY;have c2:=r.cY;have e1:b+(Ex.bin i op l r).aL-1=b+(l.aL+r.aL):=by simp only[Ex.aL];omega
  refine⟨.bin (b+(l.aL+r.aL):Nat) op f d,?_,by rw[Ex.st,Ex.st,h2,o]⟩;rw[e1];exact Be.bin (k:=b+l.aL-1) (l:=b+l.aL+r.aL-1) hx g.1 rfl Oa h1 j|.ite i c t e,b,h,g=>by
  rw[GY]at h;obtain⟨f,h1,h2⟩:=Kh c b h.left.left.left g.1;obtain⟨d,j,o⟩:=Kh t (b+c.aL) (h.left.left.right<|Bi c b) g.2.1;have h3:EQ N (b+(c.aL+t.aL))<|GY e<|b+c.aL+t.aL:=h.left.right (by rw[zC,Bi,Bi]);rw[<-Nat.add_assoc]at h3;obtain⟨p,q,s⟩:=Kh e (b+c.aL+t.aL) h3 g.2.2;have hx:=h.right (k:=c.aL+t.aL+e.aL) (by rw[zC,zC,Bi,Bi,Bi]) 0 _ rfl;rw[ze]at hx;have c1:=c.cY;have c2:=t.cY;have c3:=e.cY;have e1:b+(Ex.ite i c t e).aL-1=b+(c.aL+t.aL+e.aL):=by simp only[Ex.aL];omega
  refine⟨.ite (b+(c.aL+t.aL+e.aL):Nat) f d p,?_,by rw[Ex.st,Ex.st,h2,o,s]⟩;rw[e1];exact Be.ite (k:=b+c.aL-1) (l:=b+c.aL+t.aL-1) (m:=b+c.aL+t.aL+e.aL-1) hx rfl rfl Oa h1 j q|.int i n,b,h,g=>⟨_,Be.int (h 0 _ rfl) rfl rfl,rfl⟩|.text i n,b,h,g=>⟨_,Be.text (h 0 _ rfl) rfl rfl,rfl⟩|.bool i n,b,h,g=>⟨_,Be.bool (h 0 _ rfl) rfl rfl,by cases n<;>rfl⟩|.set i a n c ss,b,h,g=>⟨_,Be.set (h 0 _ rfl) rfl rfl V 0 0,rfl⟩|.name i n,b,h,g=>g.elim|.attr i n,b,h,g=>⟨_,Be.attr (h 0 _ rfl) rfl rfl,rfl⟩|.lett i n,b,h,g=>⟨_,Be.lett (h 0 _ rfl) rfl rfl,rfl⟩
def Ni(ts:M4):N5->M4|none=>[]|some e=>Cv ts e
def Jz:M4->M9->M4|_,[]=>[]|ts,x::Xx=>Ni ts x.cond++Ni (if x.aF=1 then ts++[((x.cond.bind<|An ts).getD 0)]else ts) x.aD++Jz (if x.aF=1 then ts++[((x.cond.bind<|An ts).getD 0)]else ts) Xx
theorem VV{N:M7}(h5:∀x∈N,x.op≠5){Es:M8}(p:Y Es=Y N)(r:∀j,(h:j<Y Es)->Be N j Es[j]):∀(d:M9)(b:Nat)(ns:M6)(ts tt:M4),EQ N b (AV b d)->JD ts d->WA ns d->UF d->∃m n,AC Es (ns,ts,tt) (CC b d)=Z (m,n,tt++Jz ts d)
 |[],b,ns,ts,tt,_,_,_,_=>⟨ns,ts,by rw[CC,AC,Jz,List.append_nil]⟩|x::d,b,ns,ts,tt,hR,h,hL,hG=>by
  rw[AV]at hR;have y:=hR.left.left;have r2:=hR.left.right<|Fg x.cond b;have r3:=hR.right (k:=AQ x.cond+AQ x.aD) (by rw[zC,Fg,Fg]);rw[<-Nat.add_assoc]at r3;have hx:=hG x zR;have s:UF d:=λz hz=>hG z<|zV _ hz;have u:∀(o:N5) (c:Nat),EQ N c (PL o c)->gdO o->∀e,o=Z e->∃f,Jx o c≠-1/\Es[(Jx o c).toNat]?=Z f/\∀ts,An ts f=An ts e/\Cv ts f=Cv ts e:=λo c D hg e he=>by
   subst he;obtain⟨f,g,i⟩:=Kh e c D (hg e rfl).1;have E:=g.lt;have e1:Jx (Z e) c=((c+e.aL-1:Nat):Int):=rfl;have A:c+e.aL-1<Y Es:=by rw[p];exact E
   refine⟨Es[c+e.aL-1],by rw[e1];omega,by rw[e1,zP];exact zE A,λts=>?_⟩;have q:=Ag3 h5 (r _ A) g ts;have B:=Alq i ts;exact⟨q.1.trans B.1,q.2.trans B.2⟩
  have v:∀(ns:M6) (ts tt:M4),Wy ts x.aD->AU Es (ns,ts,tt) ⟨x.aF,x.name,Jx x.cond b,Jx x.aD<|b+AQ x.cond⟩=Z (ns,ts,tt++Ni ts x.aD):=λns ts tt hg=>by cases C:x.aD with|none=>rw[AU,K1<|show Jx V (b+AQ x.cond)=-1 from rfl];simp[Ni]|some e=>obtain⟨f,g,i,l⟩:=u x.aD _ r2 hx.2 e C;rw[C]at g i hg;rw[AU,K0 g];dsimp only;rw[i];dsimp only;rw[(l ts).1,(l ts).2,show An ts e=Z 4 from hg];rfl
  rw[CC,AC,Dq];obtain⟨k,e,t,h1,h2,h3,h4⟩|⟨k,⟨e,h1,h2⟩,h3,h4⟩|⟨k,h1,h3,h4⟩:=h
  .obtain⟨f,g,i,l⟩:=u x.cond _ y hx.1 e h1;rw[WA,Jf k]at hL;have F:x.name ∉ ns:=hL.2 _ zR;have hc:AK Es (ns,ts,tt) ⟨x.aF,x.name,Jx x.cond b,Jx x.aD<|b+AQ x.cond⟩=Z (ns++[x.name],ts++[t],tt++Ni ts x.cond):=by rw[AK,K0 g];dsimp only;rw[i];dsimp only;unfold SO;rw[K1<|show x.aF=1 from k,(l ts).1,(l ts).2,h2];dsimp only;rw[K0 F,h1];rfl
   rw[hc,zn,v _ _ _<|by rw[h3];trivial,zn];obtain⟨m,n,hq⟩:=VV h5 p r d _ (ns++[x.name]) (ts++[t]) ((tt++Ni ts x.cond)++Ni (ts++[t]) x.aD) r3 h4 ⟨(List.nodup_cons.1 hL.1).2,λa w hm=>by
    obtain q|q:=zJ.1 hm
    .exact hL.2 a (zV _ w) q
    rw[zK.1 q]at w;exact(List.nodup_cons.1 hL.1).1 w⟩ s;refine⟨m,n,?_⟩;rw[hq,Jz,K1 k,h1,zn,h2,Option.getD_some,<-h1];simp only[zd]
  .obtain⟨f,g,i,l⟩:=u x.cond _ y hx.1 e h1;rw[WA,Gx Oa]at hL;have hc:AK Es (ns,ts,tt) ⟨x.aF,x.name,Jx x.cond b,Jx x.aD<|b+AQ x.cond⟩=Z (ns,ts,tt++Ni ts x.cond):=by rw[AK,K0 g];dsimp only;rw[i];dsimp only;unfold SO;rw[K0 (Oa:¬ x.aF=1),(l ts).1,(l ts).2,h2];dsimp only;rw[K1 rfl,h1];rfl
   rw[hc,zn,v _ _ _ h3,zn];obtain⟨m,n,hq⟩:=VV h5 p r d _ ns ts ((tt++Ni ts x.cond)++Ni ts x.aD) r3 h4 hL s;refine⟨m,n,?_⟩;rw[hq,Jz,K0 Oa];simp only[zd]
  rw[WA,Gx Oa]at hL;have hc:AK Es (ns,ts,tt) ⟨x.aF,x.name,Jx x.cond b,Jx x.aD<|b+AQ x.cond⟩=Z (ns,ts,tt++Ni ts x.cond):=by rw[h1,AK,K1<|show Jx V b=-1 from rfl];simp[Ni]
  rw[hc,zn,v _ _ _ h3,zn];obtain⟨m,n,hq⟩:=VV h5 p r d _ ns ts ((tt++Ni ts x.cond)++Ni ts x.aD) r3 h4 hL s;refine⟨m,n,?_⟩;rw[hq,Jz,K0 Oa];simp only[zd]
theorem AcB:∀(a:M9)(ts:M4),Y (Jz ts a)=CB a
 |[],_=>rfl|x::a,ts=>by
  have b:∀(o:N5)(ts:M4),Y (Ni ts o)=AQ o:=λo ts=>by cases o with|none=>rfl|some e=>exact J1 ts e
  rw[Jz,zC,zC,b,b,AcB a,Bm]
set_option maxRecDepth 100000
set_option maxHeartbeats 6400000
def OcG(B:Nat)(row:Wa)(o:Int×Int×M6)(w:jD)(r:Ending)(w':jD):Prop:=(∃x cx,r=.returned (jL #[T U o.1,T U o.2.1,X x (Y o.2.2) cx])/\jP w' B 9 1 (X x (Y o.2.2) cx) (Y o.2.2) (o.2.2.map Value.string))/\w.grownBy w' row/\Y o.2.2<=1048576/\∀j,j<Y o.2.2->(AB o.2.2 j).size<=maxLen
theorem Fr(h:Ak w w')(row:Wa):w.grownBy w' row:=⟨h.os,h.tape,h.output,h.size,λk a _=>h.block k a⟩
theorem Ab2(a:M3)(n c b g m d:Nat)(e:M3)(q f k:Nat)(ab:k<m)(hm:m<=1048576)(R:Rq)(a1:M3)(l c1:Nat)(a2:M3)(n2 c2:Nat)(F:M3)(G H:Nat)(w:jD)(z:b<jh (Q w))(r:M1)(o s:Int)(aj:o≠3)(i:Nat)(B:Nat)(row:Wa)(I:jE w ⟨b,g+k*4,V⟩=Z (T U o))(s1:jE w ⟨b,g+k*4+1,V⟩=Z (jA r))(s2:jE w ⟨b,g+k*4+2,V⟩=Z (T U i))(J:jE w ⟨b,g+k*4+3,V⟩=Z (T U s))(K:Int)(h1:∀w2,Ak w w2->Calls jZ 77 #[jd a n c,T U i,jL #[jA R.cl,jA R.us,T U R.lv,T U R.nw,jd a1 l c1,jd a2 n2 c2],jd F G H] w2 (BY (.err K) w2)):Calls jZ 33 #[jL #[jd a n c,jd (Z<|jB b g V) m d,jd e q f],T U k,jL #[jA R.cl,jA R.us,T U R.lv,T U R.nw,jd a1 l c1,jd a2 n2 c2],jd F G H] w (OcG B row (3,K,[]) w):=by
 have t:=((Ar w<|jC #[jd a n c,jd (Z<|jB b g V) m d,jd e q f] 27).alloc Oz<|jC #[jA R.cl,jA R.us,T U R.lv,T U R.nw,jd a1 l c1,jd a2 n2 c2] 36).alloc Od<|jC #[T U 0,T U 0,jd V 0 0] 33;have ac:=(t.cell (p:=⟨b,g+k*4,V⟩) z).trans I;have d1:=(t.cell (p:=⟨b,g+k*4+1,V⟩) z).trans s1;have d2:=(t.cell (p:=⟨b,g+k*4+2,V⟩) z).trans s2;have d3:=(t.cell (p:=⟨b,g+k*4+3,V⟩) z).trans J;have L:=t.alloc t.size<|EO o r i s;have D:=(((Ah.new w #[jd a n c,jd (Z<|jB b g V) m d,jd e q f] 27).alloc<|jC #[jA R.cl,jA R.us,T U R.lv,T U R.nw,jd a1 l c1,jd a2 n2 c2] 36).alloc<|jC #[T U 0,T U 0,jd V 0 0] 33).alloc<|EO o r i s;have A:=((Ah.new (jK w<|jC #[jd a n c,jd (Z<|jB b g V) m d,jd e q f] 27) #[jA R.cl,jA R.us,T U R.lv,T U R.nw,jd a1 l c1,jd a2 n2 c2] 36).alloc<|jC #[T U 0,T U 0,jd V 0 0] 33).alloc<|EO o r i s;have u:=(Ah.new (jK (jK w<|jC #[jd a n c,jd (Z<|jB b g V) m d,jd e q f] 27)<|jC #[jA R.cl,jA R.us,T U R.lv,T U R.nw,jd a1 l c1,jd a2 n2 c2] 36) #[T U 0,T U 0,jd V 0 0] 33).alloc<|EO o r i s;have C:=Ah.new (jK (jK (jK w<|jC #[jd a n c,jd (Z<|jB b g V) m d,jd e q f] 27)<|jC #[jA R.cl,jA R.us,T U R.lv,T U R.nw,jd a1 l c1,jd a2 n2 c2] 36)<|jC #[T U 0,T U 0,jd V 0 0] 33) #[T U o,jA r,T U i,T U s] 97;simp only[K6]at A u C;have ad:(k:Int)<(m:Int):=Oa;have M:=Ab h1;clear I s1 s2 J h1;go_enter func33,ntmps33;go_wp2_with fail;generalize (jK (jK (jK (jK w (jC #[jd a n c,jd (Z (jB b g V)) m d,jd e q f] 27)) (jC #[jA R.cl,jA R.us,T U R.lv,T U R.nw,jd a1 l c1,jd a2 n2 c2] 36)) (jC #[T U 0,T U 0,jd V 0 0] 33)) (EO o r i s))=X at*;have x:=Ab L;have ak:=Ab<|show jh (Q w)+1+1+1<X.heap.size from C.lt;clear t L ac d1 d2 d3 z ad ab hm;refine(Aa M _<|Aa x).mono ?_;rintro al N ⟨⟨cd,nm,O,P,S,W,rfl,rfl,ao⟩,E⟩;have aa:=Ar N<|jC #[T U cd,T U nm,jA O,jd P S W] 146;have y:=E.trans<|aa.mono E.size;have ae:=Ah.new N #[T U cd,T U nm,jA O,jd P S W] 146;replace D:=D.aB y NLN;replace A:=A.aB y NLN;replace u:=u.aB y NLN;replace C:=C.aB y NLN;replace x:=Ab<|(Aa x).trans<|y.mono (Aa x).size;clear E aa y M;obtain⟨ap,aq,x2,x3⟩:=Aq ae;obtain⟨ar,au,o2⟩:=Bv u;have of:=λj=>u.frozen j;obtain⟨af,ag,ah⟩:=Bv<|((u.set 0<|T U 3).set 1<|T U cd).set 2<|jd V 0 0;have ai:=Ab<|(((Aa x).setCell (p:=⟨jh (Q w)+1+1,0,V⟩) Od<|T U 3).setCell (p:=⟨jh (Q w)+1+1,1,V⟩) Od<|T U cd).setCell (p:=⟨jh (Q w)+1+1,2,V⟩) Od<|jd V 0 0;clear D A u x;try dsimp only
 go_wp2;exact K8 (v:=jL #[T U 3,T U cd,jd V 0 0]) (by simp[results,results33,go_sem,af,ag,ah]) rfl ⟨⟨V,0,rfl,G8⟩,Fr (Aa ai) _,zH _,λj h=>K4 h<|Z5 _⟩
theorem Tc(a:M3)(n c b g m d:Nat)(e:M3)(l f k:Nat)(G:k<m)(hm:m<=1048576)(R:Rq)(a1:M3)(o c1:Nat)(a2:M3)(n2 c2:Nat)(A:M3)(C D:Nat)(w:jD)(s:b<jh (Q w))(q:M1)(r:Int)(B:Nat)(row:Wa)(u:jE w ⟨b,g+k*4,V⟩=Z (T U 3))(s1:jE w ⟨b,g+k*4+1,V⟩=Z (jA q))(s2:jE w ⟨b,g+k*4+2,V⟩=Z (T U r))(x:jE w ⟨b,g+k*4+3,V⟩=Z (T U<|-1)):Calls jZ 33 #[jL #[X a n c,X (Z<|jB b g V) m d,X e l f],T U k,jL #[jA R.cl,jA R.us,T U R.lv,T U R.nw,X a1 o c1,X a2 n2 c2],X A C D] w (OcG B row (1,0,[]) w):=by have i:=((Ar w<|jC #[X a n c,X (Z<|jB b g V) m d,X e l f] 27).alloc Oz<|jC #[jA R.cl,jA R.us,T U R.lv,T U R.nw,X a1 o c1,X a2 n2 c2] 36).alloc Od<|jC #[T U 0,T U 0,X V 0 0] 33;have H:=(i.cell (p:=⟨b,g+k*4,V⟩) s).trans u;have d1:=(i.cell (p:=⟨b,g+k*4+1,V⟩) s).trans s1;have d2:=(i.cell (p:=⟨b,g+k*4+2,V⟩) s).trans s2;have d3:=(i.cell (p:=⟨b,g+k*4+3,V⟩) s).trans x;have E:=i.alloc i.size<|jC #[T U 3,jA q,T U r,T U<|-1] 97;have F:=(((Ah.new w #[X a n c,X (Z<|jB b g V) m d,X e l f] 27).alloc<|jC #[jA R.cl,jA R.us,T U R.lv,T U R.nw,X a1 o c1,X a2 n2 c2] 36).alloc<|jC #[T U 0,T U 0,X V 0 0] 33).alloc<|jC #[T U 3,jA q,T U r,T U<|-1] 97;have y:=((Ah.new (jK w<|jC #[X a n c,X (Z<|jB b g V) m d,X e l f] 27) #[jA R.cl,jA R.us,T U R.lv,T U R.nw,X a1 o c1,X a2 n2 c2] 36).alloc<|jC #[T U 0,T U 0,X V 0 0] 33).alloc<|jC #[T U 3,jA q,T U r,T U<|-1] 97;have t:=(Ah.new (jK (jK w<|jC #[X a n c,X (Z<|jB b g V) m d,X e l f] 27)<|jC #[jA R.cl,jA R.us,T U R.lv,T U R.nw,X a1 o c1,X a2 n2 c2] 36) #[T U 0,T U 0,X V 0 0] 33).alloc<|jC #[T U 3,jA q,T U r,T U<|-1] 97;have z:=Ah.new (jK (jK (jK w<|jC #[X a n c,X (Z<|jB b g V) m d,X e l f] 27)<|jC #[jA R.cl,jA R.us,T U R.lv,T U R.nw,X a1 o c1,X a2 n2 c2] 36)<|jC #[T U 0,T U 0,X V 0 0] 33) #[T U 3,jA q,T U r,T U<|-1] 97;simp only[K6]at y t z;have I:(k:Int)<(m:Int):=Oa;clear u s1 s2 x;obtain⟨J,K,o2⟩:=Bv t;have of:=λj=>t.frozen j;clear F y t z i E;go_enter func33,ntmps33;go_wp2;exact K8 (v:=jL #[T U 1,T U 0,X V 0 0]) (by simp[results,results33,go_sem]) rfl ⟨⟨V,0,rfl,G8⟩,Fr ((((Ar w _).alloc Oz _).alloc Od _).alloc Od _) _,zH _,λj h=>K4 h<|Z5 _⟩
theorem Td(a:M3)(n c b g m d:Nat)(e:M3)(o f k:Nat)(W:k<m)(hm:m<=1048576)(R:Rq)(a1:M3)(l c1:Nat)(a2:M3)(n2 c2:Nat)(E:M3)(F G:Nat)(w:jD)(y:b<jh (Q w))(q:M1)(B:Nat)(row:Wa)(i:Nat)(H:jE w ⟨b,g+k*4,V⟩=Z (T U 2))(s1:jE w ⟨b,g+k*4+1,V⟩=Z (jA q))(s2:jE w ⟨b,g+k*4+2,V⟩=Z (T U i))(I:jE w ⟨b,g+k*4+3,V⟩=Z (T U<|-1))(h1:∀w2,Ak w w2->Calls jZ 77 #[jd a n c,T U i,jL #[jA R.cl,jA R.us,T U R.lv,T U R.nw,jd a1 l c1,jd a2 n2 c2],jd E F G] w2 (BY (.ok<|.bool jG) w2)):Calls jZ 33 #[jL #[jd a n c,jd (Z<|jB b g V) m d,jd e o f],T U k,jL #[jA R.cl,jA R.us,T U R.lv,T U R.nw,jd a1 l c1,jd a2 n2 c2],jd E F G] w (OcG B row (1,0,[]) w):=by
 have r:=((Ar w<|jC #[jd a n c,jd (Z<|jB b g V) m d,jd e o f] 27).alloc Oz<|jC #[jA R.cl,jA R.us,T U R.lv,T U R.nw,jd a1 l c1,jd a2 n2 c2] 36).alloc Od<|jC #[T U 0,T U 0,jd V 0 0] 33;have aa:=(r.cell (p:=⟨b,g+k*4,V⟩) y).trans H;have d1:=(r.cell (p:=⟨b,g+k*4+1,V⟩) y).trans s1;have d2:=(r.cell (p:=⟨b,g+k*4+2,V⟩) y).trans s2;have d3:=(r.cell (p:=⟨b,g+k*4+3,V⟩) y).trans I;have J:=r.alloc r.size<|jC #[T U 2,jA q,T U i,T U<|-1] 97;have A:=(((Ah.new w #[jd a n c,jd (Z<|jB b g V) m d,jd e o f] 27).alloc<|jC #[jA R.cl,jA R.us,T U R.lv,T U R.nw,jd a1 l c1,jd a2 n2 c2] 36).alloc<|jC #[T U 0,T U 0,jd V 0 0] 33).alloc<|jC #[T U 2,jA q,T U i,T U<|-1] 97;have z:=((Ah.new (jK w<|jC #[jd a n c,jd (Z<|jB b g V) m d,jd e o f] 27) #[jA R.cl,jA R.us,T U R.lv,T U R.nw,jd a1 l c1,jd a2 n2 c2] 36).alloc<|jC #[T U 0,T U 0,jd V 0 0] 33).alloc<|jC #[T U 2,jA q,T U i,T U<|-1] 97;have s:=(Ah.new (jK (jK w<|jC #[jd a n c,jd (Z<|jB b g V) m d,jd e o f] 27)<|jC #[jA R.cl,jA R.us,T U R.lv,T U R.nw,jd a1 l c1,jd a2 n2 c2] 36) #[T U 0,T U 0,jd V 0 0] 33).alloc<|jC #[T U 2,jA q,T U i,T U<|-1] 97;have t:=Ah.new (jK (jK (jK w<|jC #[jd a n c,jd (Z<|jB b g V) m d,jd e o f] 27)<|jC #[jA R.cl,jA R.us,T U R.lv,T U R.nw,jd a1 l c1,jd a2 n2 c2] 36)<|jC #[T U 0,T U 0,jd V 0 0] 33) #[T U 2,jA q,T U i,T U<|-1] 97;simp only[K6]at z s t;have ab:(k:Int)<(m:Int):=Oa;have K:=Ab h1;clear H s1 s2 I h1;go_enter func33,ntmps33;go_wp2_with fail;generalize (jK (jK (jK (jK w (jC #[jd a n c,jd (Z (jB b g V)) m d,jd e o f] 27)) (jC #[jA R.cl,jA R.us,T U R.lv,T U R.nw,jd a1 l c1,jd a2 n2 c2] 36)) (jC #[T U 0,T U 0,jd V 0 0] 33)) (jC #[T U 2,jA q,T U i,T U (-1)] 97))=X at*;have u:=Ab J;have ao:=Ab<|show jh (Q w)+1+1+1<X.heap.size from t.lt;clear r J aa d1 d2 d3 y ab W hm;refine(Aa K _<|Aa u).mono ?_;rintro ap L ⟨⟨_,nm,M,N,O,P,rfl,rfl,S⟩,C⟩;have D:=Ar L<|jC #[T U 0,T U nm,jA M,jd N O P] 146;have x:=C.trans<|D.mono C.size;have ac:=Ah.new L #[T U 0,T U nm,jA M,jd N O P] 146;have ad:=Ab<|S.below D NLN;clear S;replace A:=A.aB x NLN;replace z:=z.aB x NLN;replace s:=s.aB x NLN;replace t:=t.aB x NLN;replace u:=Ab<|(Aa u).trans<|x.mono (Aa u).size;clear C D x K;obtain rfl:nm=1:=(Aa ad).1;obtain⟨aq,ar,x2,x3⟩:=Aq ac;obtain⟨ae,af,ag,ah⟩:=Aq t;dsimp only;obtain⟨ae,af,ag,ah⟩:=Aq t;obtain⟨au,av,o2⟩:=Bv s;have of:=λj=>s.frozen j;obtain⟨ai,aj,ak⟩:=Bv<|((s.set 0<|T U 1).set 1<|T U 0).set 2<|jd V 0 0;have al:=Ab<|(((Aa u).setCell (p:=⟨jh (Q w)+1+1,0,V⟩) Od<|T U 1).setCell (p:=⟨jh (Q w)+1+1,1,V⟩) Od<|T U 0).setCell (p:=⟨jh (Q w)+1+1,2,V⟩) Od<|jd V 0 0;clear A z s u;try dsimp only
 go_wp2;exact K8 (v:=jL #[T U 1,T U 0,jd V 0 0]) (by simp[results,results33,go_sem,ai,aj,ak]) rfl ⟨⟨V,0,rfl,G8⟩,Fr (Aa al) _,zH _,λj h=>K4 h<|Z5 _⟩
theorem Te(a:M3)(n c b g m d:Nat)(e:M3)(l f k:Nat)(aa:k<m)(hm:m<=1048576)(R:Rq)(a1:M3)(i c1:Nat)(a2:M3)(n2 c2:Nat)(D:M3)(E F:Nat)(w:jD)(x:b<jh (Q w))(o:M1)(q:Int)(B:Nat)(row:Wa)(j:Nat)(G:jE w ⟨b,g+k*4,V⟩=Z (T U 3))(s1:jE w ⟨b,g+k*4+1,V⟩=Z (jA o))(s2:jE w ⟨b,g+k*4+2,V⟩=Z (T U q))(H:jE w ⟨b,g+k*4+3,V⟩=Z (T U j))(I:Int)(h2:∀w2,Ak w w2->Calls jZ 77 #[jd a n c,T U j,jL #[jA R.cl,jA R.us,T U R.lv,T U R.nw,jd a1 i c1,jd a2 n2 c2],jd D E F] w2 (BY (.err I) w2)):Calls jZ 33 #[jL #[jd a n c,jd (Z<|jB b g V) m d,jd e l f],T U k,jL #[jA R.cl,jA R.us,T U R.lv,T U R.nw,jd a1 i c1,jd a2 n2 c2],jd D E F] w (OcG B row (3,I,[]) w):=by
 have r:=((Ar w<|jC #[jd a n c,jd (Z<|jB b g V) m d,jd e l f] 27).alloc Oz<|jC #[jA R.cl,jA R.us,T U R.lv,T U R.nw,jd a1 i c1,jd a2 n2 c2] 36).alloc Od<|jC #[T U 0,T U 0,jd V 0 0] 33;have ab:=(r.cell (p:=⟨b,g+k*4,V⟩) x).trans G;have d1:=(r.cell (p:=⟨b,g+k*4+1,V⟩) x).trans s1;have d2:=(r.cell (p:=⟨b,g+k*4+2,V⟩) x).trans s2;have d3:=(r.cell (p:=⟨b,g+k*4+3,V⟩) x).trans H;have J:=r.alloc r.size<|EO 3 o q j;have A:=(((Ah.new w #[jd a n c,jd (Z<|jB b g V) m d,jd e l f] 27).alloc<|jC #[jA R.cl,jA R.us,T U R.lv,T U R.nw,jd a1 i c1,jd a2 n2 c2] 36).alloc<|jC #[T U 0,T U 0,jd V 0 0] 33).alloc<|EO 3 o q j;have y:=((Ah.new (jK w<|jC #[jd a n c,jd (Z<|jB b g V) m d,jd e l f] 27) #[jA R.cl,jA R.us,T U R.lv,T U R.nw,jd a1 i c1,jd a2 n2 c2] 36).alloc<|jC #[T U 0,T U 0,jd V 0 0] 33).alloc<|EO 3 o q j;have s:=(Ah.new (jK (jK w<|jC #[jd a n c,jd (Z<|jB b g V) m d,jd e l f] 27)<|jC #[jA R.cl,jA R.us,T U R.lv,T U R.nw,jd a1 i c1,jd a2 n2 c2] 36) #[T U 0,T U 0,jd V 0 0] 33).alloc<|EO 3 o q j;have z:=Ah.new (jK (jK (jK w<|jC #[jd a n c,jd (Z<|jB b g V) m d,jd e l f] 27)<|jC #[jA R.cl,jA R.us,T U R.lv,T U R.nw,jd a1 i c1,jd a2 n2 c2] 36)<|jC #[T U 0,T U 0,jd V 0 0] 33) #[T U 3,jA o,T U q,T U j] 97;simp only[K6]at y s z;have ac:(k:Int)<(m:Int):=Oa;have K:=Ab h2;clear G s1 s2 H h2;go_enter func33,ntmps33;go_wp2_with fail;generalize (jK (jK (jK (jK w (jC #[jd a n c,jd (Z (jB b g V)) m d,jd e l f] 27)) (jC #[jA R.cl,jA R.us,T U R.lv,T U R.nw,jd a1 i c1,jd a2 n2 c2] 36)) (jC #[T U 0,T U 0,jd V 0 0] 33)) (EO 3 o q j))=X at*;have t:=Ab J;have ai:=Ab<|show jh (Q w)+1+1+1<X.heap.size from z.lt;clear r J ab d1 d2 d3 x ac aa hm;obtain⟨aj,ak,al,ao⟩:=Aq z;obtain⟨m0,ap,aq⟩:=Bv A;obtain⟨ar,au,r2,r3,av,aw⟩:=Jv y;have ax:¬ ((j:Int)<0):=Oa;go_wp2_with fail;refine(Aa K _<|Aa t).mono ?_;rintro ay L ⟨⟨cd,M,N,O,P,S,rfl,rfl,az⟩,C⟩;have W:=Ar L<|jC #[T U cd,T U M,jA N,jd O P S] 146;have u:=C.trans<|W.mono C.size;have ad:=Ah.new L #[T U cd,T U M,jA N,jd O P S] 146;replace A:=A.aB u NLN;replace y:=y.aB u NLN;replace s:=s.aB u NLN;replace z:=z.aB u NLN;replace t:=Ab<|(Aa t).trans<|u.mono (Aa t).size;clear C W u K;obtain⟨aA,aC,x2,x3⟩:=Aq ad;obtain⟨aD,aE,o2⟩:=Bv s;have of:=λj=>s.frozen j;obtain⟨ae,af,ag⟩:=Bv<|((s.set 0<|T U 3).set 1<|T U cd).set 2<|jd V 0 0;have ah:=Ab<|(((Aa t).setCell (p:=⟨jh (Q w)+1+1,0,V⟩) Od<|T U 3).setCell (p:=⟨jh (Q w)+1+1,1,V⟩) Od<|T U cd).setCell (p:=⟨jh (Q w)+1+1,2,V⟩) Od<|jd V 0 0;clear A y s t;try dsimp only
 go_wp2;exact K8 (v:=jL #[T U 3,T U cd,jd V 0 0]) (by simp[results,results33,go_sem,ae,af,ag]) rfl ⟨⟨V,0,rfl,G8⟩,Fr (Aa ah) _,zH _,λj h=>K4 h<|Z5 _⟩
theorem Tf(a:M3)(n c b g m d:Nat)(e:M3)(t f k:Nat)(ah:k<m)(hm:m<=1048576)(R:Rq)(a1:M3)(q c1:Nat)(a2:M3)(n2 c2:Nat)(E:M3)(F G:Nat)(w:jD)(D:b<jh (Q w))(u:M1)(B:Nat)(row:Wa)(j:Nat)(i:Nat)(H:jE w ⟨b,g+k*4,V⟩=Z (T U 2))(s1:jE w ⟨b,g+k*4+1,V⟩=Z (jA u))(s2:jE w ⟨b,g+k*4+2,V⟩=Z (T U i))(I:jE w ⟨b,g+k*4+3,V⟩=Z (T U j))(J:Int)(h2:∀w2,Ak w w2->Calls jZ 77 #[jd a n c,T U j,jL #[jA R.cl,jA R.us,T U R.lv,T U R.nw,jd a1 q c1,jd a2 n2 c2],jd E F G] w2 (BY (.err J) w2))(h1:∀w2,Ak w w2->Calls jZ 77 #[jd a n c,T U i,jL #[jA R.cl,jA R.us,T U R.lv,T U R.nw,jd a1 q c1,jd a2 n2 c2],jd E F G] w2 (BY (.ok<|.bool jG) w2)):Calls jZ 33 #[jL #[jd a n c,jd (Z<|jB b g V) m d,jd e t f],T U k,jL #[jA R.cl,jA R.us,T U R.lv,T U R.nw,jd a1 q c1,jd a2 n2 c2],jd E F G] w (OcG B row (3,J,[]) w):=by
 have x:=((Ar w<|jC #[jd a n c,jd (Z<|jB b g V) m d,jd e t f] 27).alloc Oz<|jC #[jA R.cl,jA R.us,T U R.lv,T U R.nw,jd a1 q c1,jd a2 n2 c2] 36).alloc Od<|jC #[T U 0,T U 0,jd V 0 0] 33;have ai:=(x.cell (p:=⟨b,g+k*4,V⟩) D).trans H;have d1:=(x.cell (p:=⟨b,g+k*4+1,V⟩) D).trans s1;have d2:=(x.cell (p:=⟨b,g+k*4+2,V⟩) D).trans s2;have d3:=(x.cell (p:=⟨b,g+k*4+3,V⟩) D).trans I;have K:=x.alloc x.size<|EO 2 u i j;have A:=(((Ah.new w #[jd a n c,jd (Z<|jB b g V) m d,jd e t f] 27).alloc<|jC #[jA R.cl,jA R.us,T U R.lv,T U R.nw,jd a1 q c1,jd a2 n2 c2] 36).alloc<|jC #[T U 0,T U 0,jd V 0 0] 33).alloc<|EO 2 u i j;have y:=((Ah.new (jK w<|jC #[jd a n c,jd (Z<|jB b g V) m d,jd e t f] 27) #[jA R.cl,jA R.us,T U R.lv,T U R.nw,jd a1 q c1,jd a2 n2 c2] 36).alloc<|jC #[T U 0,T U 0,jd V 0 0] 33).alloc<|EO 2 u i j;have r:=(Ah.new (jK (jK w<|jC #[jd a n c,jd (Z<|jB b g V) m d,jd e t f] 27)<|jC #[jA R.cl,jA R.us,T U R.lv,T U R.nw,jd a1 q c1,jd a2 n2 c2] 36) #[T U 0,T U 0,jd V 0 0] 33).alloc<|EO 2 u i j;have s:=Ah.new (jK (jK (jK w<|jC #[jd a n c,jd (Z<|jB b g V) m d,jd e t f] 27)<|jC #[jA R.cl,jA R.us,T U R.lv,T U R.nw,jd a1 q c1,jd a2 n2 c2] 36)<|jC #[T U 0,T U 0,jd V 0 0] 33) #[T U 2,jA u,T U i,T U j] 97;simp only[K6]at y r s;have aj:(k:Int)<(m:Int):=Oa;have L:=Ab h2;have M:=Ab h1;clear H s1 s2 I h2 h1;go_enter func33,ntmps33;go_wp2_with fail;generalize (jK (jK (jK (jK w (jC #[jd a n c,jd (Z (jB b g V)) m d,jd e t f] 27)) (jC #[jA R.cl,jA R.us,T U R.lv,T U R.nw,jd a1 q c1,jd a2 n2 c2] 36)) (jC #[T U 0,T U 0,jd V 0 0] 33)) (EO 2 u i j))=X at*;have o:=Ab K;have ay:=Ab<|show jh (Q w)+1+1+1<X.heap.size from s.lt;clear x K ai d1 d2 d3 D aj ah hm;refine(Aa M _<|Aa o).mono ?_;rintro ak N ⟨⟨_,nm,O,P,S,W,rfl,rfl,aa⟩,z⟩;have C:=Ar N<|jC #[T U 0,T U nm,jA O,jd P S W] 146;have l:=z.trans<|C.mono z.size;have al:=Ah.new N #[T U 0,T U nm,jA O,jd P S W] 146;have ao:=Ab<|aa.below C NLN;clear aa;replace A:=A.aB l NLN;replace y:=y.aB l NLN;replace r:=r.aB l NLN;replace s:=s.aB l NLN;replace o:=Ab<|(Aa o).trans<|l.mono (Aa o).size;clear z C l M;obtain rfl:nm=1:=(Aa ao).1;obtain⟨ap,aq,x2,x3⟩:=Aq al;obtain⟨az,aA,aC,aD⟩:=Aq s;dsimp only;obtain⟨aE,aF,aG,aH⟩:=Aq s;obtain⟨m0,aI,aJ⟩:=Bv A;obtain⟨aK,aL,r2,r3,aM,aN⟩:=Jv y;have aO:¬ ((j:Int)<0):=Oa;go_wp2_with fail;refine(Aa L _<|Aa o).mono ?_;rintro ak ab ⟨⟨cd,ac,ad,ae,af,ag,rfl,rfl,aP⟩,z⟩;have C:=Ar ab<|jC #[T U cd,T U ac,jA ad,jd ae af ag] 146;have l:=z.trans<|C.mono z.size;have ar:=Ah.new ab #[T U cd,T U ac,jA ad,jd ae af ag] 146;replace A:=A.aB l NLN;replace y:=y.aB l NLN;replace r:=r.aB l NLN;replace s:=s.aB l NLN;replace o:=Ab<|(Aa o).trans<|l.mono (Aa o).size;clear z C l L;obtain⟨ap,aq,x2,x3⟩:=Aq ar;obtain⟨aQ,aR,o2⟩:=Bv r;have of:=λj=>r.frozen j;obtain⟨au,av,aw⟩:=Bv<|((r.set 0<|T U 3).set 1<|T U cd).set 2<|jd V 0 0;have ax:=Ab<|(((Aa o).setCell (p:=⟨jh (Q w)+1+1,0,V⟩) Od<|T U 3).setCell (p:=⟨jh (Q w)+1+1,1,V⟩) Od<|T U cd).setCell (p:=⟨jh (Q w)+1+1,2,V⟩) Od<|jd V 0 0;clear A y r o;try dsimp only
 go_wp2;exact K8 (v:=jL #[T U 3,T U cd,jd V 0 0]) (by simp[results,results33,go_sem,au,av,aw]) rfl ⟨⟨V,0,rfl,G8⟩,Fr (Aa ax) _,zH _,λj h=>K4 h<|Z5 _⟩
theorem AfB{k:Nat}(h:k<=1048576):IntKind.i64.wrap ((k:Int)+1)=(k:Int)+1:=by simp[IntKind.wrap,IntKind.bits,IntKind.signed];omega
theorem Amu:(jZ.info? 146).map (λi=>(i.zero,i.size,i.bytes))=Z (Z<|jL #[T U 0,T U 0,jA ByteArray.empty,X V 0 0],4,56):=Ok
theorem Ab3{base:Nat}{e:TypeId}{size:Nat}{v:Value}{n:Nat}{a:List Value}(h:jP w base e size v n a)(b:Ak w w'):jP w' base e size v n a:=h.kept (Fr b V) (by cases jO v<;>simp)
theorem Adw{a b c:jD}{g7:Nat}(h1:Ak w a)(h2:a.grownBy b row)(h3:b.grownBy c<|Z g7)(hat:row=Z g7\/g7=R (Q a)):w.grownBy c row:=⟨h3.os.trans<|h2.os.trans h1.os,h3.tape.trans<|h2.tape.trans h1.tape,h3.output.trans<|h2.output.trans h1.output,zB h1.size<|zB h2.size h3.size,λk d f=>by
  have g:k<R (Q a):=zG d h1.size;have a3:=h3.block k (zG g h2.size) (λe=>by
   cases e;obtain q|q:=hat
   .exact f q.symm
   omega);exact a3.trans<|(h2.block k g f).trans<|h1.block k d⟩
theorem Aal{a b:jD}(h1:Ak w a)(h3:a.grownBy b row):w.grownBy b row:=⟨h3.os.trans h1.os,h3.tape.trans h1.tape,h3.output.trans h1.output,zB h1.size h3.size,λk c d=>(h3.block k (zG c h1.size) d).trans<|h1.block k c⟩
theorem F6{a:jD}(h:w.grownBy a row){p:jH}(d:R (Q w)<=Addr.block p)(u:Value):w.grownBy (World.setCell a p u) row:=⟨h.os,h.tape,h.output,by simpa using h.size,λk b c=>(L2 a p k u Oa).trans<|h.block k b c⟩
theorem Xr(a:M3)(n c b g m d:Nat)(e:M3)(o f k:Nat)(ao:k<m)(hm:m<=1048576)(R:Rq)(a1:M3)(l c1:Nat)(a2:M3)(n2 c2:Nat)(y:M3)(z A:Nat)(w:jD)(H:b<jh (Q w))(r:M1)(s:Int)(i:Nat)(B:Nat)(W:jE w ⟨b,g+k*4,V⟩=Z (T U 2))(s1:jE w ⟨b,g+k*4+1,V⟩=Z (jA r))(s2:jE w ⟨b,g+k*4+2,V⟩=Z (T U i))(aa:jE w ⟨b,g+k*4+3,V⟩=Z (T U s))(ab:∀q,jO (Value.slice y z A)=Z q->q<jh (Q w))(C D:Int)(ss:M6)(h1:∀w2,Ak w w2->Calls jZ 77 #[jd a n c,T U i,jL #[jA R.cl,jA R.us,T U R.lv,T U R.nw,jd a1 l c1,jd a2 n2 c2],jd y z A] w2 (BY (.ok<|.bool jI) w2))(h2:∀w2,Ak w w2->Calls jZ 33 #[jL #[jd a n c,jd (Z<|jB b g V) m d,jd e o f],T U<|(k:Int)+1,jL #[jA R.cl,jA R.us,T U R.lv,T U R.nw,jd a1 l c1,jd a2 n2 c2],jd y z A] w2 (OcG B (jO<|Value.slice y z A) (C,D,ss) w2)):Calls jZ 33 #[jL #[jd a n c,jd (Z<|jB b g V) m d,jd e o f],T U k,jL #[jA R.cl,jA R.us,T U R.lv,T U R.nw,jd a1 l c1,jd a2 n2 c2],jd y z A] w (OcG B (jO<|Value.slice y z A) (C,D,ss) w):=by have t:=((Ar w<|jC #[jd a n c,jd (Z<|jB b g V) m d,jd e o f] 27).alloc Oz<|jC #[jA R.cl,jA R.us,T U R.lv,T U R.nw,jd a1 l c1,jd a2 n2 c2] 36).alloc Od<|jC #[T U 0,T U 0,jd V 0 0] 33;have ap:=(t.cell (p:=⟨b,g+k*4,V⟩) H).trans W;have d1:=(t.cell (p:=⟨b,g+k*4+1,V⟩) H).trans s1;have d2:=(t.cell (p:=⟨b,g+k*4+2,V⟩) H).trans s2;have d3:=(t.cell (p:=⟨b,g+k*4+3,V⟩) H).trans aa;have ac:=t.alloc t.size<|EO 2 r i s;have L:=(((Ah.new w #[jd a n c,jd (Z<|jB b g V) m d,jd e o f] 27).alloc<|jC #[jA R.cl,jA R.us,T U R.lv,T U R.nw,jd a1 l c1,jd a2 n2 c2] 36).alloc<|jC #[T U 0,T U 0,jd V 0 0] 33).alloc<|EO 2 r i s;have I:=((Ah.new (jK w<|jC #[jd a n c,jd (Z<|jB b g V) m d,jd e o f] 27) #[jA R.cl,jA R.us,T U R.lv,T U R.nw,jd a1 l c1,jd a2 n2 c2] 36).alloc<|jC #[T U 0,T U 0,jd V 0 0] 33).alloc<|EO 2 r i s;have J:=(Ah.new (jK (jK w<|jC #[jd a n c,jd (Z<|jB b g V) m d,jd e o f] 27)<|jC #[jA R.cl,jA R.us,T U R.lv,T U R.nw,jd a1 l c1,jd a2 n2 c2] 36) #[T U 0,T U 0,jd V 0 0] 33).alloc<|EO 2 r i s;have E:=Ah.new (jK (jK (jK w<|jC #[jd a n c,jd (Z<|jB b g V) m d,jd e o f] 27)<|jC #[jA R.cl,jA R.us,T U R.lv,T U R.nw,jd a1 l c1,jd a2 n2 c2] 36)<|jC #[T U 0,T U 0,jd V 0 0] 33) #[T U 2,jA r,T U i,T U s] 97;simp only[K6]at I J E;have aq:(k:Int)<(m:Int):=Oa;have ad:=Ab h1;have ar:=Ab h2;have aR:IntKind.i64.wrap ((k:Int)+1)=(k:Int)+1:=AfB Oa;have au:=Ab ab;clear W s1 s2 aa h1 h2 ab;go_enter func33,ntmps33;go_wp2_with fail;generalize (jK (jK (jK (jK w (jC #[jd a n c,jd (Z (jB b g V)) m d,jd e o f] 27)) (jC #[jA R.cl,jA R.us,T U R.lv,T U R.nw,jd a1 l c1,jd a2 n2 c2] 36)) (jC #[T U 0,T U 0,jd V 0 0] 33)) (EO 2 r i s))=X at*;have u:=Ab ac;have aS:=Ab<|show jh (Q w)+1+1+1<X.heap.size from E.lt;clear t ac ap d1 d2 d3 H aq ao hm;refine(Aa ad _<|Aa u).mono ?_;rintro av ae ⟨⟨_,nm,af,ag,ah,ai,rfl,rfl,aj⟩,N⟩;have O:=Ar ae<|jC #[T U 0,T U nm,jA af,jd ag ah ai] 146;have F:=N.trans<|O.mono N.size;have aw:=Ah.new ae #[T U 0,T U nm,jA af,jd ag ah ai] 146;have ax:=Ab<|aj.below O NLN;clear aj;replace L:=L.aB F NLN;replace I:=I.aB F NLN;replace J:=J.aB F NLN;replace E:=E.aB F NLN;replace u:=Ab<|(Aa u).trans<|F.mono (Aa u).size;clear N O F ad;obtain rfl:nm=0:=(Aa ax).1;obtain⟨ay,az,x2,x3⟩:=Aq aw;obtain⟨aA,aC,aD,aE⟩:=Aq E;obtain⟨m0,aF,aG⟩:=Bv L;obtain⟨aH,aI,r2,r3,aJ,aK⟩:=Jv I;dsimp only;go_wp2_with fail;refine(Aa ar _<|Aa u).mono ?_;rintro av aT ⟨⟨x,G,rfl,P⟩,S,ak⟩;have aL:=Ab ak;clear ak;have K:=J.grown S λh=>G7<|Aa au _ h.symm;have al:=Aal (Aa u) S;clear L I J E u S ay az x2 x3 aA aC aD aE m0 aF aG aH aI r2 r3 aJ aK;obtain⟨aU,aV,o2⟩:=Bv K;have of:=λj=>K.frozen j;obtain⟨aM,aN,aO⟩:=Bv<|((K.set 0<|T U C).set 1<|T U D).set 2<|jd x (Y ss) G;have aP:=Ab<|F6 (F6 (F6 al (p:=⟨jh (Q w)+1+1,0,V⟩) Od<|T U C) (p:=⟨jh (Q w)+1+1,1,V⟩) Od<|T U D) (p:=⟨jh (Q w)+1+1,2,V⟩) Od<|jd x (Y ss) G;have M:∀q,jO (Value.slice x (Y ss) G)=Z q->q≠jh (Q w)+1+1:=λq hq h=>Ad K P Ob (by rw[hq,h]);have aQ:=Ab<|Ag (Ag (Ag P ⟨jh (Q w)+1+1,0,V⟩ (T U C) M) ⟨jh (Q w)+1+1,1,V⟩ (T U D) M) ⟨jh (Q w)+1+1,2,V⟩ (jd x (Y ss) G) M;clear K P al M;dsimp only;go_wp2;exact K8 (v:=jL #[T U C,T U D,jd x (Y ss) G]) (by simp[results,results33,go_sem,aM,aN,aO]) rfl ⟨⟨x,G,rfl,Aa aQ⟩,Aa aP,Aa aL⟩
end Go.Proofs.YtlcfoihgfcmfeaaGreatDoor
