import Derived.Test.YtlcfoihgfcmfeaaGreatDoorMXAX
import Derived.Test.YtlcfoihgfcmfeaaGreatDoorMXAJ
open Option renaming none->V,some->Z
open List renaming length->Y
open Go renaming World->jD,Value->jF,TypeId->jR
open Bool renaming true->jG,false->jI
namespace Go.Proofs.YtlcfoihgfcmfeaaGreatDoor
open Proofs.Tryz
open Value renaming int->T,slice->X,string->jA,iface->jJ,tuple->jS,nilIface->jT
open Proofs.Tryz renaming prog->jZ
open Go.RowKit
set_option linter.unusedVariables false
set_option maxRecDepth 100000
set_option maxHeartbeats 1600000
variable{op a b t:Int}{ts:M4}
inductive Vv where|bool(b:Bool)|int(n:Int)|text(s:ByteArray)|set(ss:List ByteArray)
abbrev N6:=List Vv
def Vv.ty:Vv->Int|.bool _=>1|.int _=>2|.text _=>3|.set _=>4
inductive Ev where|ok(v:Vv)|err(c:Int)
structure Rq where
 cl:M1
 us:M1
 lv:Int
 nw:Int
 s1:M6
 s2:M6
open Classical in noncomputable def Fz(ss tt:M6):M6×Int:=if h:∃p:M6×Int,Aw ss tt p.1 p.2 then Classical.choose h else ([],4)
theorem KG{ss tt K:M6}{c:Int}(h:Aw ss tt K c):Fz ss tt=(K,c):=by have hx:∃p:M6×Int,Aw ss tt p.1 p.2:=⟨(K,c),h⟩;grind[Fz,Aw.aM]
def BJ(p:Int×Int):Ev:=if p.2=0 then .ok (.int p.1)else .err p.2
def DP(p:M6×Int):Ev:=if p.2=0 then .ok (.set p.1)else .err p.2
def Ie(op:Int)(v:Vv):Ev:=match v with|.int n=>if op=8 then BJ (AW 2 0 n)else .err 4|.bool b=>if op=9 then .ok (.bool<|!b)else .err 4|.set ss=>if op=10 then .ok (.int<|Y ss)else .err 4|.text _=>.err 4
open Classical in noncomputable def CJ(v u:Vv):Bool:=decide (v=u)
open Classical in noncomputable def BI(op:Int)(v u:Vv):Ev:=if op=19 then .ok (.bool<|CJ v u)else if op=20 then .ok (.bool<|!CJ v u)else match v,u with|.text s,.set ss=>if op=23 then .ok (.bool<|decide (s∈ss))else .err 4|.set ss,.set tt=>if op=16 then DP (Fz ss tt)else if op=17 then .ok (.set<|Bq ss tt)else if op=18 then .ok (.set<|AP ss tt)else if op=24 then .ok (.bool<|Cy ss tt)else .err 4|.int a,.int b=>if op=21 then .ok (.bool<|decide (a<b))else if op=22 then .ok (.bool<|decide (a<=b))else if 11<=op/\op<=15 then BJ (AW (op-10) a b)else .err 4|_,_=>.err 4
def GJ(op:Int)(v:Vv):Bool:=match v with|.bool b=>if op=25 then !b else if op=26 then b else jI|_=>jI
def Qb(R:Rq)(n:Int):Vv:=if n<2 then (if n=1 then .text R.us else .text R.cl)else if n<4 then (if n=3 then .int R.nw else .int R.lv)else if n=4 then .set R.s1 else .set R.s2
theorem Afd(R:Rq)(n:Int):(Qb R n).ty=Bc n:=by unfold Qb Bc;repeat' split<;>try rfl
theorem FY{t:Int}(h:nz (Ba op [a])=Z t):(op=8/\a=2/\t=2)\/(op=9/\a=1/\t=1)\/(op=10/\a=4/\t=2):=by grind[Ba,DO]
theorem BP(h:nz (Ba op [a,b])=Z t):((11<=op/\op<=15)/\a=2/\b=2/\t=2)\/((16<=op/\op<=18)/\a=4/\b=4/\t=4)\/((op=19\/op=20)/\a=b/\t=1)\/((op=21\/op=22)/\a=2/\b=2/\t=1)\/(op=23/\a=3/\b=4/\t=1)\/(op=24/\a=4/\b=4/\t=1)\/((op=25\/op=26)/\a=1/\b=1/\t=1):=by
 obtain⟨h1,h0⟩:=DO h;simp only[Ba]at h1;by_cases c1:(11<=op/\op<=15)/\a=2/\b=2
 .grind
 rw[K0 c1]at h1;by_cases c2:(16<=op/\op<=18)/\a=4/\b=4
 .grind
 rw[K0 c2]at h1;by_cases c3:(op=19\/op=20)/\a=b
 .grind
 rw[K0 c3]at h1;by_cases c4:(op=21\/op=22)/\a=2/\b=2
 .grind
 rw[K0 c4]at h1;by_cases c5:op=23/\a=3/\b=4;all_goals grind
theorem Vv.bC{v:Vv}(h:v.ty=1):∃b,v=.bool b:=by cases v<;>first|exact⟨_,rfl⟩|(simp[Vv.ty]at h)
theorem Vv.bI{v:Vv}(h:v.ty=2):∃b,v=.int b:=by cases v<;>first|exact⟨_,rfl⟩|(simp[Vv.ty]at h)
theorem Vv.cA{v:Vv}(h:v.ty=3):∃b,v=.text b:=by cases v<;>first|exact⟨_,rfl⟩|(simp[Vv.ty]at h)
theorem Vv.aR{v:Vv}(h:v.ty=4):∃b,v=.set b:=by cases v<;>first|exact⟨_,rfl⟩|(simp[Vv.ty]at h)
theorem ES(h:11<=op/\op<=15):BI op (.int a) (.int b)=BJ (AW (op-10) a b):=by grind[BI]
theorem ZI(a b:Int):BI 21 (.int a) (.int b)=.ok (.bool<|decide (a<b)):=rfl
theorem ZJ(a b:Int):BI 22 (.int a) (.int b)=.ok (.bool<|decide (a<=b)):=rfl
theorem JI(a b:M6):BI 16 (.set a) (.set b)=DP (Fz a b):=rfl
theorem Qc(a b:M6):BI 17 (.set a) (.set b)=.ok (.set<|Bq a b):=rfl
theorem OH(a b:M6):BI 18 (.set a) (.set b)=.ok (.set<|AP a b):=rfl
theorem Mp(a b:M6):BI 24 (.set a) (.set b)=.ok (.bool<|Cy a b):=rfl
theorem WP(v u:Vv):BI 19 v u=.ok (.bool<|CJ v u):=rfl
theorem WQ(v u:Vv):BI 20 v u=.ok (.bool<|!CJ v u):=rfl
open Classical in theorem WR(s:M1)(b:M6):BI 23 (.text s) (.set b)=.ok (.bool<|decide (s∈b)):=rfl
theorem TH{p:Int×Int}{u:Vv}(h:BJ p=.ok u):u.ty=2:=by
 unfold BJ at h;split at h
 .cases h;rfl
 cases h
theorem ZK{p:M6×Int}{u:Vv}(h:DP p=.ok u):u.ty=4:=by
 unfold DP at h;split at h
 .cases h;rfl
 cases h
theorem Aiu{t:Int}{v:Vv}(h:nz (Ba op [v.ty])=Z t):∀u,Ie op v=.ok u->u.ty=t:=by
 intro u hu;obtain⟨rfl,a,rfl⟩|⟨rfl,a,rfl⟩|⟨rfl,a,rfl⟩:=FY h
 .obtain⟨n,rfl⟩:=Vv.bI a;exact TH hu
 .obtain⟨n,rfl⟩:=Vv.bC a;cases hu;rfl
 obtain⟨n,rfl⟩:=Vv.aR a;cases hu;rfl
theorem Afe{t:Int}{v w:Vv}(h:nz (Ba op [v.ty,w.ty])=Z t)(hc:op≠25/\op≠26):∀u,BI op v w=.ok u->u.ty=t:=by
 intro u hu;obtain⟨f,c,d,rfl⟩|⟨f,c,d,rfl⟩|⟨f,c,rfl⟩|⟨f,c,d,rfl⟩|⟨rfl,c,d,rfl⟩|⟨rfl,c,d,rfl⟩|⟨f,c,d,rfl⟩:=BP h
 .grind[ES,Vv.bI,TH]
 .obtain⟨a,rfl⟩:=Vv.aR c;obtain⟨b,rfl⟩:=Vv.aR d;rcases(Oa:op=16\/op=17\/op=18)with rfl|rfl|rfl
  .exact ZK hu
  .cases hu;rfl
  cases hu;rfl
 .obtain rfl|rfl:=f
  .cases hu;rfl
  cases hu;rfl
 .obtain⟨a,rfl⟩:=Vv.bI c;obtain⟨b,rfl⟩:=Vv.bI d;obtain rfl|rfl:=f
  .cases hu;rfl
  cases hu;rfl
 .obtain⟨a,rfl⟩:=Vv.cA c;obtain⟨b,rfl⟩:=Vv.aR d;cases hu;rfl
 .obtain⟨a,rfl⟩:=Vv.aR c;obtain⟨b,rfl⟩:=Vv.aR d;cases hu;rfl
 omega
section
variable{aS aO aZ aW:Addr}{G:Nat->Prop}
def Vl(G:Nat->Prop)(w:jD)(x:jF):Vv->Prop|.bool b=>x=jJ 140 (.bool b)|.int n=>x=jJ 196 (T .i64 n)/\Cf n|.text s=>x=jJ 199 (jA s)|.set ss=>∃a n c,x=jJ 193 (X a n c)/\Am w a n c ss/\Y ss<=1048576/\∀ad,a=Z ad->0<n->G (Addr.block ad)
theorem Vl.below{w w':jD}{B:Nat}{x:jF}{v:Vv}(h:Vl G w x v)(d:Below B w w')(hB:Array.size (World.heap w)<=B):Vl G w' x v:=by cases v with|bool b=>exact h|int n=>exact h|text s=>exact h|set ss=>obtain⟨a,n,c,h1,h2⟩:=h;exact⟨a,n,c,h1,h2.1.below d hB,h2.2⟩
theorem Vl.form{w:jD}{x:jF}{v:Vv}(h:Vl G w x v):∃t u,x=jJ t u:=by cases v with|bool b=>exact⟨_,_,h⟩|int n=>exact⟨_,_,h.1⟩|text s=>exact⟨_,_,h⟩|set ss=>obtain⟨_,_,_,h,_⟩:=h;exact⟨_,_,h⟩
theorem PH(a:jR)(v:jF)(w:jD):(Instr.typeAssert (jJ 140 v) a 140 jI).run jZ w=.ok v w:=by simp[Instr.typeAssert,run_underlying underlying140]
theorem AbS(a:jR)(v:jF)(w:jD):(Instr.typeAssert (jJ 140 v) a 140 jG).run jZ w=.ok (jS #[v,.bool jG]) w:=by simp[Instr.typeAssert,run_underlying underlying140]
theorem Afi(a:jR)(v:jF)(w:jD):(Instr.typeAssert (jJ 196 v) a 196 jI).run jZ w=.ok v w:=by simp[Instr.typeAssert,run_underlying underlying196]
theorem Afj(a:jR)(v:jF)(w:jD):(Instr.typeAssert (jJ 196 v) a 196 jG).run jZ w=.ok (jS #[v,.bool jG]) w:=by simp[Instr.typeAssert,run_underlying underlying196]
theorem Aiz(a:jR)(v:jF)(w:jD):(Instr.typeAssert (jJ 199 v) a 199 jI).run jZ w=.ok v w:=by simp[Instr.typeAssert,run_underlying underlying199]
theorem AbT(a:jR)(v:jF)(w:jD):(Instr.typeAssert (jJ 199 v) a 199 jG).run jZ w=.ok (jS #[v,.bool jG]) w:=by simp[Instr.typeAssert,run_underlying underlying199]
theorem ZM(a:jR)(v:jF)(w:jD):(Instr.typeAssert (jJ 193 v) a 193 jI).run jZ w=.ok v w:=by simp[Instr.typeAssert,run_underlying underlying193]
theorem Afk(a:jR)(v:jF)(w:jD):(Instr.typeAssert (jJ 193 v) a 193 jG).run jZ w=.ok (jS #[v,.bool jG]) w:=by simp[Instr.typeAssert,run_underlying underlying193]
theorem It{c:Int}(h:1<=c/\c<=4):∃a,Ml aS aO aZ aW c=jJ 313 (.pointer<|Z a):=by
 rcases(Oa:c=1\/c=2\/c=3\/c=4)with rfl|rfl|rfl|rfl
 .exact⟨_,rfl⟩
 .exact⟨_,rfl⟩
 .exact⟨_,rfl⟩
 exact⟨_,rfl⟩
def SV(G:Nat->Prop)(aS aO aZ aW:Addr)(o:Ev)(w:jD)(r:Ending)(w':jD):Prop:=(match o with|.ok v=>∃x,r=.returned (jS #[x,jT])/\Vl G w' x v|.err c=>∃x,r=.returned (jS #[x,Ml aS aO aZ aW c])/\1<=c/\c<=4)/\Ak w w'
theorem AiA(v:Int):Cf (GO v).1:=by
 unfold GO;split
 .rename_i h;exact⟨h.1,h.2⟩
 exact⟨Ob,Ob⟩
theorem El(op a b:Int):Cf (AW op a b).1:=by
 unfold AW WL Vj;repeat' split
 all_goals first|exact AiA _|exact⟨Ob,Ob⟩
theorem Adn(v:Int):0<=(GO v).2/\(GO v).2<=4:=by grind[GO]
theorem OJ(op a b:Int):0<=(AW op a b).2/\(AW op a b).2<=4:=by
 unfold AW WL Vj;repeat' split
 all_goals simp_all[Adn]
theorem SW(cl us:M1)(lv nw:Int)(a1:M2 Addr)(c c1:Nat)(s1:M6)(a2:M2 Addr)(n2 c2:Nat)(s2:M6)(w:jD)(d:Cf lv)(f:Cf nw)(h1:Am w a1 c c1 s1)(h2:Am w a2 n2 c2 s2)(l1:Y s1<=1048576)(l2:Y s2<=1048576)(g1:∀b,a1=Z b->0<c->G (Addr.block b))(g2:∀b,a2=Z b->0<n2->G (Addr.block b))(num:Int)(h:0<=num/\num<6):Calls jZ 120 #[.agg #[jA cl,jA us,T .i64 lv,T .i64 nw,X a1 c c1,X a2 n2 c2],T .i64 num] w λg w'=>(∃x,g=.returned x/\Vl G w' x (Qb ⟨cl,us,lv,nw,s1,s2⟩ num))/\Ak w w':=by
 have a:=Ar w<|.cells #[jA cl,jA us,T .i64 lv,T .i64 nw,X a1 c c1,X a2 n2 c2] 36;have i:=h1.below a NLN;have j:=h2.below a NLN;rcases(Oa:num=0\/num=1\/num=2\/num=3\/num=4\/num=5)with rfl|rfl|rfl|rfl|rfl|rfl
 .go_enter func120,ntmps120;go_wp2;go_ret;exact⟨⟨_,rfl,rfl⟩,a⟩
 .go_enter func120,ntmps120;go_wp2;go_ret;exact⟨⟨_,rfl,rfl⟩,a⟩
 .go_enter func120,ntmps120;go_wp2;go_ret;exact⟨⟨_,rfl,rfl,d⟩,a⟩
 .go_enter func120,ntmps120;go_wp2;go_ret;exact⟨⟨_,rfl,rfl,f⟩,a⟩
 .go_enter func120,ntmps120;go_wp2;go_ret;exact⟨⟨_,rfl,_,_,_,rfl,i,l1,g1⟩,a⟩
 go_enter func120,ntmps120;go_wp2;go_ret;exact⟨⟨_,rfl,_,_,_,rfl,j,l2,g2⟩,a⟩
theorem AiB(op:Int)(x:jF)(v:Vv)(t:Int)(w:jD)(hs:Cx w aS aO aZ aW)(hx:Vl G w x v)(ht:nz (Ba op [v.ty])=Z t):Calls jZ 159 #[T .i64 op,x] w (SV G aS aO aZ aW (Ie op v) w):=by
 have s:=PH;have u:=Afi;have y:=ZM;obtain⟨rfl,d,_⟩|⟨rfl,d,_⟩|⟨rfl,d,_⟩:=FY ht
 .obtain⟨n,rfl⟩:=Vv.bI d;obtain⟨rfl,m⟩:x=jJ 196 (T .i64 n)/\Cf n:=hx;have f:=Ab<|Lg 2 0 n w hs ⟨Ob,Ob⟩ m;have h1:=OJ 2 0 n;have h2:=El 2 0 n;have g:=Ab<|show Ie 8 (.int n)=BJ (AW 2 0 n)from rfl;generalize AW 2 0 n=p at f h1 h2 g;obtain⟨i,j⟩:=p;by_cases h0:j=0
  .subst h0;go_enter func159,ntmps159;go_wp2_with fail;refine(Aa f).mono ?_;rintro o q ⟨rfl,h⟩;dsimp only[Ey,Ml,if_true];go_wp2_with fail;refine K8 (v:=jS #[jJ 196<|T .i64 i,jT]) Hd rfl ?_;rw[Aa g];exact⟨⟨_,rfl,rfl,h2⟩,h⟩
  obtain⟨a,k⟩:=It (aS:=aS) (aO:=aO) (aZ:=aZ) (aW:=aW) (c:=j) (by dsimp only at h1;omega);have l:=Ab h0;go_enter func159,ntmps159;go_wp2_with fail;refine(Aa f).mono ?_;rintro o q ⟨rfl,h⟩;dsimp only[Ey];rw[k];go_wp2_with fail;refine K8 (v:=jS #[jJ 196<|T .i64 i,jJ 313<|.pointer<|Z a]) Hd rfl ?_;rw[Aa g,BJ,K0<|Aa l];have:=Aa<|Ab h1;have:=Aa l;exact⟨⟨_,by rw[k],by dsimp only at*;omega,by dsimp only at*;omega⟩,h⟩
 .obtain⟨b,rfl⟩:=Vv.bC d;have e:x=jJ 140 (.bool b):=hx;subst e;go_enter func159,ntmps159;go_wp2_with fail;refine K8 (v:=jS #[jJ 140<|.bool<|!b,jT]) Hd rfl ?_;exact⟨⟨_,rfl,rfl⟩,BRN⟩
 obtain⟨ss,rfl⟩:=Vv.aR d;obtain⟨a,n,c,rfl,hS,_⟩:=hx;have r:=hS.len;have hc:n<=maxLen:=zB hS.cap hS.aH;have hi:Cf (n:Int):=⟨Oa,by unfold maxLen at hc;omega⟩;subst r;go_enter func159,ntmps159;go_wp2_with fail;refine K8 (v:=jS #[jJ 196<|T .i64<|Y ss,jT]) Hd rfl ?_;exact⟨⟨_,rfl,rfl,hi⟩,BRN⟩
end
noncomputable def At(R:Rq)(ls:N6):Ex->Ev
 |.int _ n=>.ok (.int n)|.text _ s=>.ok (.text s)|.bool _ b=>.ok (.bool b)|.set _ _ _ _ ss=>.ok (.set ss)|.name ..=>.err 4|.attr _ n=>.ok (Qb R n)|.lett _ n=>match ls[n.toNat]?with|some v=>.ok v|none=>.err 4
 |.un _ op k=>match At R ls k with|.ok v=>Ie op v|.err c=>.err c
 |.bin _ op l r=>match At R ls l with
  |.ok v=>if GJ op v then .ok v else match At R ls r with|.ok u=>if op=25\/op=26 then .ok u else BI op v u|.err c=>.err c
  |.err c=>.err c
 |.ite _ c t e=>match At R ls c with|.ok (.bool b)=>if b then At R ls t else At R ls e|.ok _=>.err 4|.err c=>.err c
theorem AZ{R:Rq}{ls:N6}{ts:M4}(d:ls.map Vv.ty=ts):∀(e:Ex)(t:Int),An ts e=Z t->∀v,At R ls e=.ok v->v.ty=t
 |.int ..,t,h,v,hv=>by cases h;cases hv;rfl|.text ..,t,h,v,hv=>by cases h;cases hv;rfl|.bool ..,t,h,v,hv=>by cases h;cases hv;rfl|.set ..,t,h,v,hv=>by cases h;cases hv;rfl|.name ..,t,h,v,hv=>O6|.attr _ n,t,h,v,hv=>by cases h;cases hv;exact Afd R n|.lett _ n,t,h,v,hv=>by grind[At,An]|.un _ op k,t,h,v,hv=>by rw[An]at h;rw[At]at hv;cases f:An ts k with|none=>grind|some a=>rw[f]at h;cases he:At R ls k with|err c=>grind|ok u=>rw[he]at hv;have:=AZ d k a f u he;grind[Aiu]
 |.bin _ op l r,t,h,v,hv=>by rw[An]at h;rw[At]at hv;cases i:An ts l with|none=>grind|some a=>rw[i]at h;cases j:An ts r with|none=>grind|some b=>rw[j]at h;cases he:At R ls l with|err c=>grind|ok x=>
        rw[he]at hv;have hx:=AZ d l a i x he;dsimp only at h hv;by_cases hd:GJ op x=jG
        .rw[K1 hd]at hv;obtain rfl:x=v:=by cases hv;rfl
         cases x with|bool q=>
           have m:op=25\/op=26:=by grind[GJ]
           obtain g|g|g|g|g|g|g:=BP h;all_goals omega|int _=>simp[GJ]at hd|text _=>simp[GJ]at hd|set _=>simp[GJ]at hd
        rw[K0 hd]at hv;cases o:At R ls r with|err c=>grind|ok y=>
          rw[o]at hv;have hy:=AZ d r b j y o;dsimp only at hv;by_cases m:op=25\/op=26
          .rw[K1 m]at hv;obtain rfl:y=v:=by cases hv;rfl
           obtain g|g|g|g|g|g|g:=BP h;all_goals omega
          grind[Afe]
 |.ite _ c a b,t,h,v,hv=>by rw[An]at h;rw[At]at hv;cases hc:An ts c with|none=>grind|some x=>rw[hc]at h;cases p:An ts a with|none=>grind|some y=>rw[p]at h;cases s:An ts b with|none=>grind|some z=>rw[s]at h;dsimp only at h;obtain⟨h1,h0⟩:=DO h;simp only[Ba]at h1;have w:y=t/\z=t:=Oa;cases he:At R ls c with|err q=>grind|ok u=>rw[he]at hv;cases u with
          |bool q=>cases q with|true=>exact(AZ d a y p v hv).trans w.1|false=>exact(AZ d b z s v hv).trans w.2
          |int _=>cases hv|text _=>cases hv|set _=>cases hv
def Ex.st:Ex->Ex|.int _ n=>.int 0 n|.text _ s=>.text 0 s|.bool _ b=>.bool 0 b|.set _ _ _ _ ss=>.set 0 V 0 0 ss|.name _ s=>.name 0 s|.attr _ n=>.attr 0 n|.lett _ n=>.lett 0 n|.un _ op k=>.un 0 op k.st|.bin _ op l r=>.bin 0 op l.st r.st|.ite _ c t e=>.ite 0 c.st t.st e.st
def Ex.cv:Ex->M2 Vv|.int _ n=>Z<|.int n|.text _ s=>Z<|.text s|.bool _ b=>Z<|.bool b|.set _ _ _ _ ss=>Z<|.set ss|_=>V
def Ex.bQ(e:Ex):Bool:=e.cv.isSome
def Vv.ex:Vv->Ex|.int n=>.int 0 n|.text s=>.text 0 s|.bool b=>.bool 0 b|.set ss=>.set 0 V 0 0 ss
def isB(b:Bool):Ex->Bool|.bool _ c=>c==b|_=>jI
def SQ(n:Int):Ex->Bool|.int _ m=>decide (m=n)|_=>jI
def Km:Ex->Bool|.set _ _ _ _ ss=>decide (Y ss=0)|_=>jI
def sameL:Ex->Ex->Bool|.attr _ n,.attr _ m=>decide (m=n)|.lett _ n,.lett _ m=>decide (m=n)|_,_=>jI
open Classical in noncomputable def VY(x y:Ex):Bool:=x.bQ&&decide (x.cv=y.cv)
def GL(b:Bool)(x y:Ex):N5:=if isB b x then Z y else if isB (!b) x||isB b y then Z x else if isB (!b) y&&AD x then Z y else V
def EI(x y:Ex):N5:=if Km x then Z y else if Km y||sameL x y then Z x else V
def Hy(x y:Ex):N5:=if Km x&&AD y then Z x else if Km y&&AD x then Z y else if sameL x y then Z x else V
def Fc(x y:Ex):N5:=if Km y||(Km x&&AD y)then Z x else if sameL x y then Z (.set 0 V 0 0 [])else V
def Nb(x y:Ex):N5:=if SQ 0 x then Z y else if SQ 0 y then Z x else V
def DD(n:Int)(x y:Ex):N5:=if SQ n y then Z x else V
def Hz(x y:Ex):N5:=if SQ 1 x then Z y else if SQ 1 y then Z x else if SQ 0 x&&AD y then Z x else if SQ 0 y&&AD x then Z y else V
def Dt(b:Bool)(x y:Ex):N5:=if sameL x y then Z (.bool 0 b)else V
def Fh(x y:Ex):N5:=if sameL x y then Z (.bool 0 jG)else if Km x&&AD y then Z (.bool 0 jG)else V
def inE(x y:Ex):N5:=if Km y&&AD x then Z (.bool 0 jI)else V
def DE(op:Int)(x y:Ex):N5:=if op=25 then GL jG x y else if op=26 then GL jI x y else if op=16 then EI x y else if op=17 then Hy x y else if op=18 then Fc x y else if op=11 then Nb x y else if op=12 then DD 0 x y else if op=13 then Hz x y else if op=14 then DD 1 x y else if op=19 then Dt jG x y else if op=22 then Dt jG x y else if op=20 then Dt jI x y else if op=21 then Dt jI x y else if op=24 then Fh x y else if op=23 then inE x y else V
def SS:Rq:=⟨⟨#[]⟩,⟨#[]⟩,0,0,[],[]⟩
noncomputable def AM(e:Ex):N5:=if e.aC.isEmpty then V else if e.aC.all Ex.bQ then (match At SS [] e with|.ok v=>Z v.ex|.err _=>V)else V
def LS:Ex->N5|.un _ o j=>if o=9 then Z j else V|_=>V
noncomputable def AS(ls:M8):Ex->N5
 |.lett _ n=>match ls[n.toNat]?with|some c=>if c.bQ then Z c else V|none=>V
 |.un _ op k=>if op=9 then LS k else V|.bin _ op x y=>DE op x y|.ite _ c t e=>if isB jG c then Z t else if isB jI c then Z e else if VY t e&&AD c then Z t else V|_=>V
noncomputable def NN(ls:M8)(e:Ex):Ex:=match AM e with|some c=>c|none=>(AS ls e).getD e
noncomputable def Cw(ls:M8):Ex->Ex|.un i op k=>NN ls<|.un i op<|Cw ls k|.bin i op l r=>NN ls<|.bin i op (Cw ls l)<|Cw ls r|.ite i c t e=>NN ls<|.ite i (Cw ls c) (Cw ls t)<|Cw ls e|e=>NN ls e
theorem Pl{e:Ex}{v:Vv}(h:e.cv=Z v)(ts:M4):An ts e=Z v.ty:=by cases e<;>simp only[Ex.cv]at h<;>first|(cases h;rfl)|cases h
theorem AmL(v:Vv)(ts:M4):An ts v.ex=Z v.ty:=by cases v<;>rfl
theorem Ei{b:Bool}{x y z:Ex}(h:GL b x y=Z z):z=x\/z=y:=by grind[GL]
theorem Bn{b:Bool}{x y z:Ex}(h:Dt b x y=Z z):∃c,z=.bool 0 c:=by grind[Dt]
theorem DF{x y z:Ex}(h:Fh x y=Z z):∃c,z=.bool 0 c:=by grind[Fh]
theorem Ja{x y z:Ex}(h:inE x y=Z z):∃c,z=.bool 0 c:=by grind[inE]
theorem Fw{x y z:Ex}(h:EI x y=Z z):z=x\/z=y:=by grind[EI]
theorem H7{x y z:Ex}(h:Hy x y=Z z):z=x\/z=y:=by grind[Hy]
theorem Gw{x y z:Ex}(h:Fc x y=Z z):z=x\/z=.set 0 V 0 0 []:=by grind[Fc]
theorem Ko{x y z:Ex}(h:Nb x y=Z z):z=x\/z=y:=by grind[Nb]
theorem EJ{n:Int}{x y z:Ex}(h:DD n x y=Z z):z=x\/z=y:=by grind[DD]
theorem H9{x y z:Ex}(h:Hz x y=Z z):z=x\/z=y:=by grind[Hz]
theorem AaU{t:Int}{x y z:Ex}(hx:An ts x=Z t)(hy:An ts y=Z t)(h:z=x\/z=y):An ts z=Z t:=by grind
theorem AgK{x y z:Ex}(hx:An ts x=Z a)(hy:An ts y=Z b)(ht:nz (Ba op [a,b])=Z t)(h:DE op x y=Z z):An ts z=Z t:=by
 obtain⟨d,rfl,rfl,rfl⟩|⟨d,rfl,rfl,rfl⟩|⟨d,rfl,rfl⟩|⟨d,rfl,rfl,rfl⟩|⟨rfl,rfl,rfl,rfl⟩|⟨rfl,rfl,rfl,rfl⟩|⟨d,rfl,rfl,rfl⟩:=BP ht
 .rcases(Oa:op=11\/op=12\/op=13\/op=14\/op=15)with rfl|rfl|rfl|rfl|rfl;all_goals grind[Ba,Ei,DE,BP,Gw,Ja,AaU,Ko,Fw,DF,An,nz,H9,EJ,H7,Bn]
 .grind[Ba,Ei,DE,BP,Gw,Ja,AaU,Ko,Fw,DF,An,nz,H9,EJ,H7,Bn]
 .obtain rfl|rfl:=d
  .obtain⟨c,rfl⟩:=Bn h;rfl
  obtain⟨c,rfl⟩:=Bn h;rfl
 .obtain rfl|rfl:=d
  .obtain⟨c,rfl⟩:=Bn h;rfl
  obtain⟨c,rfl⟩:=Bn h;rfl
 all_goals grind[Ba,Ei,DE,BP,Gw,Ja,AaU,Ko,Fw,DF,An,nz,H9,EJ,H7,Bn]
theorem AgL{t:Int}{e c:Ex}(h:An ts e=Z t)(hf:AM e=Z c):An ts c=Z t:=by
 unfold AM at hf;split at hf
 .cases hf
 split at hf
 .rename_i a;split at hf
  .rename_i v b;cases hf;have d:An [] e=Z t:=by
    have hc:∀k∈e.aC,An [] k=An ts k:=λk f=>by have:=zo.1 a k f;obtain⟨u,hu⟩:=yI.1 this;rw[Pl hu,Pl hu]
    cases e<;>grind[An,Ex.aC]
   rw[AmL,AZ (R:=SS) (ls:=[]) (ts:=[]) rfl e t d v b]
  cases hf
 cases hf
def FI(ts:M4)(ls:M8):Prop:=∀(n:Nat) (c:Ex),ls[n]?=Z c->c.bQ=jG->∃v:Vv,c.cv=Z v/\ts[n]?=Z v.ty
theorem AgM{ls:M8}(b:FI ts ls){t:Int}{e c:Ex}(h:An ts e=Z t)(a:AS ls e=Z c):An ts c=Z t:=by cases e with
 |lett i n=>
   rw[AS]at a;rw[An]at h;split at h
   .split at a
    .rename_i d hd;split at a
     .rename_i hc;cases a;obtain⟨v,g,j⟩:=b _ _ hd hc;grind[Pl]
     cases a
    cases a
   cases h|un i op k=>
   rw[AS]at a;split at a
   .rename_i f;subst f;cases k<;>grind[Ba,FY,An,nz,LS]
   cases a|bin i op x y=>grind[AS,AgK,An]|ite i x y z=>grind[Ba,AS,An,DO]|_=>cases a
theorem Ale{ls:M8}(a:FI ts ls){t:Int}{e:Ex}(h:An ts e=Z t):An ts (NN ls e)=Z t:=by unfold NN;cases hf:AM e with|some c=>exact AgL h hf|none=>cases b:AS ls e with|none=>exact h|some c=>exact AgM a h b
theorem DG{ls:M8}(a:FI ts ls):∀(e:Ex)(t:Int),An ts e=Z t->An ts (Cw ls e)=Z t:=by intro e;induction e<;>intros<;>grind[An,Cw,Ale]
end Go.Proofs.YtlcfoihgfcmfeaaGreatDoor
