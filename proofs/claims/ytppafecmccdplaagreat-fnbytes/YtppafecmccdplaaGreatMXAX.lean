import Derived.Test.YtppafecmccdplaaGreatMXAM
import Derived.Test.YtppafecmccdplaaGreatMXAP
import Derived.Test.YtppafecmccdplaaGreatKH
open Go.Proofs.Tryz
open Option renaming none->T,some->Y
open Go.Value renaming int->U,slice->X,pointer->jH,tuple->jJ
open Go.IntKind renaming i64->V
open Go renaming World->Z
open Bool renaming true->R,false->jA
open Go.Obj renaming cells->jC
open Go.Proofs.Tryz renaming prog->jL
namespace Go.Proofs.YtppafecmccdplaaGreat
open Go.RowKit
set_option linter.unusedVariables false
variable {s:AI}{x c z:Ex}{op:Int}{ss:List ByteArray}{ls:List Ex}{ts:List Int}{N:List Nd}{A B:List Sx}{g b:Nat}{o:Option Ex}{v u:Vv}{w w':Z}
theorem Fj {ts:List Int}{m:Int} :∀(e:Ex) (t:Int),AE ts e=Y t->usE m e=R->0<=m/\m.toNat<ts.length
 |.lett i n,t,h,hu=>by
  have e:n=m:=of_decide_eq_true hu;subst e;rw[AE]at h;split at h
  ·exact⟨‹_›,(zZ.1 h).1⟩
  ·cases h
 |.un i op k,t,h,hu=>by
  rw[AE]at h;cases hk:AE ts k with
  |none=>rw[hk]at h;cases h
  |some a=>exact Fj k a hk hu
 |.bin i op x y,t,h,hu=>by
  rw[AE]at h;cases hx:AE ts x with
  |none=>rw[hx]at h;cases h
  |some a=>
   cases hy:AE ts y with
   |none=>rw[hx,hy]at h;cases h
   |some b=>
    rw[usE,Bool.or_eq_true]at hu;exact hu.elim (Fj x a hx) (Fj y b hy)
 |.ite i x y z,t,h,hu=>by
  rw[AE]at h;cases hx:AE ts x with
  |none=>rw[hx]at h;cases h
  |some a=>
   cases hy:AE ts y with
   |none=>rw[hx,hy]at h;cases h
   |some b=>
    cases c:AE ts z with
    |none=>rw[hx,hy,c]at h;cases h
    |some d=>
     rw[usE,Bool.or_eq_true,Bool.or_eq_true]at hu;exact hu.elim (Fj x a hx) (fun q=>q.elim (Fj y b hy) (Fj z d c))
 |.int ..,_,_,hu=>by cases hu
 |.text ..,_,_,hu=>by cases hu
 |.bool ..,_,_,hu=>by cases hu
 |.set ..,_,_,hu=>by cases hu
 |.name ..,_,_,hu=>by cases hu
 |.attr ..,_,_,hu=>by cases hu
theorem TP {m:Int}{g:Option Ex}(h:tyG ts g)(hu:usO m g=R): 0<=m/\m.toNat<ts.length:=by
 cases g with
 |none=>cases hu
 |some e=>exact Fj e 4 h hu
theorem PJ:∀(b:List Sx) (ts:List Int),Mg ts b->∀q∈G3 (ts.length:Nat) b,∀m,usS m q.1=R->(0<=m/\m.toNat<ts.length)\/m∈Dp (G3 (ts.length:Nat) b)
 |[],_,_,q,hq,_,_=>by cases hq
 |x ::b,ts,h,q,hq,m,hm=>by
  rcases h with⟨k,e,t,h1,f,c,d⟩|⟨k,⟨e,h1,f⟩,c,d⟩|⟨k,h1,c,d⟩
  ·have en:((ts.length:Nat):Int)+1=((ts++[t]).length:Nat):=by simp
   rw[G3,if_pos k,en]at hq|-;have g:=PJ b (ts++[t]) d;split
   ·rename_i hk;rw[if_pos hk]at hq;simp only[zD,Bool.not_eq_true',List.any_eq_false]at hk;rcases g q hq m hm with a|a
    ·have j:m≠((ts.length:Nat):Int):=fun e=>by
      have:=hk.1 q hq;rw[<-e,hm]at this;exact this rfl
     have:=a.2;simp at this;exact .inl ⟨a.1,by omega⟩
    ·exact .inr a
   ·rename_i hk;rw[if_neg hk]at hq;rw[UH k];rcases zT.1 hq with e1|e1
    ·subst e1;rw[usS,h1,c]at hm;simp only[usO,Bool.or_false]at hm;exact .inl (Fj e t f hm)
    ·rcases g q e1 m hm with a|a
     ·have:=a.2;simp at this;by_cases i:m.toNat<ts.length
      ·exact .inl ⟨a.1,i⟩
      ·exact .inr (by rw[show m=((ts.length:Nat):Int) by omega];exact zS)
     ·exact .inr (za _ a)
  ·rw[G3,if_neg (by omega)]at hq|-;rw[IS (by omega)];rcases zT.1 hq with e1|e1
   ·subst e1;rw[usS,h1,Bool.or_eq_true]at hm;exact .inl (hm.elim (Fj e 1 f) (TP c))
   ·exact PJ b ts d q e1 m hm
  ·rw[G3,if_neg (by omega)]at hq|-;rw[IS (by omega)];rcases zT.1 hq with e1|e1
   ·subst e1;rw[usS,h1,Bool.or_eq_true]at hm;exact .inl (hm.elim (fun q=>by cases q) (TP c))
   ·exact PJ b ts d q e1 m hm
theorem YE:∀(a:List Sx) (n:Int),(∀m∈Dp (G3 n a),n<=m)/\(Dp (G3 n a)).Nodup
 |[],n=>⟨fun m h=>(by cases h),List.nodup_nil⟩
 |x ::a,n=>by
  rw[G3];by_cases k:x.kind=1
  ·rw[if_pos k];obtain⟨h1,b⟩:=YE a (n+1);split
   ·exact⟨fun m h=>by have:=h1 m h;omega,b⟩
   ·rw[UH k];exact⟨fun m h=>by
     rcases zT.1 h with e|e
     ·omega
     ·have:=h1 m e;omega,List.nodup_cons.2 ⟨fun h=>by have:=h1 n h;omega,b⟩⟩
  ·rw[if_neg k,IS k];exact YE a n
theorem ZE {e:Ex}(h:e.con=R):e.cnt=1:=by cases e<;>first|rfl|cases h
theorem Afg (v:Vv):v.ex.cnt=1:=by cases v<;>rfl
theorem Aa7 {y:Ex}(h:DP op x y=Y z):z.cnt<=x.cnt+y.cnt:=by
 have hx:=Fk x;have hy:=Fk y;have a:∀{z:Ex},z=x\/z=y->z.cnt<=x.cnt+y.cnt:=fun q=>q.elim (fun e=>by rw[e];omega) (fun e=>by rw[e];omega);have b:∀{z:Ex},(∃c,z= .bool 0 c)->z.cnt<=x.cnt+y.cnt:=fun ⟨c,e⟩=>by rw[e];simp[Ex.cnt];omega
 by_cases d:op=25
 ·subst d;exact a (FK h)
 by_cases f:op=26
 ·subst f;exact a (FK h)
 by_cases g:op=16
 ·subst g;exact a (Kf h)
 by_cases i:op=17
 ·subst i;exact a (MN h)
 by_cases j:op=18
 ·subst j;rcases Kg h with e|e
  ·exact a (.inl e)
  ·rw[e];simp[Ex.cnt];omega
 by_cases k:op=11
 ·subst k;exact a (Rh h)
 by_cases l:op=12
 ·subst l;exact a (FL h)
 by_cases m:op=13
 ·subst m;exact a (MO h)
 by_cases n:op=14
 ·subst n;exact a (FL h)
 by_cases o:op=19
 ·subst o;exact b (AW h)
 by_cases p:op=22
 ·subst p;exact b (AW h)
 by_cases r:op=20
 ·subst r;exact b (AW h)
 by_cases s:op=21
 ·subst s;exact b (AW h)
 by_cases t:op=24
 ·subst t;exact b (F7 h)
 by_cases u:op=23
 ·subst u;exact b (MM h)
 simp[DP,d,f,g,i,j,k,l,m,n,o,p,r,s,t,u]at h
theorem TQ {e:Ex}(h:AP e=Y c):c.cnt=1:=by
 unfold AP at h;split at h
 ·cases h
 ·split at h
  ·split at h
   ·cases h;exact Afg _
   ·cases h
  ·cases h
theorem FN (e:Ex):(Ie ls e).cnt<=e.cnt:=by
 unfold Ie;cases b:AP e with
 |some c=>rw[TQ b];exact Fk e
 |none=>
  cases a:AV ls e with
  |none=>exact NLN
  |some c=>
   show c.cnt<=e.cnt;cases e with
   |lett i n=>
    rw[AV]at a;split at a
    ·split at a
     ·cases a;rename_i hc;rw[ZE hc];exact NLN
     ·cases a
    ·cases a
   |un i op k=>
    rw[AV]at a;split at a
    ·cases k with
     |un d o j=>rw[SJ]at a;split at a<;>cases a;simp[Ex.cnt];omega
     |_=>cases a
    ·cases a
   |bin i op x y=>rw[AV]at a;have:=Aa7 a;simp[Ex.cnt];omega
   |ite i x y z=>
    rw[AV]at a
    repeat' split at a
    all_goals first|(cases a;simp[Ex.cnt];omega)|cases a
   |_=>cases a
theorem Jm {ls:List Ex} :∀(e:Ex),(AX ls e).cnt<=e.cnt
 |.un i op k=>by rw[AX];refine zC (FN _) ?_;have:=Jm (ls:=ls) k;simp[Ex.cnt];omega
 |.bin i op x y=>by rw[AX];refine zC (FN _) ?_;have:=Jm (ls:=ls) x;have:=Jm (ls:=ls) y;simp[Ex.cnt];omega
 |.ite i x y z=>by rw[AX];refine zC (FN _) ?_;have:=Jm (ls:=ls) x;have:=Jm (ls:=ls) y;have:=Jm (ls:=ls) z;simp[Ex.cnt];omega
 |.int i n=>by rw[AX];exact FN _;all_goals (intros;simp_all)
 |.text i n=>by rw[AX];exact FN _;all_goals (intros;simp_all)
 |.bool i n=>by rw[AX];exact FN _;all_goals (intros;simp_all)
 |.set i a n c ss=>by rw[AX];exact FN _;all_goals (intros;simp_all)
 |.name i n=>by rw[AX];exact FN _;all_goals (intros;simp_all)
 |.attr i n=>by rw[AX];exact FN _;all_goals (intros;simp_all)
 |.lett i n=>by rw[AX];exact FN _;all_goals (intros;simp_all)
theorem LQ (left:List Int):∀(e:Ex),(DU left e).cnt=e.cnt
 |.un i op k=>by rw[DU,Ex.cnt,Ex.cnt,LQ left k]
 |.bin i op x y=>by rw[DU,Ex.cnt,Ex.cnt,LQ left x,LQ left y]
 |.ite i x y z=>by rw[DU,Ex.cnt,Ex.cnt,LQ left x,LQ left y,LQ left z]
 |.int .. =>rfl
 |.text .. =>rfl
 |.bool .. =>rfl
 |.set .. =>rfl
 |.name .. =>rfl
 |.attr .. =>rfl
 |.lett .. =>rfl
theorem ZF (o:Option Ex):Bc (o.map (AX ls))<=Bc o:=by
 cases o with
 |none=>exact NLN
 |some e=>exact Jm e
theorem ZG {l:List Int}(o:Option Ex):Bc (o.map (DU l))=Bc o:=by
 cases o with
 |none=>rfl
 |some e=>exact LQ l e
theorem WH:∀(a:List Sx) (ls:List Ex),Cn (DT ls a)<=Cn a
 |[],_=>NLN
 |x ::a,ls=>by
  rw[DT,BI,BI];have h1:=ZF (ls:=ls) x.cond;have b:=ZF (ls:=ls) x.grant;have c:=WH a (SL ls (Ga ls x));show Bc (x.cond.map (AX ls))+Bc (x.grant.map (AX ls))+_<=_;omega
theorem WI:∀(a:List Sx),Cn (Ee a)<=Cn a
 |[]=>NLN
 |x ::a=>by
  have h:=WI a;rw[Ee,BI];split
  ·omega
  ·split
   ·rw[BI];simp[Bc,Cn];omega
   ·rw[BI];omega
theorem UJ (l:List Int):∀(a:List Sx) (n:Int),Cn ((G3 n a).map fun q=>PI l q.1)<=Cn a
 |[],_=>NLN
 |x ::a,n=>by
  have b:∀(m:Int) (K:List (Sx×Int)),Cn (((x,m) ::K).map fun q=>PI l q.1)=Bc x.cond+Bc x.grant+Cn (K.map fun q=>PI l q.1):=fun m K=>by
   rw[List.map_cons,BI];show Bc (x.cond.map (DU l))+Bc (x.grant.map (DU l))+_=_;rw[ZG,ZG]
  rw[G3,BI];split
  ·have h:=UJ l a (n+1);split
   ·omega
   ·rw[b];omega
  ·have h:=UJ l a n;rw[b];omega
theorem Ads (X:List Sx):Cn (DE X)<=Cn X:=
 zC (UJ _ _ 0) (zC (WI _) (WH X []))
def gdV:Vv->Prop
 |.text s=>Ci s=R
 |.set ss=>AR ss=R
 |_=>True
def Lc:Ex->Prop
 |.text _ s=>Ci s=R
 |.set _ _ _ _ ss=>AR ss=R
 |.name .. =>False
 |.attr _ n=>0<=n/\n<6
 |.un _ op k=>(8<=op/\op<=10)/\Lc k
 |.bin _ op l r=>(11<=op/\op<=26)/\Lc l/\Lc r
 |.ite _ c t e=>Lc c/\Lc t/\Lc e
 |_=>True
theorem Agu (v:Vv)(h:gdV v):Lc v.ex:=by cases v<;>exact h
theorem TR {p:Int×Int}(h:Ge p= .ok v):gdV v:=by
 unfold Ge at h;split at h<;>cases h
 trivial
theorem Afi (hv:gdV v)(h:KV op v= .ok u):gdV u:=by
 cases v with
 |int n=>simp only[KV]at h;split at h
         ·exact TR h
         ·cases h
 |bool b=>simp only[KV]at h;split at h<;>cases h;trivial
 |set ss=>simp only[KV]at h;split at h<;>cases h;trivial
 |text s=>cases h
theorem Adt {tt:List ByteArray}(h:Gn (JQ ss tt)= .ok v):gdV v:=by
 unfold Gn at h;split at h
 ·cases h;rename_i a;unfold JQ at*;split at a
  ·rename_i hp;rw[dif_pos hp];have q:=Classical.choose_spec hp;cases hv:(AR ss&&AR tt)with
   |false=>have:=(q.bad hv).2;rw[a]at this;cases this
   |true=>
    obtain⟨M,c,h1,d⟩:=q.good hv;rw[zD]at hv;by_cases b:M.length<=64
    ·show AR (Classical.choose hp).1=R;rw[(d b).1];exact WJ hv.1 hv.2 c b
    ·have:=(h1 (by omega)).2;rw[a]at this;cases this
  ·cases a
 ·cases h
theorem WL {w u:Vv}(hv:gdV v)(a:gdV w)(h:Eu op v w= .ok u):gdV u:=by
 unfold Eu at h;split at h
 ·cases h;trivial
 split at h
 ·cases h;trivial
 split at h
 ·split at h<;>cases h;trivial
 ·split at h
  ·exact Adt h
  split at h
  ·cases h;exact Aa8 hv a
  split at h
  ·cases h;exact WM hv a
  split at h<;>cases h
  trivial
 ·split at h
  ·cases h;trivial
  split at h
  ·cases h;trivial
  split at h
  ·exact TR h
  ·cases h
 ·cases h
theorem Jn {e:Ex}(hc:e.con=R)(a:Lc e)(h:H4 rq0 [] e= .ok v):gdV v:=by
 cases e<;>first|(cases h;exact a)|(cases h;trivial)|cases hc
theorem Adu {e:Ex}(d:Lc e)(h:AP e=Y c):Lc c:=by
 unfold AP at h;split at h
 ·cases h
 split at h
 ·rename_i hk;split at h
  ·rename_i v hv;cases h;refine Agu v ?_;cases e with
   |un i op k=>
    rw[H4]at hv;have m:k.con=R:=by simpa[Ex.kids]using hk
    cases a:H4 rq0 [] k with
    |err c=>rw[a]at hv;cases hv
    |ok x=>rw[a]at hv;exact Afi (Jn m d.2 a) hv
   |bin i op l r=>
    rw[H4]at hv;have f:l.con=R/\r.con=R:=by simpa[Ex.kids]using hk
    cases a:H4 rq0 [] l with
    |err c=>rw[a]at hv;cases hv
    |ok x=>
     rw[a]at hv;dsimp only at hv;split at hv
     ·cases hv;exact Jn f.1 d.2.1 a
     ·cases g:H4 rq0 [] r with
      |err c=>rw[g]at hv;cases hv
      |ok y=>
       rw[g]at hv;dsimp only at hv
       first
       |exact WL (Jn f.1 d.2.1 a) (Jn f.2 d.2.2 g) hv
       |(split at hv
         ·cases hv;exact Jn f.2 d.2.2 g
         ·exact WL (Jn f.1 d.2.1 a) (Jn f.2 d.2.2 g) hv)
   |ite i x y z=>
    rw[H4]at hv;have j:x.con=R/\y.con=R/\z.con=R:=by simpa[Ex.kids]using hk
    cases a:H4 rq0 [] x with
    |err c=>rw[a]at hv;cases hv
    |ok b=>
     rw[a]at hv;cases b with
     |bool b=>cases b
              ·exact Jn j.2.2 d.2.2 hv
              ·exact Jn j.2.1 d.2.1 hv
     |_=>cases hv
   |_=>simp[Ex.kids]at*
  ·cases h
 ·cases h
theorem Adv (F:∀c∈ls,Lc c){e:Ex}(f:Lc e)(h:AV ls e=Y c):Lc c:=by
 cases e with
 |lett i n=>
  rw[AV]at h;split at h
  ·rename_i d hd;split at h
   ·cases h;exact F _ (zu hd)
   ·cases h
  ·cases h
 |un i op k=>
  rw[AV]at h;split at h
  ·cases k with
   |un G o j=>
    rw[SJ]at h;split at h<;>cases h
    exact f.2.2
   |_=>cases h
  ·cases h
 |bin i op x y=>
  rw[AV]at h;have a:∀{z:Ex},z=x\/z=y->Lc z:=fun q=>q.elim (fun e=>e ▸ f.2.1) (fun e=>e ▸ f.2.2);by_cases g:op=25
  ·subst g;exact a (FK h)
  by_cases l:op=26
  ·subst l;exact a (FK h)
  by_cases m:op=16
  ·subst m;exact a (Kf h)
  by_cases p:op=17
  ·subst p;exact a (MN h)
  by_cases r:op=18
  ·subst r;rcases Kg h with e|e
   ·exact a (.inl e)
   ·rw[e];rfl
  by_cases s:op=11
  ·subst s;exact a (Rh h)
  by_cases t:op=12
  ·subst t;exact a (FL h)
  by_cases u:op=13
  ·subst u;exact a (MO h)
  by_cases v:op=14
  ·subst v;exact a (FL h)
  by_cases w:op=19
  ·subst w;obtain⟨b,rfl⟩:=AW h;trivial
  by_cases A:op=22
  ·subst A;obtain⟨b,rfl⟩:=AW h;trivial
  by_cases B:op=20
  ·subst B;obtain⟨b,rfl⟩:=AW h;trivial
  by_cases C:op=21
  ·subst C;obtain⟨b,rfl⟩:=AW h;trivial
  by_cases D:op=24
  ·subst D;obtain⟨b,rfl⟩:=F7 h;trivial
  by_cases E:op=23
  ·subst E;obtain⟨b,rfl⟩:=MM h;trivial
  simp[DP,g,l,m,p,r,s,t,u,v,w,A,B,C,D,E]at h
 |ite i x y z=>
  rw[AV]at h
  repeat' split at h
  all_goals first|(cases h;first|exact f.2.1|exact f.2.2)|cases h
 |_=>cases h
theorem It (b:∀c∈ls,Lc c){e:Ex}(a:Lc e):Lc (Ie ls e):=by
 unfold Ie;cases d:AP e with
 |some c=>exact Adu a d
 |none=>
  cases f:AV ls e with
  |none=>exact a
  |some c=>exact Adv b a f
theorem LR {ls:List Ex}(b:∀c∈ls,Lc c):∀(e:Ex),Lc e->Lc (AX ls e)
 |.un i op k,h=>by rw[AX];exact It b (show Lc (.un i op _)from⟨h.1,LR b k h.2⟩)
 |.bin i op x y,h=>by rw[AX];exact It b (show Lc (.bin i op _ _)from⟨h.1,LR b x h.2.1,LR b y h.2.2⟩)
 |.ite i x y z,h=>by rw[AX];exact It b (show Lc (.ite i _ _ _)from⟨LR b x h.1,LR b y h.2.1,LR b z h.2.2⟩)
 |.int i n,h=>by rw[AX];exact It b h;all_goals (intros;simp_all)
 |.text i n,h=>by rw[AX];exact It b h;all_goals (intros;simp_all)
 |.bool i n,h=>by rw[AX];exact It b h;all_goals (intros;simp_all)
 |.set i a n c ss,h=>by rw[AX];exact It b h;all_goals (intros;simp_all)
 |.name i n,h=>by rw[AX];exact It b h;all_goals (intros;simp_all)
 |.attr i n,h=>by rw[AX];exact It b h;all_goals (intros;simp_all)
 |.lett i n,h=>by rw[AX];exact It b h;all_goals (intros;simp_all)
theorem Rt (l:List Int):∀(e:Ex),Lc e->Lc (DU l e)
 |.un ..,h=>⟨h.1,Rt l _ h.2⟩
 |.bin ..,h=>⟨h.1,Rt l _ h.2.1,Rt l _ h.2.2⟩
 |.ite ..,h=>⟨Rt l _ h.1,Rt l _ h.2.1,Rt l _ h.2.2⟩
 |.int ..,h=>h
 |.text ..,h=>h
 |.bool ..,h=>h
 |.set ..,h=>h
 |.name ..,h=>h
 |.attr ..,h=>h
 |.lett ..,h=>h
theorem NQ {a:List Int}(h: 8<=op)(hk:(a.length:Int)=Cz op):Bb ⟨op,0,⟨#[]⟩,[],a⟩=R:=by
 have e1:Jc ⟨op,0,⟨#[]⟩,[],a⟩=R:=by
  rw[Jc,if_neg (by show ¬ op=5;omega),if_neg (by show ¬ op=6;omega),if_neg (by show ¬ (op=7\/op=1);omega),U8,if_neg (by show ¬ op=1;omega),if_neg (by show ¬ op=2;omega),if_neg (by show ¬ op=3;omega),if_neg (by show ¬ op=4;omega),if_neg (by show ¬ op=5;omega),if_neg (by show ¬ (op=6\/op=7);omega)];rfl
 rw[Bb,e1,Bool.and_true];exact zN hk
theorem FF:∀(e:Ex) (b:Nat),Lc e->∀x∈Eg e b,Bb x=R
 |.un i op k,b,h,x,hx=>by
  rw[Eg]at hx;rcases zM.1 hx with q|q
  ·exact FF k b h.2 x q
  ·rw[zO.1 q];have h1:=h.1;exact NQ (by omega) (by rw[Cz,if_neg (by omega),if_pos h1];rfl)
 |.bin i op l r,b,h,x,hx=>by
  rw[Eg]at hx;rcases zM.1 hx with q|q
  ·rcases zM.1 q with q|q
   ·exact FF l b h.2.1 x q
   ·exact FF r _ h.2.2 x q
  ·rw[zO.1 q];have h1:=h.1;exact NQ (by omega) (by rw[Cz,if_neg (by omega),if_neg (by omega),if_pos h1];rfl)
 |.ite i c t e,b,h,x,hx=>by
  rw[Eg]at hx;rcases zM.1 hx with q|q
  ·rcases zM.1 q with q|q
   ·rcases zM.1 q with q|q
    ·exact FF c b h.1 x q
    ·exact FF t _ h.2.1 x q
   ·exact FF e _ h.2.2 x q
  ·rw[zO.1 q];exact NQ (by omega) (by show(3 :Int)=Cz 27;decide)
 |.int i n,b,h,x,hx=>by rw[zO.1 hx];rfl
 |.text i s,b,h,x,hx=>by
  rw[zO.1 hx];have:Ci s=R:=h;show(decide (((0 :Nat):Int)=Cz 2)&&Jc ⟨2,0,s,[],[]⟩)=R;have e1:Jc ⟨2,0,s,[],[]⟩=Ci s:=by simp[Jc,U8]
  rw[e1,this];rfl
 |.bool i c,b,h,x,hx=>by rw[zO.1 hx];cases c<;>rfl
 |.set i a n c ss,b,h,x,hx=>by
  rw[zO.1 hx];have:AR ss=R:=h;show(decide (((0 :Nat):Int)=Cz 4)&&Jc ⟨4,0,⟨#[]⟩,ss,[]⟩)=R;have e1:Jc ⟨4,0,⟨#[]⟩,ss,[]⟩=R:=by
   show(AR ss&&R&&R)=R;rw[this];rfl
  rw[e1];rfl
 |.name ..,b,h,x,hx=>h.elim
 |.attr i n,b,h,x,hx=>by
  rw[zO.1 hx];have h1: 0<=n/\n<6:=h;show(decide (((0 :Nat):Int)=Cz 6)&&Jc ⟨6,n,⟨#[]⟩,[],[]⟩)=R;have e1:Jc ⟨6,n,⟨#[]⟩,[],[]⟩=R:=by
   show(decide (0<=n/\n<6)&&R&&R)=R;rw[zN h1];rfl
  rw[e1];rfl
 |.lett i n,b,h,x,hx=>by rw[zO.1 hx];rfl
theorem Afj {y:Ex}(h:DP op x y=Y z):Bv z<=Bv (.bin 0 op x y):=by
 have hy:=(Dj y).1;have v:=Fp 0 (Bv x);have w:=Fp (mx 0 (Bv x)) (Bv y);have a:∀{z:Ex},z=x\/z=y->Bv z<=Bv (.bin 0 op x y):=fun q=>by
  rw[Bv];rcases q with e|e<;>rw[e]<;>omega
 have b:∀{z:Ex},(∃c,z= .bool 0 c)->Bv z<=Bv (.bin 0 op x y):=fun ⟨c,e⟩=>by rw[e];show(1 :Int)<=mx (mx 0 (Bv x)) (Bv y)+1;omega
 by_cases d:op=25
 ·subst d;exact a (FK h)
 by_cases f:op=26
 ·subst f;exact a (FK h)
 by_cases g:op=16
 ·subst g;exact a (Kf h)
 by_cases i:op=17
 ·subst i;exact a (MN h)
 by_cases j:op=18
 ·subst j;rcases Kg h with e|e
  ·exact a (.inl e)
  ·rw[e];show(1 :Int)<=mx (mx 0 (Bv x)) (Bv y)+1;omega
 by_cases k:op=11
 ·subst k;exact a (Rh h)
 by_cases l:op=12
 ·subst l;exact a (FL h)
 by_cases m:op=13
 ·subst m;exact a (MO h)
 by_cases n:op=14
 ·subst n;exact a (FL h)
 by_cases o:op=19
 ·subst o;exact b (AW h)
 by_cases p:op=22
 ·subst p;exact b (AW h)
 by_cases r:op=20
 ·subst r;exact b (AW h)
 by_cases s:op=21
 ·subst s;exact b (AW h)
 by_cases t:op=24
 ·subst t;exact b (F7 h)
 by_cases u:op=23
 ·subst u;exact b (MM h)
 simp[DP,d,f,g,i,j,k,l,m,n,o,p,r,s,t,u]at h
theorem ZH {e:Ex}(h:e.cnt=1):Bv e=1:=by have:=Dj e;omega
theorem Iu (e:Ex):Bv (Ie ls e)<=Bv e:=by
 have h1:=(Dj e).1;unfold Ie;cases b:AP e with
 |some c=>show Bv c<=Bv e;rw[ZH (TQ b)];exact h1
 |none=>
  cases a:AV ls e with
  |none=>exact zq _
  |some c=>
   show Bv c<=Bv e;cases e with
   |lett i n=>
    rw[AV]at a;split at a
    ·split at a
     ·cases a;rename_i hc;rw[ZH (ZE hc)];exact h1
     ·cases a
    ·cases a
   |un i op k=>
    rw[AV]at a;split at a
    ·cases k with
     |un f o j=>
      rw[SJ]at a;split at a<;>cases a
      rw[Bv,Bv];have g:=Fp 0 (Bv c);have d:=Fp 0 (mx 0 (Bv c)+1);omega
     |_=>cases a
    ·cases a
   |bin i op x y=>rw[AV]at a;exact Afj a
   |ite i x y z=>
    rw[AV]at a;have d:=Fp (mx 0 (Bv x)) (Bv y);have h:=Fp (mx (mx 0 (Bv x)) (Bv y)) (Bv z);rw[Bv]
    repeat' split at a
    all_goals first|(cases a;omega)|cases a
   |_=>cases a
theorem EG {a b c d:Int}(h1:a<=c)(f:b<=d):mx a b<=mx c d:=by unfold mx;split<;>split<;>omega
theorem LS {ls:List Ex} :∀(e:Ex),Bv (AX ls e)<=Bv e
 |.un i op k=>by
  rw[AX];refine Int.le_trans (Iu _) ?_;rw[Bv,Bv];have:=EG (zq 0) (LS (ls:=ls) k);omega
 |.bin i op x y=>by
  rw[AX];refine Int.le_trans (Iu _) ?_;rw[Bv,Bv];have:=EG (EG (zq 0) (LS (ls:=ls) x)) (LS (ls:=ls) y);omega
 |.ite i x y z=>by
  rw[AX];refine Int.le_trans (Iu _) ?_;rw[Bv,Bv];have:=EG (EG (EG (zq 0) (LS (ls:=ls) x)) (LS (ls:=ls) y)) (LS (ls:=ls) z);omega
 |.int i n=>by rw[AX];exact Iu _;all_goals (intros;simp_all)
 |.text i n=>by rw[AX];exact Iu _;all_goals (intros;simp_all)
 |.bool i n=>by rw[AX];exact Iu _;all_goals (intros;simp_all)
 |.set i a n c ss=>by rw[AX];exact Iu _;all_goals (intros;simp_all)
 |.name i n=>by rw[AX];exact Iu _;all_goals (intros;simp_all)
 |.attr i n=>by rw[AX];exact Iu _;all_goals (intros;simp_all)
 |.lett i n=>by rw[AX];exact Iu _;all_goals (intros;simp_all)
theorem Ru (l:List Int):∀(e:Ex),Bv (DU l e)=Bv e
 |.un .. =>by rw[DU,Bv,Bv,Ru l]
 |.bin .. =>by rw[DU,Bv,Bv,Ru l,Ru l]
 |.ite .. =>by rw[DU,Bv,Bv,Ru l,Ru l,Ru l]
 |.int .. =>rfl
 |.text .. =>rfl
 |.bool .. =>rfl
 |.set .. =>rfl
 |.name .. =>rfl
 |.attr .. =>rfl
 |.lett .. =>rfl
def gdO (o:Option Ex):Prop:=∀e,o=Y e->Lc e/\Ix e/\Bv e<=64
def GdX (X:List Sx):Prop:=∀x∈X,gdO x.cond/\gdO x.grant
theorem Adw (h1:∀c∈ls,Lc c)(b:∀c∈ls,Ix c)(h:gdO o):gdO (o.map (AX ls)):=fun e he=>by
 cases o with
 |none=>cases he
 |some a=>
  obtain⟨d,f,g⟩:=h a rfl;cases he;exact⟨LR h1 a d,GQ b a f,Int.le_trans (LS a) g⟩
theorem ZI:∀(b:List Sx) (ls:List Ex),(∀c∈ls,Lc c)->(∀c∈ls,Ix c)->GdX b->GdX (DT ls b)
 |[],_,_,_,_,x,hx=>by cases hx
 |x ::b,ls,h1,h2,h,y,hy=>by
  rw[DT]at hy;have hx:=h x zS;have c1:=Adw h1 h2 hx.1;rcases zT.1 hy with e|e
  ·rw[e];exact⟨c1,Adw h1 h2 hx.2⟩
  ·have d:∀c∈SL ls (Ga ls x),Lc c/\Ix c:=fun c hc=>by
    rw[SL]at hc;split at hc
    ·rcases zM.1 hc with q|q
     ·exact⟨h1 c q,h2 c q⟩
     ·rw[zO.1 q];cases f:(Ga ls x).cond with
      |none=>exact⟨trivial,trivial⟩
      |some a=>exact⟨(c1 a f).1,(c1 a f).2.1⟩
    ·exact⟨h1 c hc,h2 c hc⟩
   exact ZI b _ (fun c hc=>(d c hc).1) (fun c hc=>(d c hc).2) (fun z g=>h z (za _ g)) y e
theorem ZJ:∀(a:List Sx),GdX a->GdX (Ee a)
 |[],_,x,hx=>by cases hx
 |x ::a,h,y,hy=>by
  have b:=ZJ a (fun z c=>h z (za _ c));rw[Ee]at hy;split at hy
  ·exact b y hy
  ·split at hy
   ·rw[zO.1 hy];exact⟨fun e he=>(by cases he),(h x zS).2⟩
   ·rcases zT.1 hy with e|e
    ·rw[e];exact h x zS
    ·exact b y e
theorem Rv (l:List Int):∀(e:Ex),Ix e->Ix (DU l e)
 |.un _ _ k,h=>Rv l k h
 |.bin _ _ x y,h=>⟨Rv l x h.1,Rv l y h.2⟩
 |.ite _ x y z,h=>⟨Rv l x h.1,Rv l y h.2.1,Rv l z h.2.2⟩
 |.int ..,h=>h
 |.text ..,h=>h
 |.bool ..,h=>h
 |.set ..,h=>h
 |.name ..,h=>h
 |.attr ..,h=>h
 |.lett ..,h=>h
theorem Adx (l:List Int)(h:gdO o):gdO (o.map (DU l)):=fun e he=>by
 cases o with
 |none=>cases he
 |some a=>
  obtain⟨b,c,d⟩:=h a rfl;cases he;exact⟨Rt l a b,Rv l a c,by rw[Ru];exact d⟩
theorem Jo:∀(a:List Sx) (n:Int),((G3 n a).map Prod.fst).Sublist a
 |[],_=>List.Sublist.slnil
 |x ::a,n=>by
  rw[G3];split
  ·split
   ·exact(Jo a (n+1)).cons x
   ·exact(Jo a (n+1)).cons_cons x
  ·exact(Jo a n).cons_cons x
theorem Rw (X:List Sx):YD X=((G3 0 X).map Prod.fst).map (PI (Dp (G3 0 X))):=by rw[YD,z7];rfl
theorem Y7 {X:List Sx}(h:GdX X):GdX (DE X):=by
 have h1:=ZJ _ (ZI X [] (fun c hc=>by cases hc) (fun c hc=>by cases hc) h);intro y hy;rw[DE,Rw]at hy;obtain⟨z,a,rfl⟩:=zn.1 hy;have:=h1 z ((Jo _ 0).subset a);exact⟨Adx _ this.1,Adx _ this.2⟩
def MR:List Sx->Prop
 |[]=>False
 |x ::Xx=>(x.kind=3/\Xx=[])\/(x.kind≠3/\MR Xx)
def nmX (X:List Sx):Prop:=∀x∈X,(x.kind=1->Ek x.name=R)/\(x.kind≠1->x.name=⟨#[]⟩)
def Pj (X:List Sx):List ByteArray:=(X.filter fun x=>decide (x.kind=1)).map Sx.name
theorem WN:∀{b:List Sx},MR b->Afe b
 |x ::b,h=>by
  rcases h with⟨h1,a⟩|⟨h1,a⟩
  ·exact⟨fun _=>a,by rw[a];trivial⟩
  ·exact⟨fun e=>absurd e h1,WN a⟩
theorem WO:∀(a:List Sx) (ls:List Ex),MR a->MR (DT ls a)
 |x ::a,ls,h=>by
  rw[DT];rcases h with⟨h1,b⟩|⟨h1,b⟩
  ·exact .inl ⟨h1,by rw[b];rfl⟩
  ·exact .inr ⟨h1,WO a _ b⟩
theorem ZK:∀(a:List Sx) (ls:List Ex),nmX a->nmX (DT ls a)/\Pj (DT ls a)=Pj a
 |[],_,_=>⟨fun x hx=>(by cases hx),rfl⟩
 |x ::a,ls,h=>by
  rw[DT];obtain⟨c,b⟩:=ZK a (SL ls (Ga ls x)) (fun z d=>h z (za _ d));refine⟨fun y hy=>?_,?_⟩
  ·rcases zT.1 hy with e|e
   ·rw[e];exact h x zS
   ·exact c y e
  ·unfold Pj at b|-;by_cases hk:x.kind=1
   ·rw[List.filter_cons_of_pos (by exact zN (show(Ga ls x).kind=1 from hk)),List.filter_cons_of_pos (by exact zN hk),List.map_cons,List.map_cons,b];rfl
   ·rw[List.filter_cons_of_neg (by rw[zG];exact(show ¬ (Ga ls x).kind=1 from hk)),List.filter_cons_of_neg (by rw[zG];exact hk),b]
theorem WQ:∀(a:List Sx),MR a->MR (Ee a)
 |x ::a,h=>by
  rw[Ee];rcases h with⟨h1,b⟩|⟨h1,b⟩
  ·rw[if_neg (by omega),if_neg (by omega),b];exact .inl ⟨h1,rfl⟩
  ·have c:=WQ a b;split
   ·exact c
   ·split
    ·exact .inl ⟨rfl,rfl⟩
    ·exact .inr ⟨h1,c⟩
theorem Afk (h:A.Sublist B):(Pj A).Sublist (Pj B):=(h.filter _).map _
theorem ZL:∀(a:List Sx),nmX a->nmX (Ee a)/\(Pj (Ee a)).Sublist (Pj a)
 |[],_=>⟨fun x hx=>(by cases hx),List.Sublist.slnil⟩
 |x ::a,h=>by
  obtain⟨d,b⟩:=ZL a (fun z f=>h z (za _ f));have c:∀(Y:List Sx),Pj (x ::Y)=if x.kind=1 then x.name ::Pj Y else Pj Y:=fun Y=>by
   unfold Pj;by_cases hk:x.kind=1
   ·rw[List.filter_cons_of_pos (by exact zN hk),if_pos hk];rfl
   ·rw[List.filter_cons_of_neg (by simpa using hk),if_neg hk]
  rw[Ee];split
  ·refine⟨d,?_⟩;rw[c];split
   ·exact b.cons _
   ·exact b
  ·split
   ·refine⟨fun y hy=>?_,?_⟩
    ·rw[zO.1 hy];exact⟨fun e=>absurd (show(3 :Int)=1 from e) (by decide),fun _=>rfl⟩
    ·exact List.nil_sublist _
   ·refine⟨fun y hy=>?_,?_⟩
    ·rcases zT.1 hy with e|e
     ·rw[e];exact h x zS
     ·exact d y e
    ·rw[c,c];split
     ·exact b.cons_cons _
     ·exact b
theorem PK:∀(a:List Sx) (n:Int) (l:List Int),MR a->MR (((G3 n a).map Prod.fst).map (PI l))
 |x ::a,n,l,h=>by
  rw[G3];rcases h with⟨h1,b⟩|⟨h1,b⟩
  ·rw[if_neg (by omega),b];exact .inl ⟨h1,rfl⟩
  ·split
   ·split
    ·exact PK a (n+1) l b
    ·exact .inr ⟨h1,PK a (n+1) l b⟩
   ·exact .inr ⟨h1,PK a n l b⟩
theorem Ady (l:List Int)(X:List Sx):Pj (X.map (PI l))=Pj X:=by
 unfold Pj;rw[List.filter_map,z7];rfl
theorem Afl {X:List Sx}(h1:MR X)(a:nmX X):MR (DE X)/\nmX (DE X)/\(Pj (DE X)).Sublist (Pj X):=by
 have a1:=WQ _ (WO X [] h1);obtain⟨b1,b2⟩:=ZK X [] a;obtain⟨c1,c2⟩:=ZL _ b1;rw[DE,Rw];refine⟨PK _ 0 _ a1,fun y hy=>?_,?_⟩
 ·obtain⟨z,b,rfl⟩:=zn.1 hy;exact c1 z ((Jo _ 0).subset b)
 ·rw[Ady,<-b2];exact(Afk (Jo _ 0)).trans c2
theorem Adz (a:List Sx):(DE a).length<=a.length:=by
 have l1:∀(a:List Sx) (ls:List Ex),(DT ls a).length=a.length:=fun a=>by
  induction a with
  |nil=>intro ls;rfl
  |cons x a b=>intro ls;rw[DT,List.length_cons,List.length_cons,b]
 have c:∀(a:List Sx),(Ee a).length<=a.length:=fun a=>by
  induction a with
  |nil=>exact NLN
  |cons x a b=>
   rw[Ee,List.length_cons];split
   ·omega
   ·split
    ·simp
    ·rw[List.length_cons];omega
 rw[DE,Rw,zU];have:=(Jo (Ee (DT [] a)) 0).length_le;have:=c (DT [] a);rw[l1]at this;omega
theorem ZM:∀(a:List Sx) (b:Nat) (ts:List Int),Mg ts a->MR a->nmX a->EM (Dv b a)=R
 |x ::a,b,ts,h,he,hn=>by
  have hx:=hn x zS;have hs:J0 ⟨x.kind,x.name,JG x.cond b,JG x.grant (b+Bc x.cond)⟩=R:=by
   rcases h with⟨k,e,t,h1,d,f,c⟩|⟨k,h1,f,c⟩|⟨k,h1,f,c⟩
   ·simp[J0,k,hx.1 k,f,JG]
   ·rw[J0,if_neg (by show ¬ x.kind=1;omega),if_pos (show x.kind=2 from k)];show decide (x.name.size=0)=R;rw[hx.2 (by omega)];rfl
   ·rw[J0,if_neg (by show ¬ x.kind=1;omega),if_neg (by show ¬ x.kind=2;omega),if_pos (show x.kind=3 from k)];show(decide (x.name.size=0)&&decide (JG x.cond b= -1))=R;rw[hx.2 (by omega),h1];rfl
  rw[Dv,EM,hs];rcases he with⟨h1,d⟩|⟨h1,d⟩
  ·rw[d];simp[Dv,EM,h1]
  ·have g:∃i,Mg i a:=by
    rcases h with⟨_,_,t,_,_,_,c⟩|⟨_,_,_,c⟩|⟨_,_,_,c⟩
    ·exact⟨_,c⟩
    ·exact⟨_,c⟩
    ·exact⟨_,c⟩
   obtain⟨i,g⟩:=g;rw[ZM a _ i g d (fun z j=>hn z (za _ j))];cases a with
   |nil=>exact d.elim
   |cons y l=>simp[Dv,h1]
theorem LT:∀(a:List Sx) (b:Nat),GdX a->∀x∈DG b a,Bb x=R
 |[],_,_,x,hx=>by cases hx
 |y ::a,b,h,x,hx=>by
  have hy:=h y zS;have d:∀(o:Option Ex) (c:Nat),gdO o->x∈Pu o c->Bb x=R:=fun o c g f=>by
   cases o with
   |none=>cases f
   |some e=>exact FF e c (g e rfl).1 x f
  rw[DG]at hx;rcases zM.1 hx with q|q
  ·rcases zM.1 q with q|q
   ·exact d _ _ hy.1 q
   ·exact d _ _ hy.2 q
  ·exact LT a _ (fun z i=>h z (za _ i)) x q
theorem AdA {a:List Sx}(h1:Mg [] a)(d:GdX a)(g:MR a)(b:nmX a)(hc:Cn a<=4000)(m:a.length<=600):CR (DG 0 a) (Dv 0 a)=R:=by
 have n:∀(a:List Sx) (ts:List Int),Mg ts a->∀x∈a,(x.kind=3↔x.cond=T):=fun a=>by
  induction a with
  |nil=>intro ts _ x hx;cases hx
  |cons y a f=>
   intro ts h x hx;rcases zT.1 hx with e|e
   ·subst e;rcases h with⟨k,e,t,c,_⟩|⟨k,⟨e,c,_⟩,_⟩|⟨k,c,_⟩
    ·simp[k,c]
    ·simp[k,c]
    ·simp[k,c]
   ·rcases h with⟨_,_,t,_,_,_,b⟩|⟨_,_,_,b⟩|⟨_,_,_,b⟩
    ·exact f _ b x e
    ·exact f _ b x e
    ·exact f _ b x e
 have i:∀{o:Option Ex},gdO o->dpO o<=64:=fun {o} h=>by
  cases o with
  |none=>exact(by decide:(0 :Int)<=64)
  |some e=>exact(h e rfl).2.2
 obtain⟨u,p,q,r⟩:=QO (DG 0 a) a 0 (fun j y hy=>by rw[zP];exact hy) (fun y hy=>⟨i (d y hy).1,i (d y hy).2,n a [] h1 y hy⟩);have l:=Pl p [] r;rw[zP,Nat.sub_zero,List.nil_append,<-IQ a 0]at l;have s: 1<=a.length:=by
  cases a with
  |nil=>exact g.elim
  |cons=>simp
 simp only[CR,zD,zG];refine⟨⟨⟨by rw[IQ];exact hc,⟨by rw[IR];exact s,by rw[IR];exact m⟩,ZM a 0 [] h1 g b⟩,zt.2 (LT a 0 d)⟩,?_⟩;rw[GK,l];exact zN q
theorem Bu.gd (j:∀x∈N,Bb x=R){i:Nat}{e:Ex}(t:Bu N i e):Lc e:=by
 have fld:∀{i:Nat} {x:Nd},N[i]? =Y x->Jc x=R:=fun h=>by
  have:=j _ (zu h);rw[Bb,zD]at this;exact this.2
 induction t with
 |int h b hk=>trivial
 |@text i x h b hk=>
  have d:=fld h;rw[Jc,if_neg (by omega),if_neg (by omega),if_neg (by omega),U8,if_neg (by omega),if_pos b]at d;simp only[zD]at d;exact d.1.1
 |bool h b hk=>trivial
 |@set i x h b hk a n c=>
  have d:=fld h;rw[Jc,if_neg (by omega),if_neg (by omega),if_neg (by omega),U8,if_neg (by omega),if_neg (by omega),if_neg (by omega),if_pos b]at d;simp only[zD]at d;exact d.1.1
 |name h b hk=>have d:=fld h;rw[Jc,if_pos b]at d;cases d
 |@attr i x h b hk=>
  have d:=fld h;rw[Jc,if_neg (by omega),if_pos b]at d;simp only[zD,zG]at d;exact d.1.1
 |lett h b hk=>trivial
 |un h b hk hi t k=>exact⟨b,k⟩
 |bin h b hk hi t u f g=>exact⟨b,f,g⟩
 |ite h b hk hi t u v f g l=>exact⟨f,g,l⟩
theorem Bu.ok (g:∀x∈N,FJ x.num/\x.names.length<=1048576){i:Nat}{e:Ex}(t:Bu N i e):Ix e:=by
 induction t with
 |int h b hk=>exact(g _ (zu h)).1
 |set h b hk a n c=>exact(g _ (zu h)).2
 |un h b hk hi t j=>exact j
 |bin h b hk hi t u d f=>exact⟨d,f⟩
 |ite h b hk hi t u v d f k=>exact⟨d,f,k⟩
 |_=>trivial
theorem ZN {p:Nat×Nat} :∀{a:List (Nat×Nat)},p∈a->p.2<=Cq a
 |q ::a,h=>by
  rw[Cq];rcases zT.1 h with e|e
  ·rw[e];omega
  ·have:=ZN e;omega
theorem Aa9 {a:Nat}{l:List (Nat×Nat)}(h:Ay (N.map Nd.kids) a l b):∀p∈l,∀e,Bu N p.1 e->Bv e<=p.2:=by
 induction h with
 |nil a=>intro p hp;cases hp
 |@cons a t b d l hk r z u v=>
  intro p hp e he;rcases zT.1 hp with q|q
  ·subst q;dsimp only at he|-;have w:∀{x:Nd},N[t]? =Y x->x.kids=As d:=fun hx=>by
    rw[zk,hx]at r;exact Option.some.inj r
   have g:∀{x:Nd} {k:Nat} {f:Ex},N[t]? =Y x->(k:Int)∈x.kids->Bu N k f->Bv f<=Cq d:=fun {x k f} hx hm hf'=>by
    rw[w hx,As]at hm;obtain⟨p,hp,e⟩:=zn.1 hm;have e2:p.1=k:=by omega
    have:=u p hp f (by rw[e2];exact hf');have:=ZN hp;omega
   have e0:mx 0 (Cq d:Int)=Cq d:=by unfold mx;split<;>omega
   have e1:mx (Cq d:Int) (Cq d)=Cq d:=by unfold mx;split<;>rfl
   cases he with
   |un h s c hi i=>
    have:=g h (by rw[c];simp) i;rw[Bv];have j:=EG (zq 0) this;rw[e0]at j;omega
   |bin h s c hi i m=>
    have n:=g h (by rw[c];simp) i;have o:=g h (by rw[c];simp) m;rw[Bv];have j:=EG (EG (zq 0) n) o;rw[e0,e1]at j;omega
   |ite h s c hi i m v'=>
    have n:=g h (by rw[c];simp) i;have o:=g h (by rw[c];simp) m;have y:=g h (by rw[c];simp) v';rw[Bv];have j:=EG (EG (EG (zq 0) n) o) y;rw[e0,e1,e1]at j;omega
   |int=>show(1 :Int)<=_;omega
   |text=>show(1 :Int)<=_;omega
   |bool=>show(1 :Int)<=_;omega
   |set=>show(1 :Int)<=_;omega
   |name=>show(1 :Int)<=_;omega
   |attr=>show(1 :Int)<=_;omega
   |lett=>show(1 :Int)<=_;omega
  ·exact v p q e he
def LtF (ns:List ByteArray) (X:List Sx):Prop:=(Pj X).Nodup/\∀a∈Pj X,a ∉ ns
theorem LtF.sub {ns:List ByteArray}{X Y:List Sx}(h:LtF ns X)(hs:(Pj Y).Sublist (Pj X)):LtF ns Y:=⟨h.1.sublist hs,fun a b=>h.2 a (hs.subset b)⟩
theorem ZO {x:Sx}{X:List Sx}(h:x.kind=1):Pj (x ::X)=x.name ::Pj X:=by
 unfold Pj;rw[List.filter_cons_of_pos (by exact zN h)];rfl
theorem UK {x:Sx}{X:List Sx}(h:x.kind≠1):Pj (x ::X)=Pj X:=by
 unfold Pj;rw[List.filter_cons_of_neg (by rw[zG];exact h)]
theorem ZP (Es:List Ex):∀(L:List St) (i:Nat),EM L=R->1<=L.length->MR (Nf Es i L)
 |s ::L,i,h,_=>by
  simp only[EM,zD,zF]at h;obtain⟨⟨h1,a⟩,b⟩:=h;rw[Nf];cases L with
  |nil=>exact .inl ⟨of_decide_eq_true (by rw[a];rfl),rfl⟩
  |cons s2 L=>exact .inr ⟨of_decide_eq_false (by rw[a];rfl),ZP Es (s2 ::L) (i+1) b (by simp)⟩
theorem ZQ (Es:List Ex):∀(L:List St) (i:Nat) (ns:List ByteArray) (ts tt:List Int) (j:MB),CT Es (ns,ts,tt) L=Y j->EM L=R->(∀s∈L,(s.kind≠3->0<=s.cond)/\(s.grant= -1\/0<=s.grant))->
  Mg ts (Nf Es i L)/\nmX (Nf Es i L)/\LtF ns (Nf Es i L)
 |[],_,_,_,_,_,_,_,_=>⟨trivial,fun x hx=>(by cases hx),List.nodup_nil,fun a u=>(by cases u)⟩
 |s ::L,i,ns,ts,tt,j,h,hs,hr=>by
  simp only[EM,zD,zF]at hs;obtain⟨⟨b,J⟩,v⟩:=hs;have z:=hr s zS;have w:=fun x hx=>hr x (za _ hx);rw[CT,LG]at h;have D:∀{s1 s2:MB},Cc Es s1 s=Y s2->s2.1=s1.1/\s2.2.1=s1.2.1/\tyG s1.2.1 (BV Es s.grant):=fun {s1 s2} hg=>by
   rw[Cc]at hg;unfold BV;split at hg
   ·cases hg;rename_i hm;rw[if_pos hm];exact⟨rfl,rfl,trivial⟩
   ·rename_i hm;rw[if_neg hm];split at hg
    ·rename_i e he;rw[he];unfold ckG at hg;split at hg
     ·rename_i t f;split at hg
      ·rename_i E;cases hg;exact⟨rfl,rfl,by show AE _ e=Y 4;rw[<-E];exact f⟩
      ·cases hg
     ·cases hg
    ·cases hg
  cases hc:CA Es (ns,ts,tt) s with
  |none=>rw[hc]at h;cases h
  |some s1=>
   rw[hc]at h;simp only[Z7]at h;cases hg:Cc Es s1 s with
   |none=>rw[hg]at h;cases h
   |some s2=>
    rw[hg]at h;simp only[Z7]at h;obtain⟨c,d,l⟩:=D hg;rw[Nf];unfold J0 at b;split at b
    ·rename_i k;simp only[zD,zG]at b;have F:=z.1 (by omega);rw[CA,if_neg (by omega)]at hc;split at hc
     ·rename_i e he;unfold Wf at hc;rw[if_pos k]at hc;split at hc
      ·rename_i t f;split at hc
       ·cases hc
       ·rename_i A;cases hc;dsimp only at c d l A f;obtain⟨B,C,m⟩:=s2;dsimp only at c d;subst c d;obtain⟨n,o,g⟩:=ZQ Es L (i+1) _ _ m j h v w;have p:BV Es s.cond=Y e:=by rw[BV,if_neg (by omega),he]
        have G:BV Es s.grant=T:=by rw[BV,if_pos b.2]
        refine⟨.inl ⟨k,e,t,p,f,G,n⟩,fun y hy=>?_,?_⟩
        ·rcases zT.1 hy with q|q
         ·rw[q];exact⟨fun _=>b.1,fun q=>absurd k q⟩
         ·exact o y q
        ·rw[LtF,ZO (show(⟨(i:Int),s.kind,s.name,BV Es s.cond,BV Es s.grant⟩:Sx).kind=1 from k)];refine⟨List.nodup_cons.2 ⟨fun hm=>g.2 _ hm (by simp),g.1⟩,fun a u=>?_⟩;rcases zT.1 u with q|q
         ·rw[q];exact A
         ·exact fun hm=>g.2 a q (Z8 _ hm)
      ·cases hc
     ·cases hc
    ·rename_i r;split at b
     ·rename_i k;have H:=of_decide_eq_true b;have F:=z.1 (by omega);rw[CA,if_neg (by omega)]at hc;split at hc
      ·rename_i e he;unfold Wf at hc;rw[if_neg r]at hc;split at hc
       ·rename_i t f;split at hc
        ·rename_i I;cases hc;dsimp only at c d l f;obtain⟨B,C,m⟩:=s2;dsimp only at c d;subst c d;obtain⟨n,o,g⟩:=ZQ Es L (i+1) _ _ m j h v w;have p:BV Es s.cond=Y e:=by rw[BV,if_neg (by omega),he]
         refine⟨.inr (.inl ⟨k,⟨e,p,by rw[<-I];exact f⟩,l,n⟩),fun y hy=>?_,?_⟩
         ·rcases zT.1 hy with q|q
          ·rw[q];exact⟨fun q=>absurd q r,fun _=>CQ H⟩
          ·exact o y q
         ·rw[LtF,UK (show(⟨(i:Int),s.kind,s.name,BV Es s.cond,BV Es s.grant⟩:Sx).kind≠1 from r)];exact g
        ·cases hc
       ·cases hc
      ·cases hc
     ·split at b
      ·rename_i k;simp only[zD,zG]at b;rw[CA,if_pos b.2]at hc;cases hc;dsimp only at c d l;obtain⟨B,C,m⟩:=s2;dsimp only at c d;subst c d;obtain⟨n,o,g⟩:=ZQ Es L (i+1) _ _ m j h v w;have p:BV Es s.cond=T:=by rw[BV,if_pos b.2]
       refine⟨.inr (.inr ⟨k,p,l,n⟩),fun y hy=>?_,?_⟩
       ·rcases zT.1 hy with q|q
        ·rw[q];exact⟨fun q=>absurd q r,fun _=>CQ b.1⟩
        ·exact o y q
       ·rw[LtF,UK (show(⟨(i:Int),s.kind,s.name,BV Es s.cond,BV Es s.grant⟩:Sx).kind≠1 from r)];exact g
      ·cases b
theorem LU {N:List Nd} :∀(e:Ex) (b:Nat),GM N b (Eg e b)->Lc e->∃f,Bu N (b+e.cnt-1) f/\∀ts,AE ts f=AE ts e/\CB ts f=CB ts e
 |.un i op k,b,h,g=>by
  rw[Eg]at h;obtain⟨f,h1,d⟩:=LU k b h.left g.2;have hx:=h.right (AK k b) 0 _ rfl;rw[ze]at hx;have c1:=k.cnt1;have e1:b+(Ex.un i op k).cnt-1=b+k.cnt:=by simp only[Ex.cnt];omega
  refine⟨.un (b+k.cnt:Nat) op f,?_,fun ts=>?_⟩
  ·rw[e1];exact Bu.un (k:=b+k.cnt-1) hx g.1 rfl (by omega) h1
  ·obtain⟨j,o⟩:=d ts;have e2:AE ts (.un (b+k.cnt:Nat) op f)=AE ts (.un i op k):=by rw[AE,AE,j]
   exact⟨e2,by rw[CB,CB,o,e2]⟩
 |.bin i op l r,b,h,g=>by
  rw[Eg]at h;obtain⟨f,h1,d⟩:=LU l b h.left.left g.2.1;obtain⟨p,q,s⟩:=LU r (b+l.cnt) (h.left.right (AK l b)) g.2.2;have hx:=h.right (k:=l.cnt+r.cnt) (by rw[zB,AK,AK]) 0 _ rfl;rw[ze]at hx;have c1:=l.cnt1;have c2:=r.cnt1;have e1:b+(Ex.bin i op l r).cnt-1=b+(l.cnt+r.cnt):=by simp only[Ex.cnt];omega
  refine⟨.bin (b+(l.cnt+r.cnt):Nat) op f p,?_,fun ts=>?_⟩
  ·rw[e1];exact Bu.bin (k:=b+l.cnt-1) (l:=b+l.cnt+r.cnt-1) hx g.1 rfl (by omega) h1 q
  ·obtain⟨j,o⟩:=d ts;obtain⟨u,v⟩:=s ts;have e2:AE ts (.bin (b+(l.cnt+r.cnt):Nat) op f p)=AE ts (.bin i op l r):=by rw[AE,AE,j,u]
   exact⟨e2,by rw[CB,CB,o,v,e2]⟩
 |.ite i c t e,b,h,g=>by
  rw[Eg]at h;obtain⟨f,h1,d⟩:=LU c b h.left.left.left g.1;obtain⟨p,q,s⟩:=LU t (b+c.cnt) (h.left.left.right (AK c b)) g.2.1;have w:GM N (b+(c.cnt+t.cnt)) (Eg e (b+c.cnt+t.cnt)):=h.left.right (by rw[zB,AK,AK]);rw[<-Z1]at w;obtain⟨x,y,z⟩:=LU e (b+c.cnt+t.cnt) w g.2.2;have hx:=h.right (k:=c.cnt+t.cnt+e.cnt) (by rw[zB,zB,AK,AK,AK]) 0 _ rfl;rw[ze]at hx;have c1:=c.cnt1;have c2:=t.cnt1;have c3:=e.cnt1;have e1:b+(Ex.ite i c t e).cnt-1=b+(c.cnt+t.cnt+e.cnt):=by simp only[Ex.cnt];omega
  refine⟨.ite (b+(c.cnt+t.cnt+e.cnt):Nat) f p x,?_,fun ts=>?_⟩
  ·rw[e1];exact Bu.ite (k:=b+c.cnt-1) (l:=b+c.cnt+t.cnt-1) (m:=b+c.cnt+t.cnt+e.cnt-1) hx rfl rfl (by omega) h1 q y
  ·obtain⟨j,o⟩:=d ts;obtain⟨u,v⟩:=s ts;obtain⟨A,B⟩:=z ts;have e2:AE ts (.ite (b+(c.cnt+t.cnt+e.cnt):Nat) f p x)=AE ts (.ite i c t e):=by rw[AE,AE,j,u,A]
   exact⟨e2,by rw[CB,CB,o,v,B,e2]⟩
 |.int i n,b,h,g=>⟨_,Bu.int (h 0 _ rfl) rfl rfl,fun ts=>⟨rfl,rfl⟩⟩
 |.text i n,b,h,g=>⟨_,Bu.text (h 0 _ rfl) rfl rfl,fun ts=>⟨rfl,rfl⟩⟩
 |.bool i n,b,h,g=>⟨_,Bu.bool (h 0 _ rfl) rfl rfl,fun ts=>⟨rfl,rfl⟩⟩
 |.set i a n c ss,b,h,g=>⟨_,Bu.set (h 0 _ rfl) rfl rfl T 0 0,fun ts=>⟨rfl,rfl⟩⟩
 |.name i n,b,h,g=>g.elim
 |.attr i n,b,h,g=>⟨_,Bu.attr (h 0 _ rfl) rfl rfl,fun ts=>⟨rfl,rfl⟩⟩
 |.lett i n,b,h,g=>⟨_,Bu.lett (h 0 _ rfl) rfl rfl,fun ts=>⟨rfl,rfl⟩⟩
def WR (ts:List Int):Option Ex->List Int
 |none=> []
 |some e=>CB ts e
def WS:List Int->List Sx->List Int
 |_,[]=> []
 |ts,x ::Xx=>WR ts x.cond++WR (if x.kind=1 then ts++[((x.cond.bind (AE ts)).getD 0)]else ts) x.grant++WS (if x.kind=1 then ts++[((x.cond.bind (AE ts)).getD 0)]else ts) Xx
theorem UL {N:List Nd}(h5:∀x∈N,x.op≠5){Es:List Ex}(p:Es.length=N.length)(r:∀j,(h:j<Es.length)->Bu N j Es[j]):∀(d:List Sx) (b:Nat) (ns:List ByteArray) (ts tt:List Int),GM N b (DG b d)->Mg ts d->LtF ns d->GdX d->
  ∃n1 i,CT Es (ns,ts,tt) (Dv b d)=Y (n1,i,tt++WS ts d)
 |[],b,ns,ts,tt,_,_,_,_=>⟨ns,ts,by rw[Dv,CT,WS,zd]⟩
 |x ::d,b,ns,ts,tt,hR,h,hL,hG=>by
  rw[DG]at hR;have B:=hR.left.left;have F:=hR.left.right (Jk x.cond b);have s:=hR.right (k:=Bc x.cond+Bc x.grant) (by rw[zB,Jk,Jk]);rw[<-Z1]at s;have hx:=hG x zS;have v:GdX d:=fun z G=>hG z (za _ G);have w:∀(o:Option Ex) (c:Nat),GM N c (Pu o c)->gdO o->∀e,o=Y e->∃f,JG o c≠-1/\Es[(JG o c).toNat]? =Y f/\∀ts,AE ts f=AE ts e/\CB ts f=CB ts e:=fun o c H hg e he=>by
   subst he;obtain⟨f,f1,f2⟩:=LU e c H (hg e rfl).1;have I:=f1.lt;have e1:JG (Y e) c=((c+e.cnt-1 :Nat):Int):=rfl;have C:c+e.cnt-1<Es.length:=by rw[p];exact I
   refine⟨Es[c+e.cnt-1],by rw[e1];omega,by rw[e1,zb];exact zL C,fun ts=>?_⟩;have q:=AdB h5 (r _ C) f1 ts;have D:=f2 ts;exact⟨q.1.trans D.1,q.2.trans D.2⟩
  have y:∀(ns:List ByteArray) (ts tt:List Int),tyG ts x.grant->Cc Es (ns,ts,tt) ⟨x.kind,x.name,JG x.cond b,JG x.grant (b+Bc x.cond)⟩=Y (ns,ts,tt++WR ts x.grant):=fun ns ts tt hg=>by
   cases E:x.grant with
   |none=>
    rw[Cc,if_pos (show JG T (b+Bc x.cond)= -1 from rfl)];simp[WR]
   |some e=>
    obtain⟨f,f1,f2,g⟩:=w x.grant _ F hx.2 e E;rw[E]at f1 f2 hg;rw[Cc,if_neg f1];dsimp only;rw[f2];dsimp only;rw[(g ts).1,(g ts).2,show AE ts e=Y 4 from hg];rfl
  rw[Dv,CT,LG];rcases h with⟨k,e,t,h1,u,l,m⟩|⟨k,⟨e,h1,u⟩,l,m⟩|⟨k,h1,l,m⟩
  ·obtain⟨f,f1,f2,g⟩:=w x.cond _ B hx.1 e h1;rw[LtF,ZO k]at hL;have J:x.name ∉ ns:=hL.2 _ zS;have hc:CA Es (ns,ts,tt) ⟨x.kind,x.name,JG x.cond b,JG x.grant (b+Bc x.cond)⟩=Y (ns++[x.name],ts++[t],tt++WR ts x.cond):=by
    rw[CA,if_neg f1];dsimp only;rw[f2];dsimp only;unfold Wf;rw[if_pos (show x.kind=1 from k),(g ts).1,(g ts).2,u];dsimp only;rw[if_neg J,h1];rfl
   rw[hc,Z7,y _ _ _ (by rw[l];trivial),Z7];obtain⟨n1,i,n⟩:=UL h5 p r d _ (ns++[x.name]) (ts++[t]) ((tt++WR ts x.cond)++WR (ts++[t]) x.grant) s m ⟨(List.nodup_cons.1 hL.1).2,fun a A hm=>by
    rcases zM.1 hm with q|q
    ·exact hL.2 a (za _ A) q
    ·rw[zO.1 q]at A;exact(List.nodup_cons.1 hL.1).1 A⟩ v
   refine⟨n1,i,?_⟩;rw[n,WS,if_pos k,h1,Z7,u,Option.getD_some,<-h1];simp only[zJ]
  ·obtain⟨f,f1,f2,g⟩:=w x.cond _ B hx.1 e h1;rw[LtF,UK (by omega)]at hL;have hc:CA Es (ns,ts,tt) ⟨x.kind,x.name,JG x.cond b,JG x.grant (b+Bc x.cond)⟩=Y (ns,ts,tt++WR ts x.cond):=by
    rw[CA,if_neg f1];dsimp only;rw[f2];dsimp only;unfold Wf;rw[if_neg (show ¬ x.kind=1 by omega),(g ts).1,(g ts).2,u];dsimp only;rw[if_pos rfl,h1];rfl
   rw[hc,Z7,y _ _ _ l,Z7];obtain⟨n1,i,n⟩:=UL h5 p r d _ ns ts ((tt++WR ts x.cond)++WR ts x.grant) s m hL v;refine⟨n1,i,?_⟩;rw[n,WS,if_neg (by omega)];simp only[zJ]
  ·rw[LtF,UK (by omega)]at hL;have hc:CA Es (ns,ts,tt) ⟨x.kind,x.name,JG x.cond b,JG x.grant (b+Bc x.cond)⟩=Y (ns,ts,tt++WR ts x.cond):=by
    rw[h1,CA,if_pos (show JG T b= -1 from rfl)];simp[WR]
   rw[hc,Z7,y _ _ _ l,Z7];obtain⟨n1,i,n⟩:=UL h5 p r d _ ns ts ((tt++WR ts x.cond)++WR ts x.grant) s m hL v;refine⟨n1,i,?_⟩;rw[n,WS,if_neg (by omega)];simp only[zJ]
theorem ZR:∀(a:List Sx) (ts:List Int),(WS ts a).length=Cn a
 |[],_=>rfl
 |x ::a,ts=>by
  have b:∀(o:Option Ex) (ts:List Int),(WR ts o).length=Bc o:=fun o ts=>by
   cases o with
   |none=>rfl
   |some e=>exact Fg ts e
  rw[WS,zB,zB,b,b,ZR a,BI]
section
variable {aS aO aZ aW : Addr} {G : Nat -> Prop}
end
section
variable {G : Nat -> Prop}
end
section
variable {aS aO aZ aW : Addr} {G : Nat -> Prop}
end
def Ih (x:Sx):Sx:=⟨0,x.kind,x.name,x.cond.map Ex.st,x.grant.map Ex.st⟩
theorem AgN (ls:List Ex)(o:Option Ex):(o.map Ex.st).map (AX (ls.map Ex.st))=(o.map (AX ls)).map Ex.st:=by
 cases o with
 |none=>rfl
 |some e=>exact congrArg Y (LP ls e)
theorem AgO (ls:List Ex)(x:Sx):Ga (ls.map Ex.st) (Ih x)=Ih (Ga ls x):=by
 simp only[Ga,Ih,AgN]
theorem AgP (ls:List Ex)(x:Sx):SL (ls.map Ex.st) (Ih x)=(SL ls x).map Ex.st:=by
 unfold SL;by_cases h:x.kind=1
 ·rw[if_pos (show(Ih x).kind=1 from h),if_pos h];simp only[Ih];cases x.cond<;>simp[Ex.st]
 ·rw[if_neg (show ¬ (Ih x).kind=1 from h),if_neg h]
theorem Aab:∀(a:List Sx) (ls:List Ex),DT (ls.map Ex.st) (a.map Ih)=(DT ls a).map Ih
 |[],ls=>rfl
 |x ::a,ls=>by rw[List.map_cons,DT,DT,List.map_cons,AgO,AgP,Aab a]
theorem AfB (b:Bool)(o:Option Ex):La b (o.map Ex.st)=La b o:=by cases o with|none=>rfl|some e=>exact LO b e
theorem UR:∀(a:List Sx),Ee (a.map Ih)=(Ee a).map Ih
 |[]=>rfl
 |x ::a=>by
  rw[List.map_cons,Ee,Ee];simp only[Ih,AfB];split
  ·exact UR a
  ·split
   ·simp[Ih]
   ·rw[List.map_cons,<-UR a];rfl
theorem LW (n:Int):∀(e:Ex),usE n e.st=usE n e
 |.un i op k=>by rw[Ex.st,usE,usE,LW n k]
 |.bin i op l r=>by rw[Ex.st,usE,usE,LW n l,LW n r]
 |.ite i c t e=>by rw[Ex.st,usE,usE,LW n c,LW n t,LW n e]
 |.int .. =>rfl
 |.text .. =>rfl
 |.bool .. =>rfl
 |.set .. =>rfl
 |.name .. =>rfl
 |.attr .. =>rfl
 |.lett .. =>rfl
theorem AgQ (n:Int)(o:Option Ex):usO n (o.map Ex.st)=usO n o:=by cases o with|none=>rfl|some e=>exact LW n e
theorem AgR (n:Int)(x:Sx):usS n (Ih x)=usS n x:=by simp only[usS,Ih,AgQ]
theorem AdP (o:Option Ex):JB (o.map Ex.st)=JB o:=by cases o with|none=>rfl|some e=>exact FM e
theorem YL:∀(a:List Sx) (n:Int),G3 n (a.map Ih)=(G3 n a).map fun q=>(Ih q.1,q.2)
 |[],n=>rfl
 |x ::a,n=>by
  have b:((G3 (n+1) a).map fun q=>(Ih q.1,q.2)).any (fun q=>usS n q.1)=(G3 (n+1) a).any fun q=>usS n q.1:=by
   rw[List.any_map]
   congr 1
   funext q
   exact AgR n q.1
  rw[List.map_cons,G3,G3,YL a (n+1),YL a n,b];simp only[show(Ih x).kind=x.kind from rfl,show(Ih x).cond=x.cond.map Ex.st from rfl,AdP];split
  ·split<;>rfl
  ·rfl
theorem AgS (K:List (Sx×Int)):Dp (K.map fun q=>(Ih q.1,q.2))=Dp K:=by
 unfold Dp;rw[List.filter_map,z7];rfl
theorem LX (l:List Int):∀(e:Ex),DU l e.st=(DU l e).st
 |.un i op k=>by simp only[Ex.st,DU,LX l k]
 |.bin i op a b=>by simp only[Ex.st,DU,LX l a,LX l b]
 |.ite i c t e=>by simp only[Ex.st,DU,LX l c,LX l t,LX l e]
 |.int .. =>rfl
 |.text .. =>rfl
 |.bool .. =>rfl
 |.set .. =>rfl
 |.name .. =>rfl
 |.attr .. =>rfl
 |.lett .. =>rfl
theorem AgT (l:List Int)(x:Sx):(Ih (PI l x))=Ih (PI l (Ih x)):=by
 have h:∀o:Option Ex,(o.map (DU l)).map Ex.st=((o.map Ex.st).map (DU l)).map Ex.st:=fun o=>by
  cases o with
  |none=>rfl
  |some e=>exact congrArg Y (by rw[LX,Rk])
 simp only[PI,Ih,<-h]
theorem AfC (X:List Sx):(YD (X.map Ih)).map Ih=(YD X).map Ih:=by
 unfold YD;rw[YL,AgS,z7,z7,z7];refine List.map_congr_left fun q _=>?_;exact(AgT _ q.1).symm
theorem Aaa (X:List Sx):(DE (X.map Ih)).map Ih=(DE X).map Ih:=by
 unfold DE;rw[show([]:List Ex)=([]:List Ex).map Ex.st from rfl,Aab,UR,AfC];rfl
set_option maxRecDepth 100000
set_option maxHeartbeats 6400000
theorem AeU (s:AI)(h:AB s.1):True/\AB (IF s).2.1:=⟨trivial,(BG 2 _ (BG 1 s h).2).2⟩
def okC (c:Cd):Prop:=c.pool.length<=65535/\(∀x∈c.pool,KU x)/\c.ins.length<=65535
theorem Vi (s:AI)(h:AB s.1):okC (DA s).1/\AB (DA s).2.1:=by
 have d:=FC s h;have b:AB (AG 2 s).2.1:=(BG 2 s h).2;obtain⟨a1,a2,a3⟩:=Gv (f:=JC) (p:=KU) Zy (AG 2 s).1.toNat (AG 2 s).2 b;have a:=(BG 2 _ a2).2;have c:=(BG 2 _ a).2;have g:=FC _ a;obtain⟨b1,b2,b3⟩:=Gv (f:=IF) (p:=fun _=>True) AeU _ _ c;refine⟨⟨?_,a1,?_⟩,b2⟩
 ·exact zC a3 (by omega)
 ·refine zC b3 ?_;have:((AG 2 (Be 2 (Av JC (AG 2 s).1.toNat (AG 2 s).2).2).2).1).toNat<=65535:=by omega
  exact this
theorem Vj (s:AI)(h:AB s.1):AB (DO s).1:=by
 unfold DO;split
 ·exact(BG 3 s h).2
 ·exact(BG 3 s h).2
theorem Zc (L:List Int)(ok:AB L):Mj L=if (DA (DO (L,jA))).2=([],jA)/\Da (DA (DO (L,jA))).1.pool (DA (DO (L,jA))).1.slots (DA (DO (L,jA))).1.ins=R then Y (DA (DO (L,jA))).1 else T:=by
 unfold Mj;by_cases b:L.length<3
 ·have e:Be 3 (L,jA)=([],L,R):=by unfold Be;rw[if_pos b]
  have a:(DO (L,jA)).2=R:=by
   unfold DO;rw[e];split<;>rfl
  rw[if_neg,if_neg]
  ·rintro⟨h,_⟩;have:=Bh.body _ a;rw[h]at this;cases this
  ·rintro⟨h,_⟩;have:=congrArg List.length h;simp at this;omega
 ·have e:Be 3 (L,jA)=(L.take 3,L.drop 3,jA):=by unfold Be;rw[if_neg b]
  by_cases hm:L.take 3=[80,76,49]
  ·have a:DO (L,jA)=(L.drop 3,jA):=by
    unfold DO;rw[e];rw[if_pos ((TE _ (ok.take 3)).2 hm)]
   rw[a];simp only[hm,true_and]
  ·have a:(DO (L,jA)).2=R:=by
    unfold DO;rw[e];rw[if_neg (fun h=>hm ((TE _ (ok.take 3)).1 h))]
   rw[if_neg (fun h=>hm h.1),if_neg];rintro⟨h,_⟩;have:=Bh.body _ a;rw[h]at this;cases this
def Jy (w:Z) (o:Option Cd) (e:Ending) (w':Z):Prop:=∃x cx y cy nv,e= .returned (jJ #[.agg #[X x (o.getD ⟨[],0,[]⟩).pool.length cx,U V (o.getD ⟨[],0,[]⟩).slots,X y (o.getD ⟨[],0,[]⟩).ins.length cy],.bool o.isSome])/\BU w' w.heap.size (X x (o.getD ⟨[],0,[]⟩).pool.length cx) (o.getD ⟨[],0,[]⟩).pool nv/\w'.ownsRow w.heap.size 49 2 (X y (o.getD ⟨[],0,[]⟩).ins.length cy) (o.getD ⟨[],0,[]⟩).ins.length (TD (o.getD ⟨[],0,[]⟩).ins)/\
 (∀q,(Value.slice y (o.getD ⟨[],0,[]⟩).ins.length cy).ownBlock=Y q->(Value.slice x (o.getD ⟨[],0,[]⟩).pool.length cx).ownBlock≠Y q/\∀j,(hj:j<nv.length)->nv[j].ownBlock≠Y q)/\An w w'
theorem Jy.no (h:An w w'):Jy w T (.returned (jJ #[.agg #[X T 0 0,U V 0,X T 0 0],.bool jA])) w':=
 ⟨T,0,T,0,[],rfl,BU.nil _ _,World.ownsRow_nil _ _ _ _,(fun q a=>by cases a),h⟩
theorem Io {c:Func}{a u:Tmp}(h:c.results= #[.cell a 26,.tmp u]){tmps:Array Value}{b:Nat}{d f g:Value}(i:tmps.getD a undef=jH (Y ⟨b,0,T⟩))
  (j:w.cell? ⟨b,0,T⟩=Y d)(k:w.cell? ⟨b,1,T⟩=Y f)(l:w.cell? ⟨b,2,T⟩=Y g):
  (results c tmps).run jL w= .ok (jJ #[.agg #[d,f,g],tmps.getD u undef]) w:=by
 rw[yH]at i;simp[results,h,i,go_sem,j,k,l]
theorem KQ.mono {B B' n c:Nat}{a:Option Addr}{L:List Int}(h:KQ w B a n c L)(k:B<=B'):KQ w B' a n c L:=
 ⟨h.len,h.cap,h.small,h.ok,fun j d=>by obtain⟨b,f,g,h1,i,hc⟩:=h.cells j d;exact⟨b,f,g,by omega,i,hc⟩⟩
theorem Al.below {w0 w w':Z}(h0:An w0 w)(T:Al g (g+1) w w')(hg:w0.heap.size<=g):An w0 w':=AT h0 T hg h0.size
theorem Oz (a:Option Addr)(n c:Nat)(L:List Int)(w:Z)(h:KQ w w.heap.size a n c L):
  Calls jL 7 #[X a n c] w fun e w'=>Jy w (Mj L) e w':=by
 have g:=Ab (Zc L h.ok);have N:=AN w (jC #[X T 0 0,U V 0,X T 0 0] 26);have v:=N.alloc (by simp) (jC #[U V 0,U V 0,U V 0,X a n c,.bool jA] 51);have O:=(Ah.new w #[X T 0 0,U V 0,X T 0 0] 26).alloc (jC #[U V 0,U V 0,U V 0,X a n c,.bool jA] 51);have D:=Ah.new (w.alloc (jC #[X T 0 0,U V 0,X T 0 0] 26)) #[U V 0,U V 0,U V 0,X a n c,.bool jA] 51;simp only[World.size_alloc]at D;have S:EN ((w.alloc (jC #[X T 0 0,U V 0,X T 0 0] 26)).alloc (jC #[U V 0,U V 0,U V 0,X a n c,.bool jA] 51)) (w.heap.size+1) 0 0 0 (L,jA):=⟨a,n,c,D,(h.mono (by omega)).blocks (fun k hk aq=>v.block k aq) v.size⟩
 have W:=Ab (AaU (w.heap.size+1) 0 0 0 (L,jA) _ S);have z:=Vi (DO (L,jA)) (Vj (L,jA) h.ok);generalize DA (DO (L,jA))=r at g W z;obtain⟨⟨P,sl,I⟩,s2⟩:=r;simp only at g z;have E:=Ab z.1;clear z;go_enter func7,ntmps7
 go_wp2_with fail
 refine(Aa W).mono ?_;rintro e w2 ⟨x,cx,y,d,ar,rfl,A,B,aa,⟨h0,h1,au,F⟩,C⟩;simp only at A B aa F;simp only[World.size_alloc]at A B;have ab:=O.touch' C (.inl (by omega));have G:=C.below v (by omega);have av:=C.size;simp only[World.size_alloc]at av;clear O D S N v C;have ac:=Ah.new w2 #[X x P.length cx,U V sl,X y I.length d] 26;have t:=ab.alloc (jC #[X x P.length cx,U V sl,X y I.length d] 26);have aw:=F.alloc (jC #[X x P.length cx,U V sl,X y I.length d] 26);have ad:=A.alloc (jC #[X x P.length cx,U V sl,X y I.length d] 26);have ae:=World.ownsRow.alloc B (jC #[X x P.length cx,U V sl,X y I.length d] 26);have u:=G.alloc G.size (jC #[X x P.length cx,U V sl,X y I.length d] 26);clear ab F A B G;obtain⟨a3,af,aK,ax,ag⟩:=id aw;obtain⟨aL,aM,aN,aO,ay⟩:=DM ax;have H:=ag.len;obtain⟨az,aA⟩:=s2;simp only at ay H;have ah:=Ab H;have ai:=(Aa E).1;have aj:=(Aa E).2.2;simp only at ai aj;have aB:=ad.vls rfl ai (Aa E).2.1;have aC:=Hu ae rfl aj;obtain⟨c0,c1,c2⟩:=Ao ac;obtain⟨e0,e1,e2⟩:=Ao t;have aP:=fun j=>t.frozen j;have J:=Ab (GL x y P.length cx I.length d sl P I _ aB aC);clear ag H;cases aA with
 |true=>
  have i:=Ab (show Mj L=T by rw[Aa g,if_neg];rintro⟨h,_⟩;cases h);go_wp2_with fail
  have b:=((t.set 0 (X T 0 0)).set 1 (U V 0)).set 2 (X T 0 0);simp only[zV,zX,zQ]at b;obtain⟨l,m,o⟩:=Ao b;refine bodyPost_ret (Io results7 rfl l m o) rfl ?_;rw[Aa i];exact Jy.no (((u.setCell (p:=⟨w.heap.size,0,T⟩) NLN _).setCell (p:=⟨w.heap.size,1,T⟩) NLN _).setCell (p:=⟨w.heap.size,2,T⟩) NLN _)
 |false=>
  by_cases ak:af=0
  ·subst ak;have aD:az=[]:=zj (Aa ah);generalize al:Da P sl I=aE at J g;have aQ:=Ab al;clear al;cases aE with
   |false=>
    have i:=Ab (show Mj L=T by rw[Aa g,if_neg];rintro⟨_,h⟩;cases h);go_wp2_with (go_at_call 12;refine(Aa J).mono ?_;rintro e ao ⟨rfl,f⟩;have s:=t.after f NLN;obtain⟨aF,f1,f2⟩:=Ao s;have aG:=fun j=>s.frozen j;have K:=u.trans (f.mono u.size))
    have b:=((s.set 0 (X T 0 0)).set 1 (U V 0)).set 2 (X T 0 0);simp only[zV,zX,zQ]at b;obtain⟨l,m,o⟩:=Ao b;refine bodyPost_ret (Io results7 rfl l m o) rfl ?_;rw[Aa i];exact Jy.no (((K.setCell (p:=⟨w.heap.size,0,T⟩) NLN _).setCell (p:=⟨w.heap.size,1,T⟩) NLN _).setCell (p:=⟨w.heap.size,2,T⟩) NLN _)
   |true=>
    have i:=Ab (show Mj L=Y ⟨P,sl,I⟩ by rw[Aa g,if_pos];exact⟨by rw[aD],rfl⟩);go_wp2_with (go_at_call 12;refine(Aa J).mono ?_;rintro e ao ⟨rfl,f⟩;have s:=t.after f NLN;have aH:=ac.after f NLN;obtain⟨aF,f1,f2⟩:=Ao s;obtain⟨aR,aS,aT⟩:=Ao aH;have aG:=fun j=>s.frozen j;have K:=u.trans (f.mono u.size))
    have aI:=ad.blocks (w':=ao) (fun k _ hk=>f.block k hk);have ap:=Af ae f NLN;have b:=((s.set 0 (X x P.length cx)).set 1 (U V sl)).set 2 (X y I.length d);simp only[zV,zX,zQ]at b;obtain⟨l,m,o⟩:=Ao b;refine bodyPost_ret (Io results7 rfl l m o) rfl ?_;rw[Aa i];have M:w.heap.size<w.heap.size+1+1:=by omega
    have far:∀q,(Value.slice y I.length d).ownBlock=Y q->q≠w.heap.size:=fun q aJ=>by have:=(ap.lt q aJ).1;omega
    exact⟨x,cx,y,d,ar,rfl,(((aI.set ⟨w.heap.size,0,T⟩ _ M).set ⟨w.heap.size,1,T⟩ _ M).set ⟨w.heap.size,2,T⟩ _ M).low (by omega),Aj (Ai (Ai (Ai ap ⟨w.heap.size,0,T⟩ _ far) ⟨w.heap.size,1,T⟩ _ far) ⟨w.heap.size,2,T⟩ _ far) (by omega),aa,((K.setCell (p:=⟨w.heap.size,0,T⟩) NLN _).setCell (p:=⟨w.heap.size,1,T⟩) NLN _).setCell (p:=⟨w.heap.size,2,T⟩) NLN _⟩
  ·have aU:(0 :Int)<(af:Int):=by omega
   have i:=Ab (show Mj L=T by rw[Aa g,if_neg];rintro⟨h,_⟩;injection h with h1 au;apply ak;rw[<-Aa ah,h1];rfl);go_wp2_with fail
   have b:=((t.set 0 (X T 0 0)).set 1 (U V 0)).set 2 (X T 0 0);simp only[zV,zX,zQ]at b;obtain⟨l,m,o⟩:=Ao b;refine bodyPost_ret (Io results7 rfl l m o) rfl ?_;rw[Aa i];exact Jy.no (((u.setCell (p:=⟨w.heap.size,0,T⟩) NLN _).setCell (p:=⟨w.heap.size,1,T⟩) NLN _).setCell (p:=⟨w.heap.size,2,T⟩) NLN _)
set_option maxHeartbeats 1600000
def J7 (w:Z) (g:Nat) (s:AI):Prop:=∃a n c,Ah w g #[X a n c,.bool s.2] 60/\KQ w g a n c s.1
def STk (w:Z) (g:Nat) (r:List Int×AI) (e:Ending) (w':Z):Prop:=∃a n c,e= .returned (X a n c)/\KQ w' g a n c r.1/\J7 w' g r.2/\Al g (g+1) w w'
theorem NN (g:Nat)(s:AI)(k:Nat)(w:Z)(h:J7 w g s)(hk:k<=65535):
  Calls jL 21 #[jH (Y ⟨g,0,T⟩),U V k] w fun e w'=>STk w g (BO k s) e w':=by
 obtain⟨a,n,c,R,d⟩:=h;obtain⟨L,l⟩:=s;have f:=d.len;simp only at f R d;have p:=d.cap;obtain⟨q,r⟩:=CI R;have t:=fun j=>R.frozen j;by_cases u:n<k
 ·have o:(n:Int)<(k:Int):=by omega
  have i:=Ab (show BO k (L,l)=([],[],true) by unfold BO;rw[if_pos (by show L.length<k;omega)]);have v:=Ab f;clear f;go_enter func21,ntmps21
  go_wp2
  go_ret
  rw[Aa i];have b:=(Al.setCell (lo:=g) (hi:=g+1) w ⟨g,1,T⟩ (.bool true) NLN (z5 _)).trans (Al.setCell (lo:=g) (hi:=g+1) _ ⟨g,0,T⟩ (X T 0 0) NLN (z5 _));exact⟨_,_,_,rfl,KQ.nil _ _,⟨T,0,0,(R.set 1 (.bool true)).set 0 (X T 0 0),KQ.nil _ _⟩,b⟩
 ·have o: ¬ ((n:Int)<(k:Int)):=by omega
  have i:=Ab (show BO k (L,l)=(L.take k,L.drop k,l) by unfold BO;rw[if_neg (by show ¬ L.length<k;omega)]);clear f;go_enter func21,ntmps21
  go_wp2
  ·have m:KQ w g a n k L:=by
    have e:c=k:=by assumption
    rw[<-e];exact d
   go_ret
   rw[Aa i];have b:=Al.setCell (lo:=g) (hi:=g+1) w ⟨g,0,T⟩ (X a (n-k) 0) NLN (z5 _);exact⟨_,_,_,rfl,(m.take k (by omega)).touch b NLN,⟨a,n-k,0,R.set 0 (X a (n-k) 0),(m.dropAll k (by omega)).touch b NLN⟩,b⟩
  ·go_ret
   rw[Aa i];have b:=Al.setCell (lo:=g) (hi:=g+1) w ⟨g,0,T⟩ (X (a.map fun x=>x.add k) (n-k) (c-k)) NLN (z5 _);exact⟨_,_,_,rfl,(d.take k (by omega)).touch b NLN,⟨_,n-k,c-k,R.set 0 (X (a.map fun x=>x.add k) (n-k) (c-k)),(d.drop k (by omega)).touch b NLN⟩,b⟩
theorem Yu {a:Type}(f:AI->a×AI)(k:Nat)(s:AI)(b:List a):(b++(Dw f (k+1) s).1,(Dw f (k+1) s).2)=((b++[(f s).1])++(Dw f k (f s).2).1,(Dw f k (f s).2).2):=by
 rw[Dw];simp
def SNm (w:Z) (g:Nat) (r:Int×AI) (e:Ending) (w':Z):Prop:=e= .returned (U V r.1)/\J7 w' g r.2/\Al g (g+1) w w'
theorem QU (g:Nat)(s:AI)(k:Nat)(w:Z)(h:J7 w g s)(hk:k<=65535):
  Calls jL 22 #[jH (Y ⟨g,0,T⟩),U V k] w fun e w'=>SNm w g (At k s) e w':=by
 have o:=Ab (NN g s k w h hk);have p:=Ab (show At k s=(CL (BO k s).1,(BO k s).2)from rfl);generalize BO k s=r at o p;obtain⟨L,s2⟩:=r;clear h;go_enter func22,ntmps22
 go_wp2_with (go_at_call 21;refine(Aa o).mono ?_;rintro e z ⟨a,n,c,rfl,d,A,B⟩)
 have q:=d.len;have C:=d.cap;have D:=d.small;have t:=Ab q;clear q;go_loopw [5,12] (fun v i wr=>∃j:Nat,j<=n/\i=U V j/\v=U V (CL (L.take j))/\wr=z) (fun _ i _=>n-(intOf i).toNat)
 case atStart=>exact⟨0,zE _,rfl,rfl,rfl⟩
 case round=>
  obtain⟨j,E,rfl,rfl,rfl⟩:=hrel;by_cases u:j<n
  ·have l:j<L.length:=by rw[Aa t];exact u
   obtain⟨b,F,rfl,_,_,hc⟩:=d.cells j l;have hx:=d.ok L[j] (zH l);have G:(j:Int)<(n:Int):=by omega
   have f:=Ab (J3 L j l);have m:=Zx (CL (L.take j)) L[j] hx.1 hx.2;generalize L[j]=x at hc hx f m;generalize CL (L.take j)=v at f m;have y:=Ab u;go_wp2
   go_roundw
   case rel=>exact⟨j+1,Aa y,by go_num,by rw[Aa f,<-m],(by first|rfl|trivial)⟩
   case measure=>have:=Aa y;simp[intOf];omega
  ·have e:j=n:=by omega
   subst e;have f:=Ab (show L.take j=L from zf (by rw[Aa t];exact NLN));rw[Aa f];go_wp2
   go_ret
   rw[Aa p];exact⟨rfl,A,B⟩
theorem J7.ok {w:Z}{g:Nat}{s:AI}(h:J7 w g s):AB s.1:=by
 obtain⟨a,n,c,_,b⟩:=h;exact b.ok
theorem J7.lt {w:Z}{g:Nat}{s:AI}(h:J7 w g s):g<w.heap.size:=by
 obtain⟨a,n,c,R,b⟩:=h;exact R.lt
theorem J7.blocks {w w':Z}{g:Nat}{s:AI}(h:J7 w g s)(b:∀k,k<=g->w'.heap[k]? =w.heap[k]?)(hs:w.heap.size<=w'.heap.size):J7 w' g s:=by
 obtain⟨a,n,c,R,d⟩:=h;exact⟨a,n,c,⟨(b g NLN).trans R.out⟩,d.blocks (fun k hk _=>b k (Nat.le_of_lt hk)) hs⟩
theorem J7.grown {row:Option Nat}(h:J7 w g s)(hg:w.grownBy w' row)(a:∀k,row=Y k->g<k):J7 w' g s:=
 h.blocks (fun k hk=>hg.block k (Nat.lt_of_le_of_lt hk h.lt) (fun e=>by have:=a k e.symm;omega)) hg.size
theorem J7.alloc {w:Z}{g:Nat}{s:AI}(h:J7 w g s)(o:Obj):J7 (w.alloc o) g s:=
 h.blocks (fun k hk=>Below.heap_alloc w o k (Nat.lt_of_le_of_lt hk h.lt)) (by simp)
theorem J7.setFar (h:J7 w g s)(p:Addr)(u:Value)(hp:g<p.block):J7 (w.setCell p u) g s:=
 h.blocks (fun k hk=>heap_setCell_other w p k u (by omega)) (by simp)
theorem J7.cells (h:J7 w g s):w.cell? ⟨g,1,T⟩=Y (.bool s.2):=by
 obtain⟨a,n,c,R,b⟩:=h;exact(CI R).2
theorem NO (k:Nat)(s:AI):(BO k s).1.length<=k:=by
 unfold BO;split<;>simp;omega
theorem Ch (k:Nat)(s:AI)(h:AB s.1):AB (BO k s).1/\AB (BO k s).2.1:=by
 unfold BO;split
 ·exact⟨(fun x hx=>by cases hx),(fun x hx=>by cases hx)⟩
 ·exact⟨h.take k,h.drop k⟩
theorem ET (s:AI)(h:AB s.1): 0<=(At 1 s).1/\(At 1 s).1<256:=QS _ (Ch 1 s h).1 (NO 1 s)
theorem J8 (s:AI)(h:AB s.1): 0<=(At 2 s).1/\(At 2 s).1<65536:=Pb _ (Ch 2 s h).1 (NO 2 s)
theorem AaV (g:Nat)(s:AI)(x:Int)(w:Z)(h:J7 w g s)(hx: 0<=x)(hk:x<=65535):
  Calls jL 21 #[jH (Y ⟨g,0,T⟩),U V x] w fun e w'=>STk w g (BO x.toNat s) e w':=by
 obtain⟨k,rfl⟩:=Z5 hx;exact NN g s k w h (by omega)
theorem QV (g:Nat)(s:AI)(w:Z)(h:J7 w g s):
  Calls jL 22 #[jH (Y ⟨g,0,T⟩),U V 1] w fun e w'=>SNm w g (At 1 s) e w':=QU g s 1 w h (by omega)
theorem UE (g:Nat)(s:AI)(w:Z)(h:J7 w g s):
  Calls jL 22 #[jH (Y ⟨g,0,T⟩),U V 2] w fun e w'=>SNm w g (At 2 s) e w':=QU g s 2 w h (by omega)
theorem Agj (g:Nat)(s:AI)(w:Z)(h:J7 w g s):
  Calls jL 22 #[jH (Y ⟨g,0,T⟩),U V 8] w fun e w'=>SNm w g (At 8 s) e w':=QU g s 8 w h (by omega)
def STx (w:Z) (g:Nat) (r:ByteArray×AI) (e:Ending) (w':Z):Prop:=e= .returned (.string r.1)/\J7 w' g r.2/\Al g (g+1) w w'
theorem TF (g:Nat)(s:AI)(w:Z)(h:J7 w g s):
  Calls jL 23 #[jH (Y ⟨g,0,T⟩)] w fun e w'=>STx w g (ES s) e w':=by
 have d:=Ab (QV g s w h);have b:=ET s h.ok;have f:=b.1;have i:=b.2;have j:=Ab (show ES s=(Fr (BO (At 1 s).1.toNat (At 1 s).2).1,(BO (At 1 s).1.toNat (At 1 s).2).2)from rfl);generalize At 1 s=r at d j f i;obtain⟨k,s1⟩:=r;simp only at f i;clear b h;go_enter func23,ntmps23
 go_wp2_with (first
  |(go_at_call 22;refine(Aa d).mono ?_;rintro e m ⟨rfl,l,o⟩;simp only at l)
  |(go_at_call 21;refine(AaV g s1 k m l (by omega) (by omega)).mono ?_;rintro e w2 ⟨a,n,c,rfl,p,q,t⟩;have u:=MC p))
 go_ret
 rw[Aa j];exact⟨rfl,q,o.trans t⟩
theorem Wm (s:AI)(h:AB s.1):(ES s).1.size<=255/\AB (ES s).2.1:=by
 have h1:=ET s h;have b:=NO (At 1 s).1.toNat (At 1 s).2;have a:=Ch (At 1 s).1.toNat (At 1 s).2 (Ch 1 s h).2;refine⟨?_,a.2⟩;show(Fr (BO (At 1 s).1.toNat (At 1 s).2).1).size<=255;rw[NJ];omega
theorem TG {a:Type}{f:AI->a×AI}{p:a->Prop}(b:∀s:AI,AB s.1->p (f s).1/\AB (f s).2.1):∀(k:Nat) (s:AI),AB s.1->(∀x∈(Dw f k s).1,p x)/\AB (Dw f k s).2.1/\(Dw f k s).1.length=k
 |0,s,h=>⟨(fun x hx=>by cases hx),h,rfl⟩
 |k+1,s,h=>by
  rw[Dw];obtain⟨h1,c⟩:=b s h;obtain⟨d,g,h5⟩:=TG b k (f s).2 c;refine⟨fun x hx=>?_,g,by simp[h5]⟩;rcases zT.1 hx with rfl|hx
  ·exact h1
  ·exact d x hx
theorem ZA (s:AI)(h:AB s.1):KU (KZ s).1/\AB (KZ s).2.1:=by
 show KU (Jx (At 1 s).1 (At 1 s).2).1/\AB (Jx (At 1 s).1 (At 1 s).2).2.1;have h1:AB (At 1 s).2.1:=(Ch 1 s h).2;generalize At 1 s=r at h1;obtain⟨k,s1⟩:=r;simp only at h1|-;have nl:KU ⟨k,0,⟨#[]⟩,[]⟩:=⟨by simp[ByteArray.size],by simp,fun x hx=>by cases hx⟩
 unfold Jx;split
 ·exact⟨⟨nl.1,nl.2⟩,(Ch 1 s1 h1).2⟩
 split
 ·exact⟨⟨nl.1,nl.2⟩,(Ch 8 s1 h1).2⟩
 split
 ·have:=Wm s1 h1;exact⟨⟨this.1,nl.2⟩,this.2⟩
 split
 ·have a1:=ET s1 h1;obtain⟨b1,b2,b3⟩:=TG (f:=ES) (p:=fun t=>t.size<=255) (fun s hs=>Wm s hs) (At 1 s1).1.toNat (At 1 s1).2 (Ch 1 s1 h1).2;exact⟨⟨nl.1,(by show(Dw ES (At 1 s1).1.toNat (At 1 s1).2).1.length<=255;omega),b1⟩,b2⟩
 ·exact⟨nl,h1⟩
end Go.Proofs.YtppafecmccdplaaGreat
