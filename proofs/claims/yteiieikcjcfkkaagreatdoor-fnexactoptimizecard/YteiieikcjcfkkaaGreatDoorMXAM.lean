import Derived.Test.YteiieikcjcfkkaaGreatDoorZA
import Derived.Test.YteiieikcjcfkkaaGreatDoorMXAK
open Go.Proofs.Tryz
open Option renaming none->T,some->X
open Go.Value renaming int->U,slice->Y
open Bool renaming true->jA,false->jC
open Go.Proofs.Tryz renaming prog->j4
namespace Go.Proofs.YteiieikcjcfkkaaGreatDoor
open Go.RowKit
set_option linter.unusedVariables false
set_option maxRecDepth 100000
set_option maxHeartbeats 1600000
variable {b:Bool}{t:Int}{ss tt:List ByteArray}{ts:List Int}{k:Nat}
noncomputable def DI (R:Rq) (ls:List Vv):Ex->Ev
 |.int _ n=> .ok (.int n)
 |.text _ s=> .ok (.text s)
 |.bool _ b=> .ok (.bool b)
 |.set _ _ _ _ ss=> .ok (.set ss)
 |.name .. => .err 4
 |.attr _ n=> .ok (Ade R n)
 |.lett _ n=>match ls[n.toNat]? with
  |some v=> .ok v
  |none=> .err 4
 |.un _ op k=>match DI R ls k with
  |.ok v=>GV op v
  |.err c=> .err c
 |.bin _ op l r=>match DI R ls l with
  |.ok v=>if Jf op v then .ok v else match DI R ls r with
   |.ok u=>if op=25\/op=26 then .ok u else Ch op v u
   |.err c=> .err c
  |.err c=> .err c
 |.ite _ c t e=>match DI R ls c with
  |.ok (.bool b)=>if b then DI R ls t else DI R ls e
  |.ok _=> .err 4
  |.err c=> .err c
theorem FY {R:Rq}{ls:List Vv}{ts:List Int}(f:ls.map Vv.ty=ts):∀(e:Ex) (t:Int),Al ts e=X t->∀v,DI R ls e= .ok v->v.ty=t
 |.int ..,t,h,v,hv=>by cases h;cases hv;rfl
 |.text ..,t,h,v,hv=>by cases h;cases hv;rfl
 |.bool ..,t,h,v,hv=>by cases h;cases hv;rfl
 |.set ..,t,h,v,hv=>by cases h;cases hv;rfl
 |.name ..,t,h,v,hv=>by cases h
 |.attr _ n,t,h,v,hv=>by cases h;cases hv;exact Adf R n
 |.lett _ n,t,h,v,hv=>by
  rw[Al]at h;rw[DI]at hv;split at h
  ·rw[<-f,zZ]at h;cases hq:ls[n.toNat]? with
   |none=>rw[hq]at h;cases h
   |some u=>rw[hq]at h hv;cases hv;exact Option.some.inj h
  ·cases h
 |.un _ op k,t,h,v,hv=>by
  rw[Al]at h;rw[DI]at hv;cases j:Al ts k with
  |none=>rw[j]at h;cases h
  |some a=>
   rw[j]at h;cases he:DI R ls k with
   |err c=>rw[he]at hv;cases hv
   |ok u=>
    rw[he]at hv;have:=FY f k a j u he;subst this;exact Aal h v hv
 |.bin _ op l r,t,h,v,hv=>by
  rw[Al]at h;rw[DI]at hv;cases m:Al ts l with
  |none=>rw[m]at h;cases h
  |some a=>
   rw[m]at h;cases o:Al ts r with
   |none=>rw[o]at h;cases h
   |some b=>
    rw[o]at h;cases he:DI R ls l with
    |err c=>rw[he]at hv;cases hv
    |ok x=>
     rw[he]at hv;have hx:=FY f l a m x he;dsimp only at h hv;by_cases d:Jf op x=jA
     ·rw[if_pos d]at hv;obtain rfl:x=v:=by cases hv;rfl
      cases x with
      |bool q=>
       have i:op=25\/op=26:=by
        simp only[Jf]at d;by_cases A:op=25
        ·exact .inl A
        ·rw[if_neg A]at d;by_cases B:op=26
         ·exact .inr B
         ·rw[if_neg B]at d;cases d
       rcases CU h with g|g|g|g|g|g|g
       ·omega
       ·omega
       ·omega
       ·omega
       ·omega
       ·omega
       ·rw[g.2.2.2];rfl
      |int _=>simp[Jf]at d
      |text _=>simp[Jf]at d
      |set _=>simp[Jf]at d
     ·rw[if_neg d]at hv;cases p:DI R ls r with
      |err c=>rw[p]at hv;cases hv
      |ok y=>
       rw[p]at hv;have hy:=FY f r b o y p;dsimp only at hv;by_cases i:op=25\/op=26
       ·rw[if_pos i]at hv;obtain rfl:y=v:=by cases hv;rfl
        rcases CU h with g|g|g|g|g|g|g
        ·omega
        ·omega
        ·omega
        ·omega
        ·omega
        ·omega
        ·omega
       ·rw[if_neg i]at hv;rw[<-hx,<-hy]at h;exact Vt h ⟨fun q=>i (.inl q),fun q=>i (.inr q)⟩ v hv
 |.ite _ c a b,t,h,v,hv=>by
  rw[Al]at h;rw[DI]at hv;cases hc:Al ts c with
  |none=>rw[hc]at h;cases h
  |some x=>
   rw[hc]at h;cases s:Al ts a with
   |none=>rw[s]at h;cases h
   |some y=>
    rw[s]at h;cases w:Al ts b with
    |none=>rw[w]at h;cases h
    |some z=>
     rw[w]at h;dsimp only at h;obtain⟨h1,h0⟩:=EU h;simp only[Ba]at h1;have C:y=t/\z=t:=by
      by_cases c1:x=1/\y=z
      ·rw[if_pos c1]at h1;omega
      ·rw[if_neg c1]at h1;omega
     cases he:DI R ls c with
     |err q=>rw[he]at hv;cases hv
     |ok u=>
      rw[he]at hv;cases u with
      |bool q=>
       cases q with
       |true=>exact(FY f a y s v hv).trans C.1
       |false=>exact(FY f b z w v hv).trans C.2
      |int _=>cases hv
      |text _=>cases hv
      |set _=>cases hv
def Ex.st:Ex->Ex
 |.int _ n=> .int 0 n
 |.text _ s=> .text 0 s
 |.bool _ b=> .bool 0 b
 |.set _ _ _ _ ss=> .set 0 T 0 0 ss
 |.name _ s=> .name 0 s
 |.attr _ n=> .attr 0 n
 |.lett _ n=> .lett 0 n
 |.un _ op k=> .un 0 op k.st
 |.bin _ op l r=> .bin 0 op l.st r.st
 |.ite _ c t e=> .ite 0 c.st t.st e.st
def Ex.cv:Ex->Option Vv
 |.int _ n=>X (.int n)
 |.text _ s=>X (.text s)
 |.bool _ b=>X (.bool b)
 |.set _ _ _ _ ss=>X (.set ss)
 |_=>T
def Ex.con (e:Ex):Bool:=e.cv.isSome
def Vv.ex:Vv->Ex
 |.int n=> .int 0 n
 |.text s=> .text 0 s
 |.bool b=> .bool 0 b
 |.set ss=> .set 0 T 0 0 ss
def isB (b:Bool):Ex->Bool
 |.bool _ c=>c==b
 |_=>jC
def No (n:Int):Ex->Bool
 |.int _ m=>decide (m=n)
 |_=>jC
def GP:Ex->Bool
 |.set _ _ _ _ ss=>decide (ss.length=0)
 |_=>jC
def sameL:Ex->Ex->Bool
 |.attr _ n,.attr _ m=>decide (m=n)
 |.lett _ n,.lett _ m=>decide (m=n)
 |_,_=>jC
open Classical in
noncomputable def Ol (x y:Ex):Bool:=x.con&&decide (x.cv=y.cv)
def JC (b:Bool) (x y:Ex):Option Ex:=
 if isB b x then X y else if isB (!b) x||isB b y then X x else if isB (!b) y&&Ao x then X y else T
def Gd (x y:Ex):Option Ex:=if GP x then X y else if GP y||sameL x y then X x else T
def JD (x y:Ex):Option Ex:=if GP x&&Ao y then X x else if GP y&&Ao x then X y else if sameL x y then X x else T
def GF (x y:Ex):Option Ex:=if GP y||(GP x&&Ao y)then X x else if sameL x y then X (.set 0 T 0 0 [])else T
def Qo (x y:Ex):Option Ex:=if No 0 x then X y else if No 0 y then X x else T
def EE (n:Int) (x y:Ex):Option Ex:=if No n y then X x else T
def JE (x y:Ex):Option Ex:=if No 1 x then X y else if No 1 y then X x else if No 0 x&&Ao y then X x else if No 0 y&&Ao x then X y else T
def Em (b:Bool) (x y:Ex):Option Ex:=if sameL x y then X (.bool 0 b)else T
def ID (x y:Ex):Option Ex:=if sameL x y then X (.bool 0 jA)else if GP x&&Ao y then X (.bool 0 jA)else T
def inE (x y:Ex):Option Ex:=if GP y&&Ao x then X (.bool 0 jC)else T
def CS (op:Int) (x y:Ex):Option Ex:=
 if op=25 then JC jA x y
 else if op=26 then JC jC x y
 else if op=16 then Gd x y
 else if op=17 then JD x y
 else if op=18 then GF x y
 else if op=11 then Qo x y
 else if op=12 then EE 0 x y
 else if op=13 then JE x y
 else if op=14 then EE 1 x y
 else if op=19 then Em jA x y
 else if op=22 then Em jA x y
 else if op=20 then Em jC x y
 else if op=21 then Em jC x y
 else if op=24 then ID x y
 else if op=23 then inE x y
 else T
def Sw:Rq:=⟨⟨#[]⟩,⟨#[]⟩,0,0,[],[]⟩
noncomputable def Ar (e:Ex):Option Ex:=
 if e.kids.isEmpty then T else if e.kids.all Ex.con then (match DI Sw [] e with| .ok v=>X v.ex| .err _=>T)else T
def Np:Ex->Option Ex
 |.un _ o j=>if o=9 then X j else T
 |_=>T
noncomputable def AR (ls:List Ex):Ex->Option Ex
 |.lett _ n=>match ls[n.toNat]? with
  |some c=>if c.con then X c else T
  |none=>T
 |.un _ op k=>if op=9 then Np k else T
 |.bin _ op x y=>CS op x y
 |.ite _ c t e=>if isB jA c then X t else if isB jC c then X e else if Ol t e&&Ao c then X t else T
 |_=>T
noncomputable def FL (ls:List Ex) (e:Ex):Ex:=match Ar e with
 |some c=>c
 |none=>(AR ls e).getD e
noncomputable def AG (ls:List Ex):Ex->Ex
 |.un i op k=>FL ls (.un i op (AG ls k))
 |.bin i op l r=>FL ls (.bin i op (AG ls l) (AG ls r))
 |.ite i c t e=>FL ls (.ite i (AG ls c) (AG ls t) (AG ls e))
 |e=>FL ls e
theorem IX {e:Ex}{v:Vv}(h:e.cv=X v)(ts:List Int):Al ts e=X v.ty:=by
 cases e<;>simp only[Ex.cv]at h<;>first|(cases h;rfl)|cases h
theorem Aju (v:Vv)(ts:List Int):Al ts v.ex=X v.ty:=by cases v<;>rfl
theorem En {x y z:Ex}(h:JC b x y=X z):z=x\/z=y:=by
 unfold JC at h
 repeat' split at h
 all_goals first|(cases h;first|exact .inl rfl|exact .inr rfl)|cases h
theorem AX {x y z:Ex}(h:Em b x y=X z):∃c,z= .bool 0 c:=by
 unfold Em at h;split at h<;>cases h;exact⟨_,rfl⟩
theorem Fi {x y z:Ex}(h:ID x y=X z):∃c,z= .bool 0 c:=by
 unfold ID at h;split at h
 ·cases h;exact⟨_,rfl⟩
 ·split at h<;>cases h;exact⟨_,rfl⟩
theorem Mc {x y z:Ex}(h:inE x y=X z):∃c,z= .bool 0 c:=by
 unfold inE at h;split at h<;>cases h;exact⟨_,rfl⟩
theorem H9 {x y z:Ex}(h:Gd x y=X z):z=x\/z=y:=by
 unfold Gd at h;split at h
 ·cases h;exact .inr rfl
 ·split at h<;>cases h;exact .inl rfl
theorem JX {x y z:Ex}(h:JD x y=X z):z=x\/z=y:=by
 unfold JD at h;split at h
 ·cases h;exact .inl rfl
 ·split at h
  ·cases h;exact .inr rfl
  ·split at h<;>cases h;exact .inl rfl
theorem JF {x y z:Ex}(h:GF x y=X z):z=x\/z= .set 0 T 0 0 []:=by
 unfold GF at h;split at h
 ·cases h;exact .inl rfl
 ·split at h<;>cases h;exact .inr rfl
theorem Nq {x y z:Ex}(h:Qo x y=X z):z=x\/z=y:=by
 unfold Qo at h;split at h
 ·cases h;exact .inr rfl
 ·split at h<;>cases h;exact .inl rfl
theorem DQ {n:Int}{x y z:Ex}(h:EE n x y=X z):z=x\/z=y:=by
 unfold EE at h;split at h<;>cases h;exact .inl rfl
theorem JY {x y z:Ex}(h:JE x y=X z):z=x\/z=y:=by
 unfold JE at h;split at h
 ·cases h;exact .inr rfl
 ·split at h
  ·cases h;exact .inl rfl
  ·split at h
   ·cases h;exact .inl rfl
   ·split at h<;>cases h;exact .inr rfl
theorem JG {x y z:Ex}(hx:Al ts x=X t)(hy:Al ts y=X t)(h:z=x\/z=y):Al ts z=X t:=by
 rcases h with rfl|rfl
 ·exact hx
 ·exact hy
theorem Aec {op a b t:Int}{x y z:Ex}(hx:Al ts x=X a)(hy:Al ts y=X b)(f:nz (Ba op [a,b])=X t)(h:CS op x y=X z):Al ts z=X t:=by
 rcases CU f with⟨d,rfl,rfl,rfl⟩|⟨d,rfl,rfl,rfl⟩|⟨d,rfl,rfl⟩|⟨d,rfl,rfl,rfl⟩|⟨rfl,rfl,rfl,rfl⟩|⟨rfl,rfl,rfl,rfl⟩|⟨d,rfl,rfl,rfl⟩
 ·rcases(show op=11\/op=12\/op=13\/op=14\/op=15 by omega)with rfl|rfl|rfl|rfl|rfl
  ·exact JG hx hy (Nq h)
  ·exact JG hx hy (DQ h)
  ·exact JG hx hy (JY h)
  ·exact JG hx hy (DQ h)
  ·cases h
 ·rcases(show op=16\/op=17\/op=18 by omega)with rfl|rfl|rfl
  ·exact JG hx hy (H9 h)
  ·exact JG hx hy (JX h)
  ·rcases JF h with rfl|rfl
   ·exact hx
   ·rfl
 ·rcases d with rfl|rfl
  ·obtain⟨c,rfl⟩:=AX h;rfl
  ·obtain⟨c,rfl⟩:=AX h;rfl
 ·rcases d with rfl|rfl
  ·obtain⟨c,rfl⟩:=AX h;rfl
  ·obtain⟨c,rfl⟩:=AX h;rfl
 ·obtain⟨c,rfl⟩:=Mc h;rfl
 ·obtain⟨c,rfl⟩:=Fi h;rfl
 ·rcases d with rfl|rfl
  ·exact JG hx hy (En h)
  ·exact JG hx hy (En h)
theorem Aed {e c:Ex}(h:Al ts e=X t)(hf:Ar e=X c):Al ts c=X t:=by
 unfold Ar at hf;split at hf
 ·cases hf
 split at hf
 ·rename_i b;split at hf
  ·rename_i v hv;cases hf;have d:Al [] e=X t:=by
    have hc:∀k∈e.kids,Al [] k=Al ts k:=fun k f=>by
     have:=z1.1 b k f;obtain⟨u,a⟩:=Option.isSome_iff_exists.1 this;rw[IX a,IX a]
    cases e with
    |un i op k=>rw[Al]at h|-;rw[hc k (by simp[Ex.kids])];exact h
    |bin i op l g=>rw[Al]at h|-;rw[hc l (by simp[Ex.kids]),hc g (by simp[Ex.kids])];exact h
    |ite i x y z=>rw[Al]at h|-;rw[hc x (by simp[Ex.kids]),hc y (by simp[Ex.kids]),hc z (by simp[Ex.kids])];exact h
    |_=>simp[Ex.kids]at*
   rw[Aju,FY (R:=Sw) (ls:= []) (ts:= []) rfl e t d v hv]
  ·cases hf
 ·cases hf
def Fu (ts:List Int) (ls:List Ex):Prop:=∀(n:Nat) (c:Ex),ls[n]? =X c->c.con=jA->∃v:Vv,c.cv=X v/\ts[n]? =X v.ty
theorem Aee {ls:List Ex}(p:Fu ts ls){e c:Ex}(h:Al ts e=X t)(f:AR ls e=X c):Al ts c=X t:=by
 cases e with
 |lett i n=>
  rw[AR]at f;rw[Al]at h;split at h
  ·split at f
   ·rename_i d q;split at f
    ·rename_i hc;cases f;obtain⟨v,hv,r⟩:=p _ _ q hc;rw[IX hv,<-r,h]
    ·cases f
   ·cases f
  ·cases h
 |un i op k=>
  rw[AR]at f;split at f
  ·rename_i g;subst g;cases k with
   |un s o j=>
    rw[Np]at f;split at f
    ·rename_i g;subst g;cases f;rw[Al,Al]at h;cases l:Al ts c with
     |none=>rw[l]at h;cases h
     |some a=>
      rw[l]at h;dsimp only at h;cases hq:nz (Ba 9 [a])with
      |none=>rw[hq]at h;cases h
      |some b=>
       rw[hq]at h;dsimp only at h;rcases DV hq with⟨e,_⟩|⟨_,rfl,rfl⟩|⟨e,_⟩
       ·cases e
       ·rcases DV h with⟨e,_⟩|⟨_,_,rfl⟩|⟨e,_⟩
        ·cases e
        ·rfl
        ·cases e
       ·cases e
    ·cases f
   |_=>cases f
  ·cases f
 |bin i op x y=>
  rw[AR]at f;rw[Al]at h;cases hx:Al ts x with
  |none=>rw[hx]at h;cases h
  |some a=>
   cases hy:Al ts y with
   |none=>rw[hx,hy]at h;cases h
   |some b=>rw[hx,hy]at h;exact Aec hx hy h f
 |ite i x y z=>
  rw[AR]at f;rw[Al]at h;cases hx:Al ts x with
  |none=>rw[hx]at h;cases h
  |some a=>
   cases hy:Al ts y with
   |none=>rw[hx,hy]at h;cases h
   |some b=>
    cases m:Al ts z with
    |none=>rw[hx,hy,m]at h;cases h
    |some d=>
     rw[hx,hy,m]at h;dsimp only at h;obtain⟨h1,h0⟩:=EU h;simp only[Ba]at h1;split at h1
     ·rename_i he;obtain⟨e1,e2⟩:=he;subst e2 h1
      repeat' split at f
      all_goals first|(cases f;assumption)|cases f
     ·exact absurd h1.symm h0
 |_=>cases f
theorem GG {ls:List Ex}(a:Fu ts ls){e:Ex}(h:Al ts e=X t):Al ts (FL ls e)=X t:=by
 unfold FL;cases hf:Ar e with
 |some c=>exact Aed h hf
 |none=>
  cases b:AR ls e with
  |none=>exact h
  |some c=>exact Aee a h b
theorem BP {ts:List Int}{ls:List Ex}(f:Fu ts ls):∀(e:Ex) (t:Int),Al ts e=X t->Al ts (AG ls e)=X t
 |.un i op k,t,h=>by
  rw[AG];refine GG f ?_;rw[Al]at h|-;cases g:Al ts k with
  |none=>rw[g]at h;cases h
  |some a=>rw[g]at h;rw[BP f k a g];exact h
 |.bin i op x y,t,h=>by
  rw[AG];refine GG f ?_;rw[Al]at h|-;cases hx:Al ts x with
  |none=>rw[hx]at h;cases h
  |some a=>
   cases hy:Al ts y with
   |none=>rw[hx,hy]at h;cases h
   |some b=>rw[hx,hy]at h;rw[BP f x a hx,BP f y b hy];exact h
 |.ite i x y z,t,h=>by
  rw[AG];refine GG f ?_;rw[Al]at h|-;cases hx:Al ts x with
  |none=>rw[hx]at h;cases h
  |some a=>
   cases hy:Al ts y with
   |none=>rw[hx,hy]at h;cases h
   |some b=>
    cases j:Al ts z with
    |none=>rw[hx,hy,j]at h;cases h
    |some d=>rw[hx,hy,j]at h;rw[BP f x a hx,BP f y b hy,BP f z d j];exact h
 |.int i n,t,h=>by rw[AG];exact GG f h;all_goals (intros;simp_all)
 |.text i n,t,h=>by rw[AG];exact GG f h;all_goals (intros;simp_all)
 |.bool i n,t,h=>by rw[AG];exact GG f h;all_goals (intros;simp_all)
 |.set i a n c ss,t,h=>by rw[AG];exact GG f h;all_goals (intros;simp_all)
 |.name i n,t,h=>by rw[AG];exact GG f h;all_goals (intros;simp_all)
 |.attr i n,t,h=>by rw[AG];exact GG f h;all_goals (intros;simp_all)
 |.lett i n,t,h=>by rw[AG];exact GG f h;all_goals (intros;simp_all)
theorem Agx (e:Ex):e.st.kids=e.kids.map Ex.st:=by cases e<;>rfl
theorem Aef (e:Ex):e.st.cv=e.cv:=by cases e<;>rfl
theorem Y4 (e:Ex):e.st.con=e.con:=by rw[Ex.con,Ex.con,Aef]
theorem Fr (ts:List Int):∀(e:Ex),Al ts e.st=Al ts e
 |.un i op k=>by rw[Ex.st,Al,Al,Fr ts k]
 |.bin i op l a=>by rw[Ex.st,Al,Al,Fr ts l,Fr ts a]
 |.ite i c t e=>by rw[Ex.st,Al,Al,Fr ts c,Fr ts t,Fr ts e]
 |.int .. =>rfl
 |.text .. =>rfl
 |.bool .. =>rfl
 |.set .. =>rfl
 |.name .. =>rfl
 |.attr .. =>rfl
 |.lett .. =>rfl
theorem EX:∀(e:Ex),Ao e.st=Ao e
 |.un i op k=>by rw[Ex.st,Ao,Ao,EX k]
 |.bin i op l a=>by rw[Ex.st,Ao,Ao,EX l,EX a]
 |.ite i c t e=>by rw[Ex.st,Ao,Ao,EX c,EX t,EX e]
 |.int .. =>rfl
 |.text .. =>rfl
 |.bool .. =>rfl
 |.set .. =>rfl
 |.name .. =>rfl
 |.attr .. =>rfl
 |.lett .. =>rfl
theorem Qp (R:Rq)(ls:List Vv):∀(e:Ex),DI R ls e.st=DI R ls e
 |.un i op k=>by rw[Ex.st,DI,DI,Qp R ls k]
 |.bin i op l a=>by rw[Ex.st,DI,DI,Qp R ls l,Qp R ls a]
 |.ite i c t e=>by rw[Ex.st,DI,DI,Qp R ls c,Qp R ls t,Qp R ls e]
 |.int .. =>rfl
 |.text .. =>rfl
 |.bool .. =>rfl
 |.set .. =>rfl
 |.name .. =>rfl
 |.attr .. =>rfl
 |.lett .. =>rfl
theorem Eo:∀(e:Ex),e.st.cnt=e.cnt
 |.un i op k=>by rw[Ex.st,Ex.cnt,Ex.cnt,Eo k]
 |.bin i op l a=>by rw[Ex.st,Ex.cnt,Ex.cnt,Eo l,Eo a]
 |.ite i c t e=>by rw[Ex.st,Ex.cnt,Ex.cnt,Eo c,Eo t,Eo e]
 |.int .. =>rfl
 |.text .. =>rfl
 |.bool .. =>rfl
 |.set .. =>rfl
 |.name .. =>rfl
 |.attr .. =>rfl
 |.lett .. =>rfl
theorem Qr:∀(e:Ex),e.st.st=e.st
 |.un i op k=>by rw[Ex.st,Ex.st,Qr k]
 |.bin i op l a=>by rw[Ex.st,Ex.st,Qr l,Qr a]
 |.ite i c t e=>by rw[Ex.st,Ex.st,Qr c,Qr t,Qr e]
 |.int .. =>rfl
 |.text .. =>rfl
 |.bool .. =>rfl
 |.set .. =>rfl
 |.name .. =>rfl
 |.attr .. =>rfl
 |.lett .. =>rfl
theorem KZ (b:Bool)(e:Ex):isB b e.st=isB b e:=by cases e<;>rfl
theorem Ah8 (n:Int)(e:Ex):No n e.st=No n e:=by cases e<;>rfl
theorem Ah9 (e:Ex):GP e.st=GP e:=by cases e<;>rfl
theorem Agy (x y:Ex):sameL x.st y.st=sameL x y:=by cases x<;>cases y<;>rfl
theorem Aia (x y:Ex):Ol x.st y.st=Ol x y:=by rw[Ol,Ol,Y4,Aef,Aef]
theorem Ajv (v:Vv):v.ex.st=v.ex:=by cases v<;>rfl
theorem Agz (b:Bool)(x y:Ex):JC b x.st y.st=(JC b x y).map Ex.st:=by
 unfold JC;rw[KZ,KZ,KZ,KZ,EX]
 repeat' split<;>try rfl
theorem AgA (op:Int)(x y:Ex):CS op x.st y.st=(CS op x y).map Ex.st:=by
 have d:∀(c:Prop) [Decidable c] (a b:Option Ex),(if c then a else b).map Ex.st=if c then a.map Ex.st else b.map Ex.st:=fun c _ a b=>by split<;>rfl
 unfold CS Gd JD GF Qo EE JE Em ID inE;simp only[Agz,Ah9,Ah8,Agy,EX,d,Option.map_some,Option.map_none,Ex.st]
theorem AgB (e:Ex):Ar e.st=Ar e:=by
 unfold Ar;rw[Agx,Qp];have h1:(e.kids.map Ex.st).isEmpty=e.kids.isEmpty:=by cases e.kids<;>rfl
 have h2:(e.kids.map Ex.st).all Ex.con=e.kids.all Ex.con:=by rw[List.all_map];congr 1;funext k;exact Y4 k
 rw[h1,h2]
theorem AgC {e c:Ex}(h:Ar e=X c):c.st=c:=by
 unfold Ar at h
 repeat' split at h
 all_goals first|(cases h;exact Ajv _)|cases h
theorem AgD (ls:List Ex)(e:Ex):AR (ls.map Ex.st) e.st=(AR ls e).map Ex.st:=by
 cases e with
 |lett i n=>
  show(match (ls.map Ex.st)[n.toNat]? with|some c=>if c.con then X c else T|none=>T)=_
  rw[zZ,AR];cases ls[n.toNat]? with
  |none=>rfl
  |some c=>
   show(if c.st.con then X c.st else T)=Option.map Ex.st (if c.con then X c else T);rw[Y4];split<;>rfl
 |un i op k=>
  show(if op=9 then Np k.st else T)=Option.map Ex.st (if op=9 then Np k else T);split
  ·cases k with
   |un a o j=>show(if o=9 then X j.st else T)=Option.map Ex.st (if o=9 then X j else T);split<;>rfl
   |_=>rfl
  ·rfl
 |bin i op x y=>exact AgA op x y
 |ite i c t e=>
  show(if isB jA c.st then X t.st else if isB jC c.st then X e.st else if Ol t.st e.st&&Ao c.st then X t.st else T)=_;rw[KZ,KZ,Aia,EX,AR]
  repeat' split<;>try rfl
 |_=>rfl
theorem Ft (ls:List Ex)(e:Ex):FL (ls.map Ex.st) e.st=(FL ls e).st:=by
 unfold FL;rw[AgB];cases hf:Ar e with
 |some c=>exact(AgC hf).symm
 |none=>
  dsimp only;rw[AgD];cases AR ls e<;>rfl
theorem La (ls:List Ex):∀(e:Ex),AG (ls.map Ex.st) e.st=(AG ls e).st
 |.un i op k=>by rw[Ex.st,AG,AG,La ls k];exact Ft ls (.un i op (AG ls k))
 |.bin i op l b=>by rw[Ex.st,AG,AG,La ls l,La ls b];exact Ft ls (.bin i op (AG ls l) (AG ls b))
 |.ite i c t e=>by rw[Ex.st,AG,AG,La ls c,La ls t,La ls e];exact Ft ls (.ite i (AG ls c) (AG ls t) (AG ls e))
 |.int i n=>Ft ls (.int i n)
 |.text i n=>Ft ls (.text i n)
 |.bool i n=>Ft ls (.bool i n)
 |.set i a n c ss=>Ft ls (.set i a n c ss)
 |.name i n=>Ft ls (.name i n)
 |.attr i n=>Ft ls (.attr i n)
 |.lett i n=>Ft ls (.lett i n)
set_option maxRecDepth 100000
set_option maxHeartbeats 1600000
theorem RI (n:Int)(w:World):Calls j4 127 #[U .i64 n] w fun b w'=>b= .returned (U .i64 (Bw n))/\w'=w:=by
 by_cases h1:n<2
 ·have a:=Ab (show Bw n=3 by rw[Bw,if_pos h1]);go_enter func127,ntmps127
  go_wp2_with fail
  go_ret
  exact⟨by rw[Aa a];rfl,rfl⟩
 by_cases h2:n<4
 ·have a:=Ab (show Bw n=2 by rw[Bw,if_neg h1,if_pos h2]);go_enter func127,ntmps127
  go_wp2_with fail
  go_ret
  exact⟨by rw[Aa a];rfl,rfl⟩
 ·have a:=Ab (show Bw n=4 by rw[Bw,if_neg h1,if_neg h2]);go_enter func127,ntmps127
  go_wp2_with fail
  go_ret
  exact⟨by rw[Aa a];rfl,rfl⟩
def Fm:Int->List Int->List Int->Option Int
 |any,[],_=>X any
 |any,w ::ws,ks=>match ks with
  |[]=>T
  |k ::ks=>if w=0 then (if any=0 then Fm k ws ks else if k=any then Fm any ws ks else T)else if k=w then Fm any ws ks else T
def CT (op:Int) (K:List Int):Int:=match Fm 0 (DH op).1 K with
 |none=>0
 |some any=>if (DH op).2=0 then any else (DH op).2
theorem Abk {a K:List Int}(h1:k<a.length)(h2:k<K.length):Fm t (a.drop k) (K.drop k)=
  if a[k]=0 then (if t=0 then Fm K[k] (a.drop (k+1)) (K.drop (k+1))else if K[k]=t then Fm t (a.drop (k+1)) (K.drop (k+1))else T)else if K[k]=a[k]then Fm t (a.drop (k+1)) (K.drop (k+1))else T:=by
 rw[z5 h1,z5 h2,Fm]
theorem Aac (op:Int)(h:Jb op)(a:Option Addr)(n c:Nat)(K:List Int)(w:World)(t:AK w a n c K)(y:(DH op).1.length<=n):
  Calls j4 128 #[U .i64 op,Y a n c] w fun H w'=>H= .returned (U .i64 (CT op K))/\Ah w w':=by
 have z:=Ab (AcS op h w);obtain⟨d,s⟩:∃d,d=(DH op).1:=⟨_,rfl⟩
 obtain⟨o,A⟩:∃o,o=(DH op).2:=⟨_,rfl⟩
 have B:=Ab (show CT op K=match Fm 0 d K with|none=>0|some any=>if o=0 then any else o by rw[s,A];rfl)
 unfold AfH at z;rw[<-s,<-A]at z;rw[<-s]at y;have L:=Ab y;have I:=Ab t.len;have S:=t.small;clear s A y h;go_enter func128,ntmps128
 go_wp2_with fail
 refine(Aa z).mono ?_;rintro H M ⟨⟨x,m,c1,rfl,C⟩,g⟩;have J:=Ab C.len;have N:=t.below g NLN;have hm:=C.small;dsimp only;go_wp2_with fail
 go_loopw [7,17] (fun v i wr=>∃ (k:Nat) (any:Int),k<=m/\v=U .i64 any/\i=U .i64 k/\Ah M wr/\Hid (Fm 0 d K=Fm any (d.drop k) (K.drop k))) (fun _ i _=>m-(intOf i).toNat)
 case atStart=>exact⟨0,0,by omega,rfl,rfl,BRN,Ab rfl⟩
 case round=>
  obtain⟨k,any,W,rfl,rfl,j,D⟩:=hrel;by_cases E:k<m
  ·have aa:(k:Int)<(m:Int):=by omega
   have h1:k<d.length:=by rw[Aa J];exact E
   have h2:k<K.length:=by have:=Aa L;rw[Aa I];omega
   have ab:(k:Int)<(n:Int):=by have:=Aa I;omega
   obtain⟨b1,ac,rfl,ad,O⟩:=(C.below j NLN).cells k h1;obtain⟨b2,o2,rfl,ae,c2⟩:=(N.below j NLN).cells k h2;have f:=Ab ((Aa D).trans (Abk h1 h2));have l:=Ab (show(if d[k]=0 then (if any=0 then Fm K[k] (d.drop (k+1)) (K.drop (k+1))else if K[k]=any then Fm any (d.drop (k+1)) (K.drop (k+1))else T)else if K[k]=d[k]then Fm any (d.drop (k+1)) (K.drop (k+1))else T)=T->CT op K=0 from fun e=>by rw[Aa B,Aa D,Abk h1 h2,e]);have p:=Ab E;generalize Fm 0 d K=F at f B;generalize d[k]=u at O f l;generalize K[k]=v at c2 f l;clear E h1 h2;by_cases q:u=0
   ·subst q;by_cases r:any=0
    ·subst r;have b:=Ab ((Aa f).trans (by rw[if_pos rfl,if_pos rfl]));clear f l;go_wp2_with fail
     go_roundw
     case rel=>exact⟨k+1,v,Aa p,rfl,by go_num,j,b⟩
     case measure=>have:=Aa p;simp[intOf];omega
    ·have af:(any==0)=jC:=zA.2 r;by_cases hv:v=any
     ·have G:(v !=any)=jC:=by simp[hv]
      have b:=Ab ((Aa f).trans (by rw[if_pos rfl,if_neg r,if_pos hv]));clear f l r hv;go_wp2_with fail
      go_roundw
      case rel=>exact⟨k+1,any,Aa p,rfl,by go_num,j,b⟩
      case measure=>have:=Aa p;simp[intOf];omega
     ·have G:(v !=any)=jA:=zc.2 hv;have b:=Ab (Aa l (by rw[if_pos rfl,if_neg r,if_neg hv]));clear f l r hv;go_wp2_with fail
      go_ret
      exact⟨by rw[Aa b];rfl,g.trans (j.mono g.size)⟩
   ·have ag:(u==0)=jC:=zA.2 q;by_cases hv:v=u
    ·have G:(v !=u)=jC:=by simp[hv]
     have b:=Ab ((Aa f).trans (by rw[if_neg q,if_pos hv]));clear f l q hv;go_wp2_with fail
     go_roundw
     case rel=>exact⟨k+1,any,Aa p,rfl,by go_num,j,b⟩
     case measure=>have:=Aa p;simp[intOf];omega
    ·have G:(v !=u)=jA:=zc.2 hv;have b:=Ab (Aa l (by rw[if_neg q,if_neg hv]));clear f l q hv;go_wp2_with fail
     go_ret
     exact⟨by rw[Aa b];rfl,g.trans (j.mono g.size)⟩
  ·have e:k=m:=by omega
   subst e;have b:=Ab (show CT op K=if o=0 then any else o by
    rw[Aa B,Aa D,List.drop_of_length_le (by rw[Aa J];omega)];rfl)
   by_cases h0:o=0
   ·subst h0;have b:=Ab ((Aa b).trans (if_pos rfl));go_wp2_with fail
    go_ret
    exact⟨by rw[Aa b];rfl,g.trans (j.mono g.size)⟩
   ·have e0:(o==0)=jC:=zA.2 h0;have P:=Ab h0;clear h0;go_wp2_with fail
    go_ret
    exact⟨by rw[Aa b,if_neg (Aa P)];rfl,g.trans (j.mono g.size)⟩
theorem AfI (op a:Int)(h: 8<=op/\op<=10):CT op [a]=Ba op [a]:=by
 have:op=8\/op=9\/op=10:=by omega
 rcases this with rfl|rfl|rfl
 ·by_cases h:a=2<;>simp[CT,DH,Ba,Fm,h]
 ·by_cases h:a=1<;>simp[CT,DH,Ba,Fm,h]
 ·by_cases h:a=4<;>simp[CT,DH,Ba,Fm,h]
theorem AcT (op a b:Int)(h: 11<=op/\op<=26)(f:a≠0):CT op [a,b]=Ba op [a,b]:=by
 have:op=11\/op=12\/op=13\/op=14\/op=15\/op=16\/op=17\/op=18\/op=19\/op=20\/op=21\/op=22\/op=23\/op=24\/op=25\/op=26:=by omega
 rcases this with rfl|rfl|rfl|rfl|rfl|rfl|rfl|rfl|rfl|rfl|rfl|rfl|rfl|rfl|rfl|rfl
 all_goals
  first
   |(by_cases e:b=a<;>first|(subst e;simp[CT,DH,Ba,Fm,f];done)|(have e2:a≠b:=fun k=>e k.symm;simp[CT,DH,Ba,Fm,f,e,e2];done))
   |(by_cases c:a=1<;>by_cases d:b=1<;>simp[CT,DH,Ba,Fm,c,d];done)
   |(by_cases c:a=2<;>by_cases d:b=2<;>simp[CT,DH,Ba,Fm,c,d];done)
   |(by_cases c:a=4<;>by_cases d:b=4<;>simp[CT,DH,Ba,Fm,c,d];done)
   |(by_cases c:a=3<;>by_cases d:b=4<;>simp[CT,DH,Ba,Fm,c,d];done)
theorem AcU (a b c:Int)(d:b≠0):CT 27 [a,b,c]=Ba 27 [a,b,c]:=by
 simp[CT,DH,Ba,Fm,d];by_cases h1:a=1<;>by_cases h2:c=b<;>simp_all<;>omega
set_option maxHeartbeats 3200000
theorem YZ (k n:Nat):(DD k n).length=n:=by simp[DD]
theorem FK {w:World}{lo n c:Nat}{a:Option Addr}{L:List Int}(h:w.ownsRow lo 3 1 (Y a n c) n (Aq L))(b:L.length=n)(d:n<=1048576):AK w a n c L:=by
 refine⟨b,d,fun j f=>?_⟩;obtain⟨x,c',e,hx⟩:=Ae h;cases e;obtain⟨g,rfl,hg,hc⟩:=hx (by omega);refine⟨g,0,rfl,(h.lt g rfl).2,?_⟩;rw[zU];exact hc j _ (by rw[Aq,zZ,zG f];rfl)
theorem Ss (lo:Nat)(a:Option Addr)(n c:Nat)(P:List Nd)(A B:List Value)(k:Nat)(w:World)(h:Ci w lo (Y a n c) (UH k P) A B)(I:P.length=n)(ok:∀x∈P,okN x)(J:Ee k P P.length<=17592186044416):
  Calls j4 37 #[Y a n c,U .i64 k] w fun e w'=>e= .returned (U .i64 (Ee k P P.length:Nat))/\Ah w w':=by
 have C:=Ab I;have ac:=Ab J;have ad:=Ab ok;have ay:n<=17592186044416:=by
  have:Ee k P P.length=k+3*P.length+((P.take P.length).map Pc).sum:=rfl;omega
 clear I J ok;go_enter func37,ntmps37
 go_wp2
 go_loopw [1,5] (fun q i wr=>∃ (j:Nat) (z:Int),j<=n/\i=U .i64 j/\q=U .i64 z/\z=((Ee k P j:Nat):Int)/\Ah w wr) (fun _ i _=>n-(intOf i).toNat)
 case atStart=>exact⟨0,k,zD _,rfl,rfl,by rw[Wt],BRN⟩
 case round=>
  obtain⟨j,z,az,rfl,rfl,D,o⟩:=hrel;by_cases K:j<n
  ·have H:j<P.length:=by rw[Aa C];exact K
   have L:=FJ k P;have r:j<(UH k P).length:=by omega
   have d:=h.blocks (w':=wr) (fun k _ ae=>o.block k ae);have M:j<A.length:=by rw[d.len];exact r
   have N:j<B.length:=by rw[d.lenk];exact r
   have af:=Ql k P j H;have ag:=Wu k P (j+1) (by omega);have ah:=Aa ac;have aA:(j:Int)<(n:Int):=by omega
   have aB: 0<=z:=by omega
   obtain⟨g,hg⟩:∃g,a=X ⟨g,0,T⟩:=by
    rcases d.own.2 with⟨_,h0⟩|⟨g,cap,aC,hv,_⟩
    ·rw[L,Aa C]at h0;omega
    ·simp only[Value.slice.injEq]at hv;exact⟨g,hv.1⟩
   subst hg;have E:=(d.lts.1 g rfl).2;have s:wr.ownsRow lo 85 5 (Y (X ⟨g,0,T⟩) n c) n (Og (UH k P) A B):=by have:=d.own;rwa[L,Aa C]at this
   have t:=UG (UH k P) A B j r M N;have u:=t 0 (by decide);have v:=t 1 (by decide);have x2:=t 2 (by decide);have x3:=t 3 (by decide);have F:=t 4 (by decide);simp only[RQ,zX,yG,z6]at u v x2 x3 F;have O:=Aa ad P[j] (zH H);have f:=d.names j r M;have l:=d.kids j r N;have S:=YY k P j H r;rw[S]at u v x2 f l;obtain⟨m,hm⟩:∃m,m=P[j].names.length:=⟨_,rfl⟩
   obtain⟨p,hp⟩:∃p,p=P[j].kids.length:=⟨_,rfl⟩
   have ai:Pc P[j]=m+p:=by rw[Pc,hm,hp]
   rw[<-hm,<-hp]at u v x2 f l;have e0:(mkD (Ee k P j) m p).op=z:=D.symm;have e1:(mkD (Ee k P j) m p).num=z+1:=by show((Ee k P j+1 :Nat):Int)=_;omega
   have e2:(mkD (Ee k P j) m p).text=Br (z+1+1).toNat:=by show Br (Ee k P j+2)=_;rw[show(z+1+1).toNat=Ee k P j+2 by omega]
   have e3:(mkD (Ee k P j) m p).names=DD (z+1+1+1).toNat m:=by show DD (Ee k P j+3) m=_;rw[show(z+1+1+1).toNat=Ee k P j+3 by omega]
   rw[e0]at u;rw[e1]at v;rw[e2]at x2;have e4:(mkD (Ee k P j) m p).kids=BY (z+1+1+1+m).toNat p:=by show BY (Ee k P j+3+m) p=_;rw[show(z+1+1+1+(m:Int)).toNat=Ee k P j+3+m by omega]
   rw[e3,YZ]at f;rw[e4,CL]at l;obtain⟨an,cn,W⟩:=Bo f;obtain⟨aj,ak,aa⟩:=Bo l;rw[W]at x3 f;rw[aa]at F l;have aD:=(s.cellAt (j*5) (by omega)).trans u;have c1:=(s.cellAt (j*5+1) (by omega)).trans v;have c2:=(s.cellAt (j*5+2) (by omega)).trans x2;have c3:=(s.cellAt (j*5+3) (by omega)).trans x3;have c4:=(s.cellAt (j*5+4) (by omega)).trans F;have aE:z+3+m+p<=17592186044416:=by omega
   have al:=Ab (show z+3+m+p=((Ee k P (j+1):Nat):Int) by omega);have ao:AK wr aj p ak (BY (z+1+1+1+m).toNat p):=FK l (CL _ _) (by rw[hp];exact O.2.1);have ap:Ap wr an m cn (DD (z+1+1+1).toNat m):=Ap.of_owns f (Oj _ _ (by omega));have ab:=Ab K;clear D af ag ah hm hp ai e0 e1 e2 e3 e4 u v x2 x3 F s f l W aa S d t O;go_wp2_with fail
   go_region_held3 (fun w'=>w'.cell? ⟨g,j*5+2,T⟩=X (.string (Br (z+1+1).toNat))) (go_keep)
    ((go_at_call 71;refine(BN _ _ (by omega) (by omega)).mono ?_;rintro e y ⟨rfl,b⟩;have aF:=(b.cell (p:=⟨g,j*5+2,T⟩) E).trans c2;have aG:=(b.cell (p:=⟨g,j*5+3,T⟩) E).trans c3;have aq:=(b.cell (p:=⟨g,j*5+4,T⟩) E).trans c4))
   all_goals
    have ar:=ap.below (show Ah wr y from BRN.drew.trans b) NLN;have au:=ao.below (show Ah wr y from BRN.drew.trans b) NLN;have av:g<y.heap.size:=zE E b.size;have aH: ¬ (z+1+1+1+(m:Int)<0):=by omega
    have aI: ¬ (z+1+1+1+(m:Int)+(p:Int)<0):=by omega
    go_wp2_with (first|(go_at_call 73;refine(Pe _ _ _ (z+1+1+1) y ar (by omega) (by omega)).mono ?_;rintro e aw ⟨rfl,G⟩;have aJ:=(G.cell (p:=⟨g,j*5+4,T⟩) av).trans aq)|(go_at_call 39;refine(Mb _ _ _ (z+1+1+1+m) aw (au.below G NLN) (by omega) (by omega)).mono ?_;rintro e aK ⟨rfl,ax⟩))
    go_roundw
    case rel=>exact⟨j+1,z+1+1+1+m+p,Aa ab,by go_num,by go_num,by have:=Aa al;omega,((o.drew.trans (b.mono o.size)).trans (G.mono (by have h1:wr.heap.size<=y.heap.size:=b.size;have:=o.size;omega))).trans (ax.mono (by have h1:wr.heap.size<=y.heap.size:=b.size;have:=G.size;have:=o.size;omega))⟩
    case measure=>have:=Aa ab;simp[intOf];omega
  ·have e:j=n:=by omega
   subst e;go_wp2
   go_ret
   rw[<-Aa C]at D;exact⟨by rw[D];rfl,o⟩
theorem Lq (h:AC ss=jA):ss.length<=64/\Ja ss=jA/\By ss=jA:=by
 simp[AC]at h;exact h
theorem Abg (h1:ss.length<=64)(h2:Ja ss=jA)(h3:By ss=jA):AC ss=jA:=by
 simp[AC,h1,h2,h3]
theorem Afn {q:Bool}{x:ByteArray} :x∈Dd ss tt q↔x∈ss/\Kb tt x=q:=by
 unfold Dd;rw[List.mem_filter,zM]
theorem AcC (tt:List ByteArray)(q:Bool)(h:By ss=jA):By (Dd ss tt q)=jA:=by
 rw[By,zI]at h|-;exact h.filter _
theorem Ov {K:List ByteArray}(h:Ja ss=jA)(a:∀x∈K,x∈ss):Ja K=jA:=by
 rw[Ja,z1]at h|-;exact fun x hx=>h x (a x hx)
theorem TX (tt:List ByteArray)(q:Bool)(h:AC ss=jA):AC (Dd ss tt q)=jA:=by
 obtain⟨h1,h2,h3⟩:=Lq h;exact Abg (zB (H7 ss tt q) h1) (Ov h2 fun x hx=>(Afn.1 hx).1) (AcC tt q h3)
theorem Afo (h:Ja ss=jA)(a:Ja tt=jA):Ja (ss++tt)=jA:=by
 rw[Ja,List.all_append,zF];exact⟨h,a⟩
theorem WM {M:List ByteArray}(h1:AC ss=jA)(h2:AC tt=jA)(a:DL (ss++tt) M)(b:M.length<=64):AC M=jA:=by
 obtain⟨_,a1,_⟩:=Lq h1;obtain⟨_,a2,_⟩:=Lq h2;exact Abg b (Ov (Afo a1 a2) fun x hx=>(a.mem x).1 hx) a.rise
theorem Ace (h1:AC ss=jA)(h2:AC tt=jA):AC (BR ss tt)=jA:=by
 have e1:BR ss tt=Dd ss tt jA:=by simp[BR,h1,h2]
 rw[e1];exact TX tt jA h1
theorem WO (h1:AC ss=jA)(h2:AC tt=jA):AC (Bc ss tt)=jA:=by
 have e1:Bc ss tt=Dd ss tt jC:=by simp[Bc,h1,h2]
 rw[e1];exact TX tt jC h1
section
variable {aS aO aZ aW : Addr} {G : Nat -> Prop}
theorem Vy (op:Int)(x:Value)(v:Vv)(w:World)(hx:VIs G w x v)(d:op=25\/op=26->v.ty=1):
  Calls j4 188 #[U .i64 op,x] w fun f w'=>f= .returned (.bool (Jf op v))/\w'=w:=by
 have h:=Um;by_cases a:op=25
 ·obtain⟨b,rfl⟩:=Vv.bool_of (d (.inl a));subst a;have e:x= .iface 251 (.bool b):=hx;subst e;go_enter func188,ntmps188
  go_wp2_with fail
  go_ret
  exact⟨rfl,rfl⟩
 by_cases c:op=26
 ·obtain⟨b,rfl⟩:=Vv.bool_of (d (.inr c));subst c;have e:x= .iface 251 (.bool b):=hx;subst e;go_enter func188,ntmps188
  go_wp2_with fail
  go_ret
  exact⟨rfl,rfl⟩
 ·have g:=Ab (show Jf op v=jC by cases v<;>simp[Jf,a,c]);have i:(op==25)=jC:=zA.2 a;have j:(op==26)=jC:=zA.2 c;obtain⟨t,u,rfl⟩:=hx.form;clear a c hx d;go_enter func188,ntmps188
  go_wp2_with fail
  go_ret
  exact⟨by rw[Aa g];rfl,rfl⟩
end
end Go.Proofs.YteiieikcjcfkkaaGreatDoor
