import Derived.Test.YtnjpihpohilnjaaGreatDoorMXAD
open Option renaming none->U,some->Q,some->jg
open Array renaming size->R,size->jh
open Go renaming World->jB,Value->jF
open Bool renaming true->jD,false->jE
namespace Go.Proofs.YtnjpihpohilnjaaGreatDoor
open Proofs.Tryz
open Value renaming int->V,slice->Y,string->jC,agg->jM,tuple->jQ
open IntKind renaming i64->X
open World renaming heap->Z,cell?->jI,setCell->jJ,alloc->jK,frozen?->jY
open Addr renaming mk->jA
open Proofs.Tryz renaming prog->jZ
set_option maxRecDepth 100000
set_option maxHeartbeats 25600000
open Go.RowKit
set_option linter.unusedVariables false
variable{tmps:Array jF}{x y:Ex}{k l:K5}{b:Nat}{c d f g i:jF}{w a:jB}
def PrA (o:M3) (w:jB) (r:Ending) (w':jB):Prop:=
 (∃ (k:K5) (b:Bool),r= .returned (jQ #[jM #[V X k.op,V X k.num,jC k.text,Y k.an k.nn k.cn,Y k.ka k.kn k.kc],.bool b])/\b=o.isSome/\∀z,o=Q z->Tq w' z k)/\Ai w w'
def PrW (x y:Ex) (k l:K5) (z:Ex) (m:K5):Prop:=(z=x/\m=k)\/(z=y/\m=l)\/(∃b,z= .bool 0 b/\m=⟨3,if b then 1 else 0,⟨#[]⟩,U,0,0,U,0,0⟩)\/(z= .set 0 U 0 0 []/\m=⟨4,0,⟨#[]⟩,U,0,0,U,0,0⟩)
theorem prX  :PrW x y k l x k:=Or.inl ⟨rfl,rfl⟩
theorem prY  :PrW x y k l y l:=Or.inr<|Or.inl ⟨rfl,rfl⟩
theorem prT (b:Bool):PrW x y k l (.bool 0 b) ⟨3,if b then 1 else 0,⟨#[]⟩,U,0,0,U,0,0⟩:=Or.inr<|Or.inr<|Or.inl ⟨b,rfl,rfl⟩
theorem prE  :PrW x y k l (.set 0 U 0 0 []) ⟨4,0,⟨#[]⟩,U,0,0,U,0,0⟩:=Or.inr<|Or.inr<|Or.inr ⟨rfl,rfl⟩
def PrB (x y:Ex) (k l:K5) (o:M3) (w:jB) (r:Ending) (w':jB):Prop:=
 (∃ (m:K5) (b:Bool),r= .returned (jQ #[jM #[V X m.op,V X m.num,jC m.text,Y m.an m.nn m.cn,Y m.ka m.kn m.kc],.bool b])/\b=o.isSome/\∀z,o=Q z->PrW x y k l z m)/\Ai w w'
theorem Cb {j:Func}{a u:Tmp}(h:j.results= #[.cell a 121,.tmp u]){e:jF}(k:tmps.getD a undef= .pointer (Q<|jA b 0 U))(hu:tmps.getD u undef=e)
  (R:Ag w b #[c,d,f,g,i] 121):(results j tmps).run jZ w= .ok (jQ #[jM #[c,d,f,g,i],e]) w:=by
 rw[Array.getD_eq_getD_getElem?]at k hu;have g0:jI w (jA b 0 U)=Q c:=R.cell 0;have g1:jI w (jA b 1 U)=Q d:=R.cell 1;have g2:jI w (jA b 2 U)=Q f:=R.cell 2;have g3:jI w (jA b 3 U)=Q g:=R.cell 3;have l:jI w (jA b 4 U)=Q i:=R.cell 4;simp[results,h,k,hu,go_sem,g0,g1,g2,g3,l]
theorem Ae9 (w:jB):Tq w (.set 0 U 0 0 []) ⟨4,0,⟨#[]⟩,U,0,0,U,0,0⟩:=
 ⟨rfl,rfl,rfl,rfl,⟨rfl,NLN,zE _,λj h=>H9 h Ox,λj h=>H9 h Ox⟩,zE _,λ_=>rfl,λa e=>O5⟩
theorem Aa4 (w:jB)(b:Bool):Tq w (.bool 0 b) ⟨3,if b then 1 else 0,⟨#[]⟩,U,0,0,U,0,0⟩:=
 ⟨rfl,by cases b<;>rfl,rfl,rfl,⟨rfl,NLN,zE _,λj h=>H9 h Ox,λj h=>H9 h Ox⟩,zE _,λ_=>rfl,λa e=>O5⟩
theorem Ry (n:Int)(w:jB):Calls jZ 147 #[V X n] w λr w'=>r= .returned (jM #[V X 3,V X n,jC ⟨#[]⟩,Y U 0 0,Y U 0 0])/\Ai w w':=by
 have a:=AE w<|.cells #[V X 3,V X n,jC ⟨#[]⟩,Y U 0 0,Y U 0 0] 121;go_enter func147,ntmps147
 go_wp2_with fail
 first
 |(go_ret;exact⟨rfl,a⟩)
 |exact G2 (v:= jM #[V X 3,V X n,jC ⟨#[]⟩,Y U 0 0,Y U 0 0]) (by simp[results,results147,go_sem]) rfl ⟨rfl,a⟩
theorem Aje (h:sameL x y=jD):SY x=jE/\SY y=jE:=by cases x<;>cases y<;>first|exact⟨rfl,rfl⟩|cases h
theorem Xy {P:Program}{ops:Array Oper}{o:Oper}{a:Act}{K:Act->jB->Prop}{Q:Exit->Act->jB->Prop}{E:Prop}(g:Region.wanted o (yielded ops a.tmps)=jD)(f:FuncId)(b:Func)(i:P.funcs[f]? =jg b)(j:(b.name== "runtime.NumGoroutine")=jE)(d:b.body.isNone=jE)(x:Operand)(k:Array TypeId)
  (l:o.op= .call { callee:= .value (.func f),args:=#[x],argTypes:=k })(c:jF)(hx:a.eval x=c)
  (R:jF->jB->Prop)(hc:Calls P f #[c] w λe w'=>∃v,e= .returned v/\R v w')(h:∀v w',R v w'->K (a.put o.dst v) w'):
  if Region.wanted o (yielded ops a.tmps)=jD then Oper.wp P o a w K Q else E:=by
 rw[if_pos g];unfold Oper.wp;have m:(execOp a.eval o).run P w= .ok (.enter f #[c]) w:=by
  subst hx;have n:b.name≠ "runtime.NumGoroutine" :=by simpa using j
  have p:(callFunc f #[a.eval x]).run P w= .ok (.enter f #[a.eval x]) w:=by
   have h3:b.body≠U:=λe=>by rw[e]at d;cases d
   simp[callFunc,i,n,h3]
  simpa[execOp,l,resolve,invoke,Act.eval,Result.andThen,go_sem]using p
 rw[m,Oper.upon_enter];refine hc.mono ?_;rintro e w' ⟨v,rfl,q⟩;exact h v w' q
def zW (W:jB) (b:Nat) (k:K5):jB:=jJ (jJ (jJ (jJ (jJ W (jA b 0 U)<|V X k.op) (jA b 1 U)<|V X k.num) (jA b 2 U)<|jC k.text) (jA b 3 U)<|Y k.an k.nn k.cn) (jA b 4 U)<|Y k.ka k.kn k.kc
theorem Rz {c:jB}{d f g h:jF}(k:K5)(B:Ai w c)(R:Ag c b #[d,f,g,h,i] 121)(a:jh (Z w)<=b):Ai w (zW c b k)/\Ag (zW c b k) b #[V X k.op,V X k.num,jC k.text,Y k.an k.nn k.cn,Y k.ka k.kn k.kc] 121:=
 ⟨((((B.setCell (p:=(jA b 0 U)) a _).setCell (p:=(jA b 1 U)) a _).setCell (p:=(jA b 2 U)) a _).setCell (p:=(jA b 3 U)) a _).setCell (p:=(jA b 4 U)) a _,((((R.set 0 _).set 1 _).set 2 _).set 3 _).set 4 _⟩
def Pz (w:jB) (k l:K5) (W:jB):Prop:=Ai w W/\Ag W (R<|Z w) #[V X k.op,V X k.num,jC k.text,Y k.an k.nn k.cn,Y k.ka k.kn k.kc] 121/\Ag W (R (Z w)+1) #[V X l.op,V X l.num,jC l.text,Y l.an l.nn l.cn,Y l.ka l.kn l.kc] 121/\Ag W (R (Z w)+1+1) #[V X 0,V X 0,jC ⟨#[]⟩,Y U 0 0,Y U 0 0] 121
theorem Pz.next {c:jB}(h:Pz w k l a)(b:Ai a c):Pz w k l c:=
 ⟨h.1.trans<|b.mono h.1.size,h.2.1.aA b NLN,h.2.2.1.aA b NLN,h.2.2.2.aA b NLN⟩
theorem Fg {a:Array jF}{t:TypeId}(R:Ag w b a t):jY w (jA b 0 U)=jE/\jY w (jA b 1 U)=jE/\jY w (jA b 2 U)=jE/\jY w (jA b 3 U)=jE/\jY w (jA b 4 U)=jE:=by grind [Ag.frozen]
theorem Pz.cG (m:K5)(h:Pz w k l a):Ai w (zW a (R (Z w)+1+1) m)/\Ag (zW a (R (Z w)+1+1) m) (R (Z w)+1+1) #[V X m.op,V X m.num,jC m.text,Y m.an m.nn m.cn,Y m.ka m.kn m.kc] 121:=Rz m h.1 h.2.2.2 Oa
theorem RB (d:a=jK (jK (jK w<|CX k)<|CX l) Gg):Pz w k l a:=by
 subst d;have f:=((Ag.new w #[V X k.op,V X k.num,jC k.text,Y k.an k.nn k.cn,Y k.ka k.kn k.kc] 121).alloc<|CX l).alloc Gg;have b:=(Ag.new (jK w<|CX k) #[V X l.op,V X l.num,jC l.text,Y l.an l.nn l.cn,Y l.ka l.kn l.kc] 121).alloc Gg;have c:=Ag.new (jK (jK w<|CX k)<|CX l) #[V X 0,V X 0,jC ⟨#[]⟩,Y U 0 0,Y U 0 0] 121;simp only[G0]at b c;exact⟨((AE w _).alloc Ox _).alloc O0 _,f,b,c⟩
theorem Ajf (op:Int)(v:op=11\/op=13\/op=15\/op=16\/op=17\/op=18\/op=19\/op=20\/op=21\/op=22\/op=24\/op=25\/op=26)(p:Tq w x k)(q:Tq w y l)(f:Bp x=jD)(g:Bp y=jD):Calls jZ 129 #[V X op,jM #[V X k.op,V X k.num,jC k.text,Y k.an k.nn k.cn,Y k.ka k.kn k.kc],jM #[V X l.op,V X l.num,jC l.text,Y l.an l.nn l.cn,Y l.ka l.kn l.kc]] w<|PrB x y k l (Da op x y) w:=by
 obtain⟨j,s⟩:∃j,j=jK (jK (jK w (CX k)) (CX l)) Gg:=⟨_,rfl⟩
 have P:=RB s;have A:=Ab s;obtain⟨o,t⟩:∃o,o=Da op x y:=⟨_,rfl⟩
 rw[<-t];have B:=Ab t;obtain rfl|rfl|rfl|rfl|rfl|rfl|rfl|rfl|rfl|rfl|rfl|rfl|rfl:=v
 all_goals
  go_enter func129,ntmps129
  go_wp2_with fail
  rw[<-Aa A];refine(Rx (p.below P.1 NLN) (q.below P.1 NLN) f g).mono ?_;rintro r C ⟨rfl,D⟩;replace P:=P.next D;generalize C=j at P|-;generalize hv:sameL x y=c;cases c
  case' true=>have n:=Ab<|Aje hv
  all_goals
   first
    |have m:=Ab<|K6 hv<|Aa n
    |have m:=Ab hv
   repeat'
    first
     |obtain⟨G,H,I,J,K,-⟩:=Ap P.2.1
      obtain⟨L,M,N,O,S,-⟩:=Ap P.2.2.1;obtain⟨W,f1,f2,aa,ab⟩:=Fg P.2.2.2;obtain⟨ac,ad,ae,af,ag,-⟩:=Ap P.2.2.2;go_wp2_with fail
      have h:=p.below P.1 NLN;have i:=q.below P.1 NLN
      first
       |with_reducible refine(Ve h f _).mono ?_
        rintro r d ⟨rfl,b⟩;generalize hv:VH _ x=c
       |with_reducible refine(NU h f).mono ?_
        rintro r d ⟨rfl,b⟩;generalize hv:SY x=c
       |with_reducible refine(FO h f jE 0 rfl).mono ?_
        rintro r d ⟨rfl,b⟩;generalize hv:isB jE x=c
       |with_reducible refine(FO h f jD 1 rfl).mono ?_
        rintro r d ⟨rfl,b⟩;generalize hv:isB jD x=c
       |with_reducible refine(EH x _ _ h f).mono ?_
        rintro r d ⟨rfl,b⟩;generalize hv:AK x=c
       |with_reducible refine(Ve i g _).mono ?_
        rintro r d ⟨rfl,b⟩;generalize hv:VH _ y=c
       |with_reducible refine(NU i g).mono ?_
        rintro r d ⟨rfl,b⟩;generalize hv:SY y=c
       |with_reducible refine(FO i g jE 0 rfl).mono ?_
        rintro r d ⟨rfl,b⟩;generalize hv:isB jE y=c
       |with_reducible refine(FO i g jD 1 rfl).mono ?_
        rintro r d ⟨rfl,b⟩;generalize hv:isB jD y=c
       |with_reducible refine(EH y _ _ i g).mono ?_
        rintro r d ⟨rfl,b⟩;generalize hv:AK y=c
       |with_reducible refine(Ry 1 _).mono ?_
        rintro r d ⟨rfl,b⟩;have E:True:=trivial
       |with_reducible refine(Ry 0 _).mono ?_
        rintro r d ⟨rfl,b⟩;have F:True:=trivial
       |have u:=Aa B
        simp[Da,Xk,Re,Xl,Rf,AeK,Xn,OR,MR,Aa m]at u;subst u
        first
         |with_reducible show bodyPost _ _ (PrB x y k l (Q y) w) _ _ _
          exact G2 (Cb results129 rfl rfl (P.cG l).2) rfl ⟨⟨l,jD,rfl,rfl,λz a=>by cases a;exact prY⟩,(P.cG l).1⟩
         |with_reducible show bodyPost _ _ (PrB x y k l (Q x) w) _ _ _
          exact G2 (Cb results129 rfl rfl (P.cG k).2) rfl ⟨⟨k,jD,rfl,rfl,λz a=>by cases a;exact prX⟩,(P.cG k).1⟩
         |with_reducible show bodyPost _ _ (PrB x y k l (Q<|.bool 0 jD) w) _ _ _
          exact G2 (Cb results129 rfl rfl (P.cG ⟨3,1,⟨#[]⟩,U,0,0,U,0,0⟩).2) rfl ⟨⟨⟨3,1,⟨#[]⟩,U,0,0,U,0,0⟩,jD,rfl,rfl,λz a=>by cases a;exact prT jD⟩,(P.cG ⟨3,1,⟨#[]⟩,U,0,0,U,0,0⟩).1⟩
         |with_reducible show bodyPost _ _ (PrB x y k l (Q<|.bool 0 jE) w) _ _ _
          exact G2 (Cb results129 rfl rfl (P.cG ⟨3,0,⟨#[]⟩,U,0,0,U,0,0⟩).2) rfl ⟨⟨⟨3,0,⟨#[]⟩,U,0,0,U,0,0⟩,jD,rfl,rfl,λz a=>by cases a;exact prT jE⟩,(P.cG ⟨3,0,⟨#[]⟩,U,0,0,U,0,0⟩).1⟩
         |with_reducible show bodyPost _ _ (PrB x y k l (Q<|.set 0 U 0 0 []) w) _ _ _
          exact G2 (Cb results129 rfl rfl (P.cG ⟨4,0,⟨#[]⟩,U,0,0,U,0,0⟩).2) rfl ⟨⟨⟨4,0,⟨#[]⟩,U,0,0,U,0,0⟩,jD,rfl,rfl,λz a=>by cases a;exact prE⟩,(P.cG ⟨4,0,⟨#[]⟩,U,0,0,U,0,0⟩).1⟩
         |have:=E;with_reducible show bodyPost _ _ (PrB x y k l (U) w) _ _ _
          exact G2 (Cb results129 rfl rfl (P.cG ⟨3,1,⟨#[]⟩,U,0,0,U,0,0⟩).2) rfl ⟨⟨⟨3,1,⟨#[]⟩,U,0,0,U,0,0⟩,jE,rfl,rfl,λz a=>by cases a⟩,(P.cG ⟨3,1,⟨#[]⟩,U,0,0,U,0,0⟩).1⟩
         |have:=F;with_reducible show bodyPost _ _ (PrB x y k l (U) w) _ _ _
          exact G2 (Cb results129 rfl rfl (P.cG ⟨3,0,⟨#[]⟩,U,0,0,U,0,0⟩).2) rfl ⟨⟨⟨3,0,⟨#[]⟩,U,0,0,U,0,0⟩,jE,rfl,rfl,λz a=>by cases a⟩,(P.cG ⟨3,0,⟨#[]⟩,U,0,0,U,0,0⟩).1⟩
         |with_reducible show bodyPost _ _ (PrB x y k l (U) w) _ _ _
          exact G2 (Cb results129 rfl rfl (P.cG ⟨0,0,⟨#[]⟩,U,0,0,U,0,0⟩).2) rfl ⟨⟨⟨0,0,⟨#[]⟩,U,0,0,U,0,0⟩,jE,rfl,rfl,λz a=>by cases a⟩,(P.cG ⟨0,0,⟨#[]⟩,U,0,0,U,0,0⟩).1⟩
      all_goals
       replace P:=P.next b;generalize d=j at P|-
       first
        |cases c
         all_goals
          first
           |exact H9 ((Aa n).1.symm.trans hv) Bool.false_ne_true
           |exact H9 ((Aa n).2.symm.trans hv) Bool.false_ne_true
           |replace m:=Ab<|K6 hv<|Aa m
        |skip
     |fail
theorem Ajg (op:Int)(n:Int)(d:(op=12/\n=0)\/(op=14/\n=1))(p:Tq w x k)(f:Tq w y l)(q:Bp x=jD)(g:Bp y=jD):Calls jZ 129 #[V X op,jM #[V X k.op,V X k.num,jC k.text,Y k.an k.nn k.cn,Y k.ka k.kn k.kc],jM #[V X l.op,V X l.num,jC l.text,Y l.an l.nn l.cn,Y l.ka l.kn l.kc]] w<|PrB x y k l (Da op x y) w:=by
 obtain⟨a,i⟩:∃a,a=jK (jK (jK w (CX k)) (CX l)) Gg:=⟨_,rfl⟩
 have P:=RB i;have s:=Ab i;have j:=Ab (show Da op x y=if VH n y then Q x else U by obtain⟨rfl,rfl⟩|⟨rfl,rfl⟩:=d<;>rfl);have m:=Ab λ(t:jB) (b1:Ai w t)=>Ve (f.below b1 NLN) g n;generalize VH n y=b at j m;obtain⟨rfl,rfl⟩|⟨rfl,rfl⟩:=d
 all_goals
  go_enter func129,ntmps129
  go_wp2_with fail
  rw[<-Aa s];refine(Rx (p.below P.1 NLN) (f.below P.1 NLN) q g).mono ?_;rintro r u ⟨rfl,A⟩;replace P:=P.next A;generalize u=a at P|-;generalize sameL x y=ac;obtain⟨B,C,D,E,F,-⟩:=Ap P.2.1;obtain⟨ad,ae,af,ag,ah,-⟩:=Ap P.2.2.1;obtain⟨G,f1,f2,H,I⟩:=Fg P.2.2.2;obtain⟨J,K,L,M,N,-⟩:=Ap P.2.2.2;have O:(Tryz.f146.name== "runtime.NumGoroutine")=jE:=Oy
  have S: Tryz.f146.body.isNone=jE:=Oy;have W:=Ab<|(Aa m _ P.1.drew).mono (R':=λe w'=>∃v,e= .returned v/\(v= .bool b/\Ai a w')) λr w' h=>⟨_,h.1,rfl,⟨h.2.os,h.2.tape,h.2.output,h.2.size,h.2.block⟩⟩;go_wp2_with fail
  go_region_law (refine Bk rfl 146 _ func146 O S _ _ _ rfl (jM #[V X l.op,V X l.num,jC l.text,Y l.an l.nn l.cn,Y l.ka l.kn l.kc]) _ rfl rfl _ (Aa W) ?_;rintro ai aj ⟨rfl,aa⟩;have c:=P.next aa;obtain⟨B,C,D,E,F,-⟩:=Ap c.2.1;obtain⟨G,f1,f2,H,I⟩:=Fg c.2.2.2;obtain⟨J,K,L,M,N,-⟩:=Ap c.2.2.2)
  all_goals
   have o:=Ab<|c.cG k;go_wp2
   exact bodyPost_ret (Cb results129 rfl rfl (Aa o).2) rfl (by rw[Aa j];exact⟨⟨k,b,rfl,by cases b<;>rfl,λz ab=>by cases b<;>cases ab;exact prX⟩,(Aa o).1⟩)
theorem AhB (op:Int)(aa:op=23)(K:Tq w x k)(L:Tq w y l)(M:Bp x=jD)(N:Bp y=jD):Calls jZ 129 #[V X op,jM #[V X k.op,V X k.num,jC k.text,Y k.an k.nn k.cn,Y k.ka k.kn k.kc],jM #[V X l.op,V X l.num,jC l.text,Y l.an l.nn l.cn,Y l.ka l.kn l.kc]] w<|PrB x y k l (Da op x y) w:=by
 obtain⟨c,O⟩:∃c,c=jK (jK (jK w (CX k)) (CX l)) Gg:=⟨_,rfl⟩
 have P:=RB O;subst aa;go_enter func129,ntmps129
 go_wp2_with fail
 rw[<-Aa<|Ab O];refine(Rx (K.below P.1 NLN) (L.below P.1 NLN) M N).mono ?_;rintro r ab ⟨rfl,ac⟩;replace P:=P.next ac;generalize ab=c at P|-;generalize sameL x y=aA;obtain⟨i,j,m,n,o,-⟩:=Ap P.2.1;obtain⟨p,q,s,t,u,-⟩:=Ap P.2.2.1;obtain⟨v,f1,f2,A,B⟩:=Fg P.2.2.2;obtain⟨C,D,E,F,G,-⟩:=Ap P.2.2.2;have S:=Ab (λ(H:jB) (b1:Ai w H)=>NU (L.below b1 NLN) N);have W:=Ab λ(H:jB) (b1:Ai w H)=>EH x _ _ (K.below b1 NLN) M;have g:=Ab (show Da 23 x y=if SY y&&AK x then Q (.bool 0 jE)else U from rfl);generalize SY y=ad at S g;generalize AK x=I at W g;have ae:=P.next (SH c).drew;go_wp2_with fail
 cases ad
 all_goals
  have af:(Tryz.f147.name== "runtime.NumGoroutine")=jE:=Oy;have ag: Tryz.f147.body.isNone=jE:=Oy;have ah:(Tryz.f145.name== "runtime.NumGoroutine")=jE:=Oy;have ai: Tryz.f145.body.isNone=jE:=Oy;have aj:(Tryz.f59.name== "runtime.NumGoroutine")=jE:=Oy;have ak: Tryz.f59.body.isNone=jE:=Oy;have al:=Ab<|GH (Ry 0<|World.drew c) λe w' h=>⟨_,h.1⟩;go_region_law (first
   |(refine LQ rfl 147 _ func147 af ag _ _ rfl (V X 0) rfl _ (Aa al) ?_;rintro aB ao ⟨ap,aq⟩;obtain rfl:=Bi ap;have b:=ae.next aq;obtain⟨i,j,m,n,o,-⟩:=Ap b.2.1;obtain⟨p,q,s,t,u,-⟩:=Ap b.2.2.1;obtain⟨v,f1,f2,A,B⟩:=Fg b.2.2.2;obtain⟨C,D,E,F,G,-⟩:=Ap b.2.2.2;have ar:=Ab<|GH (Aa S ao b.1) λe w' h=>⟨_,h.1⟩)
   |(refine LQ rfl 145 _ func145 ah ai _ _ rfl (jM #[V X l.op,V X l.num,jC l.text,Y l.an l.nn l.cn,Y l.ka l.kn l.kc]) rfl _ (Aa ar) ?_;rintro aC au ⟨av,aw⟩;obtain rfl:=Bi av;have a:=b.next aw;obtain⟨i,j,m,n,o,-⟩:=Ap a.2.1;obtain⟨p,q,s,t,u,-⟩:=Ap a.2.2.1;obtain⟨v,f1,f2,A,B⟩:=Fg a.2.2.2;obtain⟨C,D,E,F,G,-⟩:=Ap a.2.2.2;have ax:=Ab<|GH (Aa W au a.1) λe w' h=>⟨_,h.1⟩)
   |(refine Xy (by simp[Region.wanted,yielded]) 59 _ func59 aj ak _ _ rfl (jM #[V X k.op,V X k.num,jC k.text,Y k.an k.nn k.cn,Y k.ka k.kn k.kc]) rfl _ (Aa ax) ?_;rintro aD aE ⟨ay,az⟩;obtain rfl:=Bi ay;have d:=a.next az;obtain⟨i,j,m,n,o,-⟩:=Ap d.2.1;obtain⟨p,q,s,t,u,-⟩:=Ap d.2.2.1;obtain⟨v,f1,f2,A,B⟩:=Fg d.2.2.2;obtain⟨C,D,E,F,G,-⟩:=Ap d.2.2.2)
   |fail)
  all_goals
   first
    |have f:=Ab (d.cG ⟨3,0,⟨#[]⟩,U,0,0,U,0,0⟩)
     go_wp2
     exact bodyPost_ret (Cb results129 rfl rfl (Aa f).2) rfl (by rw[Aa g];exact⟨⟨⟨3,0,⟨#[]⟩,U,0,0,U,0,0⟩,I,rfl,by cases I<;>rfl,λz J=>by cases I<;>cases J;exact prT jE⟩,(Aa f).1⟩)
    |have f:=Ab (a.cG ⟨3,0,⟨#[]⟩,U,0,0,U,0,0⟩)
     go_wp2
     exact bodyPost_ret (Cb results129 rfl rfl (Aa f).2) rfl (by rw[Aa g];exact⟨⟨⟨3,0,⟨#[]⟩,U,0,0,U,0,0⟩,jE,rfl,rfl,λz J=>by cases J⟩,(Aa f).1⟩)
theorem Ajh (op:Int)(g: 11<=op/\op<=26)(a:Tq w x k)(b:Tq w y l)(c:Bp x=jD)(d:Bp y=jD):Calls jZ 129 #[V X op,jM #[V X k.op,V X k.num,jC k.text,Y k.an k.nn k.cn,Y k.ka k.kn k.kc],jM #[V X l.op,V X l.num,jC l.text,Y l.an l.nn l.cn,Y l.ka l.kn l.kc]] w<|PrB x y k l (Da op x y) w:=by
 by_cases f:op=12\/op=14
 .obtain h|h:=f
  all_goals simp_all[Ajg]
 .by_cases i:op=23
  .simp_all[AhB]
  .exact Ajf op Oa a b c d
end Go.Proofs.YtnjpihpohilnjaaGreatDoor
