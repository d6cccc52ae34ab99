import Derived.Test.YtnjpihpohilnjaaGreatDoorMXAA
open List renaming length->T
open Option renaming none->U,some->Q,some->jg
open Array renaming size->R
open Go renaming World->jB,Value->jF,Addr->jG,TypeId->jV
open Bool renaming true->jD,false->jE
open ByteArray renaming empty->jW
namespace Go.Proofs.YtnjpihpohilnjaaGreatDoor
open Proofs.Tryz
open Value renaming int->V,int->jc,slice->Y,string->jC,ownBlock->jL,agg->jM,pointer->jP,tuple->jQ
open IntKind renaming i64->X
open World renaming heap->Z,cell?->jI,setCell->jJ,alloc->jK,ownsRow->jO
open Addr renaming mk->jA,block->jT
open Obj renaming cells->jH
open Ending renaming returned->jN
open Proofs.Tryz renaming prog->jZ
open Go.RowKit
set_option linter.unusedVariables false
set_option maxRecDepth 100000
set_option maxHeartbeats 6400000
variable{ops:Array Oper}{s:K9}{x y:Ex}{t p:Int}{k:K5}{bs:List Bool}{ns:L4}{ts tt ys:L2}{rest:List Oper}{u:L7}{B b g cap d:Nat}{o:Oper}{ka:L3}{v lv j l:jF}{w w':jB}
theorem EB {b:Act}{Q:Exit->Act->jB->Prop}(g:o.guard=U)(s x:Operand)(j:o.op= .call { callee:= .builtin .append,args:=#[s,x],argTypes:=#[30,30] })(base:Nat)(v:jF)(k:Nat)(d:L7)(hs:b.eval s=v)(f:jO w base 9 1 v k d)(a:L3)(n c:Nat)(ss:L4)(hx:b.eval x=Y a n c)(h:Aq w a n c ss)(hc:a=U->c=0)(B:k+n<=1048576)(l:base<=R (Z w))
  (m:∀v' w',jO w' base 9 1 v' (k+n) (d++ss.map Value.string)->Below base w w'->wpList jZ ops Q rest (b.put o.dst v') w'):wpList jZ ops Q (o ::rest) b w:=by
 obtain⟨i,hi,p,r,t⟩:=info_parts GB;cases a with
 |none=>
   have h0:n=0:=by
    obtain q|q:=Nat.eq_zero_or_pos n
    all_goals grind [Aq.cells]
   obtain rfl:=hc rfl;subst h0;obtain rfl:ss=[]:=zd h.len.symm;exact wpList_append_own_none g s x 30 j base 9 i 1 underlying30 hi v k d hs f hx<|m v w (by simpa using f) BRN
 |some y=>
   refine G7 w g s x 30 j base 9 i (jC jW) 1 16 underlying30 hi p r t rfl Ob v k d hs f y n c (ss.map Value.string) hx ?_ (Aq.bX h) ?_ ?_ ?_ l ?_
   .grind [Aq.len]
   .intro u hu;obtain⟨s,_,rfl⟩:=zc.1 hu;rfl
   .unfold maxLen;omega
   .omega
   .intro v' w' z A _;exact m v' w' z<|BRN.grown A l λq hq=>(f.lt q hq).1
theorem AY {P:Program}{a:Act}{Q:Exit->Act->jB->Prop}(b:o.guard=U)(s x:Operand)(t:jV)
  (d:o.op= .call { callee:= .builtin .append,args:=#[s,x],argTypes:=#[t,t] })
  (base:Nat)(e:jV)(i:TypeInfo)(size c:Nat)(ht:P.underlying t=jg (.slice e))(hi:P.info? e=jg i)
  (v:jF)(n:Nat)(f:L7)(hs:a.eval s=v)(j:jO w base e size v n f)(hx:a.eval x=Y U 0 c)
  (h:wpList P ops Q rest (a.put o.dst v) w):wpList P ops Q (o ::rest) a w:=by
 refine wpList_plain b λK k=>?_;have l:(Builtin.append_ #[t,t] o.type #[v,Y U 0 c]).run P w= .ok v w:=by
  obtain⟨rfl,rfl⟩|⟨g,cap,p,rfl,_,_,m,_⟩:=j.2
  .simp[Builtin.append_,run_underlying ht,sizeOf,typeInfo,hi,Builtin.lenOf,Builtin.firstCells]
  .simp[Builtin.append_,run_underlying ht,sizeOf,typeInfo,hi,Builtin.lenOf,Builtin.firstCells,m,storeCells]
 unfold Oper.wp;simp[execOp,d,resolve,invoke,builtin,hs,hx,l,Result.andThen];exact k _ _ h
theorem Le {b:Act}{Q:Exit->Act->jB->Prop}(g:o.guard=U)(s x:Operand)(j:o.op= .call { callee:= .builtin .append,args:=#[s,x],argTypes:=#[30,30] })(base:Nat)(v:jF)(k:Nat)(d:L7)(hs:b.eval s=v)(f:jO w base 9 1 v k d)(a:L3)(n c:Nat)(ss:L4)(hx:b.eval x=Y a n c)(h:Aq w a n c ss)(B:k+n<=1048576)(l:base<=R (Z w))
  (m:∀v' w',jO w' base 9 1 v' (k+n) (d++ss.map Value.string)->Below base w w'->wpList jZ ops Q rest (b.put o.dst v') w'):wpList jZ ops Q (o ::rest) b w:=by
 obtain⟨i,hi,p,r,t⟩:=info_parts GB;cases a with
 |none=>
   have h0:n=0:=by
    obtain q|q:=Nat.eq_zero_or_pos n
    all_goals grind [Aq.cells]
   subst h0;obtain rfl:ss=[]:=zd h.len.symm;exact AY g s x 30 j base 9 i 1 c underlying30 hi v k d hs f hx<|m v w (by simpa using f) BRN
 |some y=>
   refine G7 w g s x 30 j base 9 i (jC jW) 1 16 underlying30 hi p r t rfl Ob v k d hs f y n c (ss.map Value.string) hx ?_ (Aq.bX h) ?_ ?_ ?_ l ?_
   .grind [Aq.len]
   .intro u hu;obtain⟨s,_,rfl⟩:=zc.1 hu;rfl
   .unfold maxLen;omega
   .omega
   .intro v' w' z A _;exact m v' w' z<|BRN.grown A l λq hq=>(f.lt q hq).1
theorem Zb (b a j:Nat):((jA b a U):jG).add j=⟨b,a+j,U⟩:=Qx
theorem Gc {b:Act}{Q:Exit->Act->jB->Prop}(g:o.guard=U)(s x:Operand)(j:o.op= .call { callee:= .builtin .append,args:=#[s,x],argTypes:=#[44,44] })(base:Nat)(v:jF)(k:Nat)(d:L7)(hs:b.eval s=v)(f:jO w base 3 1 v k d)(a:L3)(n c:Nat)(ss:L2)(hx:b.eval x=Y a n c)(h:AP w a n c ss)(A:k+n<=1048576)(m:base<=R (Z w))
  (p:∀v' w',jO w' base 3 1 v' (k+n) (d++Ak ss)->Below base w w'->wpList jZ ops Q rest (b.put o.dst v') w'):wpList jZ ops Q (o ::rest) b w:=by
 obtain⟨i,hi,r,t,y⟩:=info_parts If;have l:=h.len;cases a with
 |none=>
   have h0:n=0:=by
    obtain q|q:=Nat.eq_zero_or_pos n
    all_goals grind [AP.cells]
   subst h0;obtain rfl:ss=[]:=zd l;exact AY g s x 44 j base 3 i 1 c underlying44 hi v k d hs f hx<|p v w (by simpa[Ak]using f) BRN
 |some z=>
   refine G7 w g s x 44 j base 3 i (V X 0) 1 8 underlying44 hi r t y rfl Ob v k d hs f z n c (Ak ss) hx ?_ ?_ ?_ ?_ ?_ m ?_
   .simp[Ak,l]
   .grind [AP.cells,Ak,Zb]
   .intro u hu;obtain⟨s,_,rfl⟩:=zc.1 hu;rfl
   .unfold maxLen;omega
   all_goals grind [AP.len,AP.cells,Ak,AY,If,Zb,Go.RowKit.Below.refl,Go.World.ownsRow.lt,Go.RowKit.Below.grown]
theorem WJ:(jZ.info? 113).map (λi=>(i.zero,i.size,i.bytes))=Q (Q<|jM #[V X 0,jC jW,V X 0,V X 0],4,40):=Oy
theorem LM {b:Act}{Q:Exit->Act->jB->Prop}(g:o.guard=U)(s x:Operand)(l:o.op= .call { callee:= .builtin .append,args:=#[s,x],argTypes:=#[68,68] })(base:Nat)(v:jF)(k:Nat)(d:L7)(hs:b.eval s=v)(f:jO w base 113 4 v k d)(a:L3)(n c:Nat)(L:L9)(hx:b.eval x=Y a n c)(h:Po w a n c L)(D:k+n<=65536)(m:base<=R (Z w))
  (p:∀v' w',jO w' base 113 4 v' (k+n) (d++EC L)->Below base w w'->wpList jZ ops Q rest (b.put o.dst v') w'):wpList jZ ops Q (o ::rest) b w:=by
 obtain⟨i,hi,t,y,z⟩:=info_parts WJ;have r:=h.len;cases a with
 |none=>
   have h0:n=0:=by
    obtain q|q:=Nat.eq_zero_or_pos n
    all_goals grind [Po.cells]
   subst h0;obtain rfl:L=[]:=zd r;exact AY g s x 68 l base 113 i 4 c underlying68 hi v k d hs f hx<|p v w (by simpa[EC]using f) BRN
 |some A=>
   refine G7 w g s x 68 l base 113 i (jM #[V X 0,jC jW,V X 0,V X 0]) 4 40 underlying68 hi t y z rfl Ob v k d hs f A n c (EC L) hx ?_ ?_ ?_ ?_ ?_ m ?_
   .rw[WK,r]
   .intro j u hu;have E:j<T L*4:=by grind [WK]
    have hq:j / 4<T L:=Oa;have e:j=(j / 4)*4+j % 4:=Oa
    grind [UU,Po.cells,Zb]
   .intro u hu;obtain⟨s,_,hu⟩:=List.mem_flatMap.1 hu;simp at hu;obtain rfl|rfl|rfl|rfl:=hu<;>rfl
   .unfold maxLen;omega
   .omega
   .intro v' w' B C _;exact p v' w' B<|BRN.grown C m λq hq=>(f.lt q hq).1
theorem Ad8 (op a:Int)(h: 8<=op/\op<=10):Eo op [a]=By op [a]:=by
 have:op=8\/op=9\/op=10:=Oa;obtain rfl|rfl|rfl:=this
 all_goals grind [By,JM,Ds,Eo]
theorem AbY (op a b:Int)(h: 11<=op/\op<=26)(c:a≠0):Eo op [a,b]=By op [a,b]:=by
 have:op=11\/op=12\/op=13\/op=14\/op=15\/op=16\/op=17\/op=18\/op=19\/op=20\/op=21\/op=22\/op=23\/op=24\/op=25\/op=26:=Oa;obtain rfl|rfl|rfl|rfl|rfl|rfl|rfl|rfl|rfl|rfl|rfl|rfl|rfl|rfl|rfl|rfl:=this
 all_goals grind [By,JM,Ds,Eo]
theorem AbZ (a b c:Int)(d:b≠0):Eo 27 [a,b,c]=By 27 [a,b,c]:=by grind [By,JM,Ds,Eo]
def Jq (x:Nd):Bool:=
 if x.op=5 then jE
 else if x.op=6 then decide (0<=x.num/\x.num<6)&&decide (x.text.size=0)&&decide (T x.aB=0)
 else if x.op=7\/x.op=1 then decide (x.text.size=0)&&decide (T x.aB=0)
 else VG x
def Bf (x:Nd):Bool:=decide ((T x.aD:Int)=BY x.op)&&Jq x
def Cp (x:Nd):Bool:=
 decide ((T x.aD:Int)=BY x.op)&&
 (if x.op=1 then decide (x.text.size=0)&&decide (T x.aB=0)
   else if x.op=2 then Co x.text&&decide (x.num=0)&&decide (T x.aB=0)
   else if x.op=3 then decide (x.num=0\/x.num=1)&&decide (x.text.size=0)&&decide (T x.aB=0)
   else if x.op=4 then Ay x.aB&&decide (x.num=0)&&decide (x.text.size=0)
   else if x.op=5 then jE
   else if x.op=6 then decide (0<=x.num/\x.num<=5)&&decide (x.text.size=0)&&decide (T x.aB=0)
   else if x.op=7 then decide (0<=x.num/\x.num<600)&&decide (x.text.size=0)&&decide (T x.aB=0)
   else decide (x.num=0)&&decide (x.text.size=0)&&decide (T x.aB=0))
theorem Kg (x:Nd):Cp x=jD↔Bf x=jD/\(x.op=7->0<=x.num/\x.num<600):=by
 unfold Cp Bf Jq VG
 grind
structure Dc where
 name:K9
 isLet:Bool
 num:Int
 cS:Int
abbrev M8:=List Dc
def J8 (K:M8) (s:K9):L0 Dc:=K.find? λd=>d.name=s
abbrev Rs:=Except (Int×Int) Int
def ofO (f:Int×Int):N7->Rs
 |some t=> .ok t
 |none=> .error f
def gX:Rs->Int
 |.ok t=>t
 |.error _=>0
def ltT (K:M8) (n:Int):N7:=if 0<=n then ((K.drop 6)[n.toNat]?).map Dc.cS else U
def Bz (K:M8):Ex->Rs
 |.int .. => .ok 2
 |.text .. => .ok 3
 |.bool .. => .ok 1
 |.set .. => .ok 4
 |.name i s=>ofO (7,i)<|(J8 K s).map Dc.cS
 |.attr _ n=> .ok (BI n)
 |.lett i n=>ofO (7,i)<|ltT K n
 |.un i op k=>(Bz K k).bind λa=>ofO (9,i)<|nz<|By op [a]
 |.bin i op l r=>(Bz K l).bind λa=>(Bz K r).bind λb=>ofO (9,i)<|nz<|By op [a,b]
 |.ite i c t e=>(Bz K c).bind λa=>(Bz K t).bind λb=>(Bz K e).bind λd=>ofO (9,i)<|nz<|By 27 [a,b,d]
def DE (K:M8):Ex->L2
 |.un i op k=>DE K k++[gX<|Bz K<|.un i op k]
 |.bin i op l r=>DE K l++DE K r++[gX<|Bz K<|.bin i op l r]
 |.ite i c t e=>DE K c++DE K t++DE K e++[gX<|Bz K<|.ite i c t e]
 |e=> [gX<|Bz K e]
theorem Ms (K:M8):∀(e:Ex),T (DE K e)=e.aL:=by intro e;induction e<;>intros<;>grind [Ex.aL,DE]
def inX (o:Rs):Prop:=∀a,o= .ok a->1<=a/\a<=4
theorem AgT {K:M8}{d:Dc}(h:J8 K s=Q d):d∈K/\d.name=s:=by
 have a:=List.mem_of_find?_eq_some h;have b:=List.find?_some h
 grind
theorem Qu {f:Int×Int}{o:N7}(h:∀a,o=Q a->1<=a/\a<=4):inX<|ofO f o:=λa e=>by
 cases o with
 |none=>cases e
 |some t=>cases e;exact h _ rfl
set_option maxHeartbeats 3200000
abbrev Rc:=Except Int Int
abbrev N9:=List Rc
def Ib:N9->Except Int L2
 |[]=> .ok []
 |.error c ::_=> .error c
 |.ok t ::r=>(Ib r).map (t :: ·)
theorem TB {r:N9}{K:L2}(h:Ib (.ok t ::r)= .ok K):∃a,Ib r= .ok a/\K=t ::a:=by
 rw[Ib]at h;cases b:Ib r with
 |error c=>rw[b]at h;cases h
 |ok a=>rw[b]at h;cases h;exact⟨a,rfl,rfl⟩
theorem Qz:∀{os:N9} {K:L2},Ib os= .ok K->T K=T os
 |[],K,h=>by cases h;rfl
 |.error c ::_,K,h=>Qy
 |.ok t ::r,K,h=>by
  obtain⟨b,a,rfl⟩:=TB h;rw[List.length_cons,List.length_cons,Qz a]
theorem TC (o:Rc):∀(os:N9) (K:L2),Ib os= .ok K->Ib (os++[o])=o.map (λt=>K++[t])
 |[],K,h=>by cases h;cases o<;>rfl
 |.error c ::_,K,h=>Qy
 |.ok t ::r,K,h=>by
  obtain⟨a,b,rfl⟩:=TB h;rw[List.cons_append,Ib,TC o r a b];cases o<;>rfl
theorem QA:∀(os:N9) (k:Nat) {c:Int},Ib (os.take k)= .error c->Ib os= .error c
 |[],k,c,h=>Q6
 |.error d ::_,0,c,h=>Qy
 |.error d ::_,k+1,c,h=>by grind [Ib]
 |.ok t ::r,0,c,h=>Qy
 |.ok t ::r,k+1,c,h=>by
  rw[List.take_succ_cons,Ib]at h;cases a:Ib (r.take k)with
  |ok K=>rw[a]at h;cases h
  |error d=>
    rw[a]at h;cases h;rw[Ib,QA r k a];rfl
def NdC (o:Rc) (w:jB) (r:Ending) (w':jB):Prop:=(∃ty code,r=jN (jQ #[V X ty,V X code])/\((code=0/\o= .ok ty)\/(code≠0/\o= .error code)))/\Ai w w'
def ofC (c:Int):N7->Rc
 |some t=> .ok t
 |none=> .error c
def ND (op:Int) (os:N9):Rc:=match Ib os with
 |.error c=> .error c
 |.ok K=>ofC 9<|nz<|Eo op K
theorem Mu (a:L3)(n c:Nat)(N:L6)(P:Nat)(w:jB)(S:IN w a n c N)(i:Nat)(x:Nd)(hx:N[i]? =Q x)(k:Iy x.op)(W:T (Ds x.op).1<=T x.aD)(os:N9)(aa:T os=T x.aD)
  (V:∀j,(h:j<T x.aD)->(aQ:j<T os)->∀F,Ai w F->Calls jZ 130 #[Y a n c,jc X x.aD[j],jP<|Q<|jA P 0 U] F (NdC os[j] F)):
  Calls jZ 130 #[Y a n c,jc X i,jP<|Q<|jA P 0 U] w (NdC (ND x.op os) w):=by
 obtain⟨ap,aq,ar,au,av⟩:=info_parts If;have aw:=S.len;have hi:i<T N:=(zP.1 hx).1;have ab:N[i]=x:=(zP.1 hx).2;have aR:(i:Int)<(n:Int):=Oa;obtain⟨b,aS,rfl,aT,an,nn,cn,p,d,s,c0,c1,c2,c3,c4,ax,z⟩:=S.cells i hi;rw[ab]at c0 c1 c2 z;have ac:=Ab z.len;have aU:=z.aJ;have G:=Ab aa;have ay:=Ab V;have az:=Ab W;have aA:=Ab λK h=>(show ND x.op os=ofC 9 (nz<|Eo x.op K) by rw[ND,(show Ib os= .ok K from h)]);have aB:=Ab (show ∀c,Ib os= .error c->ND x.op os= .error c from λc h=>by rw[ND,h]);have aV:(x.op==5)=jE:=zA.2 (by unfold Iy at k;omega);have aW:(x.op==6)=jE:=zA.2 (by unfold Iy at k;omega);have aX:(x.op==7)=jE:=zA.2 (by unfold Iy at k;omega);have aC:=Ab k;clear ax;clear aw hx ab hi W aa V k;have ad:=Ag.new w #[jc X x.op,jc X x.num,jC x.text,Y an nn cn,Y p d s] 170;have f:=AE w<|EQ x.op x.num x.text an nn cn p d s;have ae:R (Z w)<R (Z<|jK w<|EQ x.op x.num x.text an nn cn p d s):=Ox;go_enter func130,ntmps130
 go_wp2_with fail
 generalize jK w (EQ x.op x.num x.text an nn cn p d s)=H at ad f ae|-;go_loopw [11,71] (λv i wr=>∃ (j:Nat) (K:L2),j<=d/\i=jc X j/\jO wr (R<|Z H) 3 1 v (T K) (Ak K)/\Hid (Ib (os.take j)= .ok K)/\Ai H wr) (λ_ i _=>d-(intOf i).toNat)
 case atStart=>exact⟨0,[],Oa,rfl,H3,Ab rfl,BRN⟩
 case round=>
  obtain⟨j,K,aY,rfl,A,I,l⟩:=hrel;have af:=f.trans<|l.mono f.size;have ag:=l.size;have aZ:T K<=d:=by have:=Qz<|Aa I;rw[zg]at this;omega
  by_cases J:j<d
  .have a0:(j:Int)<(d:Int):=Oa;have B:j<T x.aD:=by rw[Aa ac];exact J
   have L:j<T os:=by rw[Aa G];exact B
   obtain⟨a1,ok,rfl,a2,aE⟩:=(z.below af NLN).cells j B;have m:=Ab<|Aa ay j B L _ af;have o:=Ab (show Ib (os.take<|j+1)=os[j].map (λt=>K++[t]) by rw[zT L];exact TC _ _ _<|Aa I);have C:=Ab (show ∀c,os[j]= .error c->ND x.op os= .error c from λc e=>Aa aB c<|QA os (j+1)<|by rw[Aa o,e];rfl);have ah:=Ab J;generalize x.aD[j]=y at aE m;generalize os[j]=a3 at m o C;obtain⟨aF,aG,rfl,_⟩:=Ae A;clear B L J;go_wp2_with fail
   refine(Aa m).mono ?_;rintro r w2 ⟨⟨ty,M,rfl,aH⟩,ai⟩;have D:=l.trans<|ai.mono ag;have aj:=Aj A ai NLN;obtain⟨rfl,rfl⟩|⟨hc,rfl⟩:=aH
   .have aI:=Ab<|show Ib (os.take<|j+1)= .ok (K++[ty])from Aa o;have a4:=D.size;clear o C m;go_wp2_with (at_builtin;refine G7 _ rfl _ _ 44 rfl (R<|Z H) 3 ap (jc X 0) 1 8 underlying44 aq ar au av rfl Ob _ _ _ rfl (G1 aj _) ⟨R<|Z w2,0,U⟩ 1 1 [jc X ty] rfl rfl ?d1 ?d2 ?d3 ?d4 ?d5 ?_)
    case d1=>exact DP _ _ _ _ Ox
    case d2=>intro u hu;simp at hu;subst hu;rfl
    case d3=>unfold maxLen;omega
    case d4=>omega
    case d5=>simp;omega
    intro v' a5 aK ak _;have aL:=(D.alloc D.size<|jH #[jc X ty] 3).grown ak O0 λq hq=>(aj.lt q hq).1;clear ak;go_wp2
    go_roundw
    case rel=>exact⟨j+1,K++[ty],Aa ah,O1,Fp aK,aI,aL⟩
    case measure=>have:=Aa ah;simp[intOf];omega
   .have ec:(M !=0)=jD:=zV.2 hc;have g:=Ab<|Aa C M rfl;have aM:=Ab hc;clear hc o C m;go_wp2
    exact G2 (v:= jQ #[jc X 0,jc X M]) P3 rfl ⟨⟨_,_,rfl,.inr ⟨Aa aM,Aa g⟩⟩,f.trans<|D.mono f.size⟩
  .have e:j=d:=Oa;subst e;have al:=Ab (show Ib os= .ok K by rw[<-Aa I,zf<|by rw[Aa G,Aa ac];exact NLN]);have g:=Ab<|Aa aA K<|Aa al;have aN:=Qz<|Aa al;have aO:=Ab (show T (Ds x.op).1<=T K by have:=Aa az;have:=Aa G;omega);obtain⟨aF,aG,rfl,_⟩:=Ae A;have a6:jI wr ⟨R<|Z w,0,U⟩=Q (jc X x.op):=(ad.below l ae).cell 0;clear aN;go_wp2_with fail
   refine(Y6 x.op (Aa aC) _ _ _ K _ (Cd A Oa)<|Aa aO).mono ?_;rintro r a7 ⟨rfl,aP⟩;have ao:=l.trans<|aP.mono ag;by_cases ht:Eo x.op K=0
   .have O:(Eo x.op K==0)=jD:=zD.2 ht;have E:=Ab (show ND x.op os= .error 9 by rw[Aa g,nz,H8 ht];rfl);clear ht g;generalize Eo x.op K=tt at O;go_wp2
    exact G2 (v:= jQ #[jc X 0,jc X 9]) P3 rfl ⟨⟨_,_,rfl,.inr ⟨Ob,Aa E⟩⟩,f.trans<|ao.mono f.size⟩
   .have O:(Eo x.op K==0)=jE:=zA.2 ht;have E:=Ab (show ND x.op os= .ok (Eo x.op K) by rw[Aa g,nz,H7 ht];rfl);clear ht g;generalize Eo x.op K=tt at O E;go_wp2
    exact G2 (v:= jQ #[jc X tt,jc X 0]) P3 rfl ⟨⟨_,_,rfl,.inl ⟨rfl,Aa E⟩⟩,f.trans<|ao.mono f.size⟩
set_option maxHeartbeats 1600000
theorem WB (a:L3)(n c:Nat)(N:L6)(g:Nat)(w:jB)(d:IN w a n c N)(i:Nat)(x:Nd)(hx:N[i]? =Q x)(h:x.op=6):
  Calls jZ 130 #[Y a n c,V X i,jP<|Q<|jA g 0 U] w (NdC (.ok<|BI x.num) w):=by
 have q:=d.len;have hi:i<T N:=(zP.1 hx).1;have j:N[i]=x:=(zP.1 hx).2;have s:(i:Int)<(n:Int):=Oa;obtain⟨b,t,rfl,u,an,nn,cn,k,l,m,c0,c1,c2,c3,c4,y,o⟩:=d.cells i hi;rw[j]at c0 c1 c2 o;rw[h]at c0;have p:=AE w<|EQ 6 x.num x.text an nn cn k l m;generalize x.num=f at*;generalize x.text=z at*;go_enter func130,ntmps130
 go_wp2_with fail
 refine(EU f _).mono ?_;rintro r w2 ⟨rfl,rfl⟩;go_wp2
 exact G2 (v:= jQ #[V X<|BI f,V X 0]) P3 rfl ⟨⟨_,_,rfl,.inl ⟨rfl,rfl⟩⟩,p⟩
theorem WC (a:L3)(n c:Nat)(N:L6)(g:Nat)(w:jB)(j:IN w a n c N)(i:Nat)(x:Nd)(hx:N[i]? =Q x)(r:x.op=7)(h0: 0<=x.num)(k:L3)(f l:Nat)(ts:L2)
  (s:jI w (jA g 1 U)=Q (Y k f l))(u:g<R (Z w))(m:AP w k f l ts):
  Calls jZ 130 #[Y a n c,V X i,jP<|Q<|jA g 0 U] w (NdC (ofC 7 ts[x.num.toNat]?) w):=by
 have I:=j.len;have hi:i<T N:=(zP.1 hx).1;have y:N[i]=x:=(zP.1 hx).2;have J:(i:Int)<(n:Int):=Oa;obtain⟨b,K,rfl,L,an,nn,cn,z,A,B,c0,c1,c2,c3,c4,M,C⟩:=j.cells i hi;rw[y]at c0 c1 c2 C;rw[r]at c0;have O:=m.len;generalize x.text=D at*;obtain⟨d,E⟩:∃d:Nat,x.num=d:=⟨x.num.toNat,Oa⟩
 rw[E]at c1|-;rw[zS];have h:=AE w<|EQ 7 d D an nn cn z A B;have q1:=(h.cell (p:=(jA g 1 U)) u).trans s;have F:=m.below h NLN;by_cases P:f<=d
 .have G:(f:Int)<=(d:Int):=Oa;go_enter func130,ntmps130
  go_wp2_with fail
  go_region
  all_goals
   go_wp2
   exact G2 (v:= jQ #[V X 0,V X 7]) P3 rfl ⟨⟨_,_,rfl,.inr ⟨Ob,Aa<|Ab<|show ofC 7 ts[d]? = .error 7 by rw[Z8 Oa];rfl⟩⟩,h.drew⟩
 .have G: ¬ ((f:Int)<=(d:Int)):=Oa;have S:(d:Int)<(f:Int):=Oa;have o:d<T ts:=Oa;obtain⟨W,aa,rfl,ab,H⟩:=F.cells d o;have q:=Ab (show ofC 7 ts[d]? = .ok ts[d] by rw[zM o];rfl);generalize ts[d]=t at H q;go_enter func130,ntmps130
  go_wp2_with fail
  go_region
  all_goals
   go_wp2_with fail
   go_region
   all_goals
    go_wp2
    exact G2 (v:= jQ #[V X t,V X 0]) P3 rfl ⟨⟨_,_,rfl,.inl ⟨rfl,Aa q⟩⟩,h.drew.drew⟩
def FdX (x:Nd):Prop:=(T x.aD:Int)=BY x.op/\(x.op=7->0<=x.num)
theorem fdB {x:Nd}(h:Bq x=jD):FdX x:=by
 rw[Bq,zF,zG]at h;refine⟨h.1,λe=>?_⟩
 grind
theorem fdU {x:Nd}(h:Cp x=jD):FdX x:=by
 have a:=((Kg x).1 h).2;rw[Cp,zF,zG]at h;exact⟨h.1,λe=>(a e).1⟩
theorem WA {x:Nd}(h:Iy x.op)(a:(T x.aD:Int)=BY x.op):T (Ds x.op).1<=T x.aD:=by
 unfold Iy at h;generalize x.op=op at*;generalize T x.aD=m at*;by_cases b: 1<=op/\op<=7
 .have:op=1\/op=2\/op=3\/op=4:=Oa
  grind [Ds]
 by_cases c: 8<=op/\op<=10
 .rw[BY,H7 b,H8 c]at a;have:op=8\/op=9\/op=10:=Oa
  grind [Ds]
 by_cases h3: 11<=op/\op<=26
 .rw[BY,H7 b,H7 c,H8 h3]at a;have:op=11\/op=12\/op=13\/op=14\/op=15\/op=16\/op=17\/op=18\/op=19\/op=20\/op=21\/op=22\/op=23\/op=24\/op=25\/op=26:=Oa;obtain rfl|rfl|rfl|rfl|rfl|rfl|rfl|rfl|rfl|rfl|rfl|rfl|rfl|rfl|rfl|rfl:=this<;>simp[Ds]<;>omega
 .have d:op=27:=Oa;rw[BY,H7 b,H7 c,H7 h3,H8 d]at a;subst d;simp[Ds];omega
theorem Ab6 (w:jB)(a c d f g:jF)(t:jV)(b:Nat)(i:b=R (Z w)):∀j u,([a,c,d,f,g]:L7)[j]? =Q u->jI (jK w<|jH #[a,c,d,f,g] t) (((jA b 0 U):jG).add j)=Q u:=λj u h=>by
 subst i;have k:(⟨R<|Z w,0,U⟩:jG).add j=⟨R<|Z w,j,U⟩:=Qx;rw[k,(Ag.new w #[a,c,d,f,g] t).cell j,<-h];simp
theorem AP.aM {v':jF}{a:L3}{n c:Nat}{L:L2}(h:AP w a n c L)(k:GL w v w' v')(g:∀x,a=Q x->Q (jT x)≠jL v):AP w' a n c L:=
 ⟨h.len,h.aJ,λj i=>by
  obtain⟨b,l,d,f,c0⟩:=h.cells j i;exact⟨b,l,d,zL f k.2.2,(G9 (w:=w)<|k.1 b f<|g _ d).trans c0⟩⟩
theorem AZ.cC {N:L6}{i:Nat}{f:Ex}(u:AZ N i f){x:Nd}(hx:N[i]? =Q x):
  (x.op=1/\f= .int i x.num)\/(x.op=2/\f= .text i x.text)\/(x.op=3/\f= .bool i (decide (x.num=1)))\/(x.op=4/\∃a n c,f= .set i a n c x.aB)\/(x.op=5/\f= .name i x.text)\/(x.op=6/\f= .attr i x.num)\/(x.op=7/\f= .lett i x.num)\/
  ((8<=x.op/\x.op<=10)/\∃ (k:Nat) (e:Ex),x.aD=[(k:Int)]/\AZ N k e/\f= .un i x.op e)\/
  ((11<=x.op/\x.op<=26)/\∃ (k l:Nat) (e g:Ex),x.aD=[(k:Int),(l:Int)]/\AZ N k e/\AZ N l g/\f= .bin i x.op e g)\/
  (x.op=27/\∃ (k l m:Nat) (e g h:Ex),x.aD=[(k:Int),(l:Int),(m:Int)]/\AZ N k e/\AZ N l g/\AZ N m h/\f= .ite i e g h):=by
 have j:∀{y:Nd},N[i]? =Q y->y=x:=λk=>K7<|k.symm.trans hx;cases u with
 |int h b d=>grind
 |text h b d=>grind
 |bool h b d=>grind
 |set h b d a n c=>simp_all
 |name h b d=>grind
 |attr h b d=>grind
 |lett h b d=>grind
 |un h b d hi t=>grind
 |bin h b d hi t u=>grind
 |ite h b d hi t u v=>grind
structure Lm (B lb:Nat) (ns:L4) (ts tt:L2) (nv lv tv:jF) (w:jB):Prop where
 row:Ag w lb #[nv,lv] 177
 aB:jO w B 9 1 nv (T ns)<|ns.map Value.string
 aU:jO w B 3 1 lv (T ts)<|Ak ts
 types:jO w B 3 1 tv (T tt)<|Ak tt
 low:lb<B
 bA:∀q,jL lv=Q q->jL tv≠Q q
theorem Lm.below {c:jF}(h:Lm B b ns ts tt c lv j w)(a:Ai w w'):Lm B b ns ts tt c lv j w':=
 ⟨h.row.aA a NLN,Aj h.aB a NLN,Aj h.aU a NLN,Aj h.types a NLN,h.low,h.bA⟩
theorem Lm.tree {c a:jF}(h:Lm B b ns ts tt c lv j w)(O:jO w' B 3 1 a (T<|tt++ys)<|Ak<|tt++ys)(K:GL w j w' a)(f:Below B w w'):Lm B b ns ts (tt++ys) c lv a w':=by
 refine⟨h.row.below f h.low,Ad h.aB λq hq=>K.1 q (h.aB.lt q hq).2 λe=>Al h.aB h.types Ob q hq e.symm,Ad h.aU λq hq=>K.1 q (h.aU.lt q hq).2 λe=>h.bA q hq e.symm,O,h.low,λq hq e=>?_⟩;obtain e2|e2:=K.2.1 q e
 .grind [Lm.bA]
 .have:=(h.aU.lt q hq).2;omega
theorem Lm.set {a:Nat}{b c:jF}(h:Lm B a ns ts tt b lv c w)(p:jG)(u:jF)(f:jT p<B)(d:jT p≠a):Lm B a ns ts tt b lv c<|jJ w p u:=
 ⟨h.row.aF (λe=>d e.symm) u,Ah h.aB p u λq hq=>H2<|(h.aB.lt q hq).1,Ah h.aU p u λq hq=>H2<|(h.aU.lt q hq).1,Ah h.types p u λq hq=>H2<|(h.types.lt q hq).1,h.low,h.bA⟩
theorem Lm.pushN {a:Nat}{c:jF}{b:jB}{o:Obj}{nm:K9}(h:Lm B a ns ts tt c lv j w)(u:B<=R (Z w))
  (l:jO b B 9 1 (Y (Q<|jA g 0 U) (T ns+1) cap) (T ns+1)<|ns.map Value.string++[jC nm])(d:(jK w o).grownBy b<|jL c)(hat:jL c=Q g\/g=R (Z w)+1):
  Ag b a #[c,lv] 177/\Lm B a (ns++[nm]) ts tt (Y (Q<|jA g 0 U) (T ns+1) cap) lv j (jJ b (jA a 0 U)<|Y (Q<|jA g 0 U) (T ns+1) cap)/\
  (∀k,k<R (Z w)->k≠a->Q k≠jL c->(Z<|jJ b (jA a 0 U)<|Y (Q<|jA g 0 U) (T ns+1) cap)[k]? =(Z w)[k]?)/\R (Z w)<=R (Z b):=by
 have n1:=Ac h.row h.aB Ob;have n2:=Ac h.row h.aU Ob;have m:=Ac h.row h.types Ob;have f:=(h.row.alloc o).grown d λe=>n1 e.symm;have n:=Ac f l Ob;have v:g≠a:=λe=>n D7;have p:R (Z<|jK w o)=R (Z w)+1:=Ox;have i:∀k,k<R (Z w)->k≠a->Q k≠jL c->(Z<|jJ b (jA a 0 U)<|Y (Q<|jA g 0 U) (T ns+1) cap)[k]? =(Z w)[k]? :=λk r s h3=>
  (K0 b (jA a 0 U) k _ s).trans ((d.block k (by rw[p];omega) h3).trans<|Below.heap_alloc w o k r)
 have t:R (Z w)<=R (Z b):=Ho;refine⟨f,⟨f.set 0<|Y (Q<|jA g 0 U) (T ns+1) cap,?_,Ad h.aU λq hq=>i q (h.aU.lt q hq).2 (λe=>n2<|e ▸ hq) λe=>Al h.aB h.aU Ob q e.symm hq,Ad h.types λq hq=>i q (h.types.lt q hq).2 (λe=>m<|e ▸ hq) λe=>Al h.aB h.types Ob q e.symm hq,h.low,h.bA⟩,i,t⟩
 grind [Ah]
theorem Lm.cM {a:Nat}{c:jF}{b:jB}{o:Obj}(h:Lm B a ns ts tt c lv j w)(v:B<=R (Z w))
  (l:jO b B 3 1 (Y (Q<|jA g 0 U) (T ts+1) cap) (T ts+1)<|Ak ts++[V X t])(d:(jK w o).grownBy b<|jL lv)(hat:jL lv=Q g\/g=R (Z w)+1):
  Ag b a #[c,lv] 177/\Lm B a ns (ts++[t]) tt c (Y (Q<|jA g 0 U) (T ts+1) cap) j (jJ b (jA a 1 U)<|Y (Q<|jA g 0 U) (T ts+1) cap)/\
  (∀k,k<R (Z w)->k≠a->Q k≠jL lv->(Z<|jJ b (jA a 1 U)<|Y (Q<|jA g 0 U) (T ts+1) cap)[k]? =(Z w)[k]?)/\R (Z w)<=R (Z b):=by
 have n1:=Ac h.row h.aB Ob;have n2:=Ac h.row h.aU Ob;have m:=Ac h.row h.types Ob;have f:=(h.row.alloc o).grown d λe=>n2 e.symm;have n:=Ac f l Ob;have x:g≠a:=λe=>n D7;have p:R (Z<|jK w o)=R (Z w)+1:=Ox;have i:∀k,k<R (Z w)->k≠a->Q k≠jL lv->(Z<|jJ b (jA a 1 U)<|Y (Q<|jA g 0 U) (T ts+1) cap)[k]? =(Z w)[k]? :=λk r s h3=>
  (K0 b (jA a 1 U) k _ s).trans ((d.block k (by rw[p];omega) h3).trans<|Below.heap_alloc w o k r)
 have u:R (Z w)<=R (Z b):=Ho;refine⟨f,⟨f.set 1<|Y (Q<|jA g 0 U) (T ts+1) cap,Ad h.aB λq hq=>i q (h.aB.lt q hq).2 (λe=>n1<|e ▸ hq) λe=>Al h.aB h.aU Ob q hq e.symm,?_,Ad h.types λq hq=>i q (h.types.lt q hq).2 (λe=>m<|e ▸ hq) λe=>h.bA q e.symm hq,h.low,λq hq e=>?_⟩,i,u⟩
 .grind [Ak,Ah]
 .have:g=q:=O8;subst this;obtain hat|hat:=hat
  .grind [Lm.bA]
  .have:=(h.types.lt g e).2;omega
structure Ls (B rb lb fb sb:Nat) (ns:L4) (ts tt:L2) (nv lv tv:jF) (S:Array jF) (fc fa:Int) (w0 w:jB):Prop where
 M:Lm B lb ns ts tt nv lv tv w
 F:Ag w fb #[V X fc,V X fa] 109
 Rr:Ag w rb #[V X 0,V X 0] 109
 S:Ag w sb S 113
 low:Below rb w0 w
 cV:rb<lb/\lb<fb/\fb<B/\B<=sb
theorem Ls.below {B b c d f:Nat}{ns:L4}{ts tt:L2}{g lv i:jF}{S:Array jF}{fc j:Int}{w0 w w':jB}(h:Ls B b c d f ns ts tt g lv i S fc j w0 w)(a:Ai w w'):Ls B b c d f ns ts tt g lv i S fc j w0 w':=
 ⟨h.M.below a,h.F.aA a NLN,h.Rr.aA a NLN,h.S.aA a NLN,h.low.trans<|a.mono<|H2 h.Rr.lt,h.cV⟩
theorem Ls.tree {B d f g b:Nat}{ns:L4}{ts tt ys:L2}{i lv j c:jF}{S:Array jF}{fc k:Int}{w0 w w':jB}(h:Ls B d f g b ns ts tt i lv j S fc k w0 w)(O:jO w' B 3 1 c (T<|tt++ys)<|Ak<|tt++ys)(K:GL w j w' c)(a:Below B w w'):Ls B d f g b ns ts (tt++ys) i lv c S fc k w0 w':=
 ⟨h.M.tree O K a,h.F.below a h.cV.2.2.1,h.Rr.below a<|H2 h.cV,⟨(K.1 b h.S.lt λe=>Ac h.S h.M.types Ob e.symm).trans h.S.out⟩,h.low.trans<|a.mono<|H2 h.cV,h.cV⟩
theorem Ls.fault {d f b g:Nat}{i:jF}{S:Array jF}{fc k:Int}{w0 w:jB}(h:Ls B d f b g ns ts tt i lv j S fc k w0 w)(c a:Int):Ls B d f b g ns ts tt i lv j S c a w0<|jJ (jJ w (jA b 0 U)<|V X c) (jA b 1 U)<|V X a:=by
 have o:=h.cV;refine⟨(h.M.set (jA b 0 U) _ o.2.2.1 (Oa:b≠f)).set (jA b 1 U) _ o.2.2.1 (Oa:b≠f),(h.F.set 0 _).set 1 _,(h.Rr.aF (Oa:d≠b) _).aF (Oa:d≠b) _,(h.S.aF (Oa:g≠b) _).aF (Oa:g≠b) _,?_,o⟩
 grind [Go.RowKit.Below.setCell,Ls.low]
theorem Ls.dM {a b c:Nat}{i:L4}{j:L2}{t f m:jF}{S:Array jF}{fc:Int}{w0 w w':jB}{e:jV}{size n:Nat}{r:jF}(h:Ls B a b c d ns ts tt t lv f S fc p w0 w)(hx:jO w B e size r n u)(s: 109≠e)(v: 113≠e)
  (M:Lm B b i j tt l m f w')(g:∀k,k<R (Z w)->k≠b->Q k≠jL r->(Z w')[k]? =(Z w)[k]?)(x:Below a w w'):Ls B a b c d i j tt l m f S fc p w0 w':=by
 have o:=h.cV;exact⟨M,⟨(g c h.F.lt Oa λq=>Ac h.F hx s q.symm).trans h.F.out⟩,⟨(g a h.Rr.lt Oa λq=>Ac h.Rr hx s q.symm).trans h.Rr.out⟩,⟨(g d h.S.lt Oa λq=>Ac h.S hx v q.symm).trans h.S.out⟩,h.low.trans x,o⟩
set_option maxHeartbeats 3200000
def NdK (x:Nd) (w:jB) (r:Ending) (w':jB):Prop:=(∃u cu k ck,r=jN (jM #[V X x.op,V X x.num,jC x.text,Y u (T x.aB) cu,Y k (T x.aD) ck])/\jO w' (R<|Z w) 9 1 (Y u (T x.aB) cu) (T x.aB) (x.aB.map Value.string)/\jO w' (R<|Z w) 3 1 (Y k (T x.aD) ck) (T x.aD) (Ak x.aD))/\Ai w w'
theorem Fq {B':Nat}{e:jV}{size n:Nat}{a:L7}(h:jO w B e size v n a)(b:B'<=B):jO w B' e size v n a:=by
 refine⟨h.1,?_⟩;obtain q|⟨g,cap,c,d,f,h3⟩:=h.2
 .grind
 .exact .inr ⟨g,cap,c,d,zB b f,h3⟩
theorem Zc (op c:Int)(d:K9)(ns:L4)(z:L2)(an:L3)(nn cn:Nat)(j:L3)(a g:Nat)(w:jB)(ac:Aq w an nn cn ns)(I:AP w j a g z)(hs:nn<=1048576):
  Calls jZ 94 #[jM #[V X op,V X c,jC d,Y an nn cn,Y j a g]] w λr w'=>(∃u b k g,r=jN (jM #[V X op,V X c,jC d,Y u nn b,Y k a g])/\jO w' (R<|Z w) 9 1 (Y u nn b) nn (ns.map Value.string)/\jO w' (R<|Z w) 3 1 (Y k a g) a (Ak z))/\Ai w w':=by
 have ay:=I.aJ;have J:=((Ag.new w #[V X op,V X c,jC d,Y an nn cn,Y j a g] 170).alloc<|jH #[V X 0,V X 0,jC ⟨#[]⟩,Y U 0 0,Y U 0 0] 170).alloc<|EQ op c d U 0 0 U 0 0;have A:=(Ag.new (jK w<|EQ op c d an nn cn j a g) #[V X 0,V X 0,jC ⟨#[]⟩,Y U 0 0,Y U 0 0] 170).alloc<|EQ op c d U 0 0 U 0 0;have B:=Ag.new (jK (jK w<|EQ op c d an nn cn j a g)<|jH #[V X 0,V X 0,jC ⟨#[]⟩,Y U 0 0,Y U 0 0] 170) #[V X op,V X c,jC d,Y U 0 0,Y U 0 0] 170;have C:=((AE w<|EQ op c d an nn cn j a g).alloc Ox<|jH #[V X 0,V X 0,jC ⟨#[]⟩,Y U 0 0,Y U 0 0] 170).alloc O0<|EQ op c d U 0 0 U 0 0;simp only[G0]at A B;have ad:∃D,D=jK (jK (jK w<|EQ op c d an nn cn j a g)<|jH #[V X 0,V X 0,jC ⟨#[]⟩,Y U 0 0,Y U 0 0] 170) (EQ op c d U 0 0 U 0 0):=⟨_,rfl⟩
 have K:=ac.below C NLN;go_enter func94,ntmps94
 go_wp2_with (at_builtin;refine Le rfl _ _ rfl _ _ 0 [] rfl (World.ownsRow_nil _ (R (Z w)+1+1+1) _ _) an nn cn ns rfl K Oa Ox ?_)
 intro az l E m;obtain⟨D,L⟩:=ad;have aB:R (Z D)=R (Z w)+1+1+1:=by rw[L];simp
 rw[<-L]at J A B C K m;have F:=B.below m Oa;obtain⟨f,b,rfl,_⟩:=Ae E;obtain⟨m0,ae,af,ag,ah⟩:=Cm F;have ai:=λk=>F.frozen k;have aC:R (Z w)+1+1+1<=R (Z l):=H2 m.size;have G:=F.set 3<|Y f nn b;have M:=(J.below m Oa).aF (p:=⟨R (Z w)+1+1,3,U⟩) (Oa:R (Z w)≠R (Z w)+1+1)<|Y f nn b;have N:=(A.below m Oa).aF (p:=⟨R (Z w)+1+1,3,U⟩) P4<|Y f nn b;have t:=(C.trans<|m.mono Oa).setCell (p:=⟨R (Z w)+1+1,3,U⟩) P7<|Y f nn b;have O:=Ah E ⟨R (Z w)+1+1,3,U⟩ (Y f nn b) (λq hq=>by have:=(E.lt q hq).1;show q≠R (Z w)+1+1;omega);have aj:=(Aa<|Ab I).below t NLN;have aD:jI (jJ l ⟨R (Z w)+1+1,3,U⟩<|Y f nn b) ⟨R<|Z w,4,U⟩=Q (Y j a g):=M.cell 4;have aE:jI (jJ l ⟨R (Z w)+1+1,3,U⟩<|Y f nn b) ⟨R (Z w)+1+1,4,U⟩=Q (Y U 0 0):=G.cell 4;have ak:∃x,x=jJ l ⟨R (Z w)+1+1,3,U⟩ (Y f nn b):=⟨_,rfl⟩
 go_wp2_with (at_builtin;refine Gc rfl _ _ rfl _ _ 0 [] rfl (World.ownsRow_nil _ (R<|Z l) _ _) j a g z rfl aj Oa Ox ?_)
 intro aG aH y n;obtain⟨x,P⟩:=ak;have al:R (Z x)=R (Z l):=by rw[P];simp
 rw[<-P]at M N G t O n;rw[<-al]at n y;have ao:=N.aA n NLN;have S:=G.aA n NLN;have W:=Aj O n NLN;obtain⟨h,i,rfl,_⟩:=Ae y;obtain⟨m0,ae,af,ag,ah⟩:=Cm S;have ai:=λk=>S.frozen k;have H:=ao.aF (p:=⟨R (Z w)+1+1,4,U⟩) P4<|Y h a i;have ap:=(t.trans<|n.mono t.size).setCell (p:=⟨R (Z w)+1+1,4,U⟩) P7<|Y h a i;have aa:=Ah W ⟨R (Z w)+1+1,4,U⟩ (Y h a i) (λq hq=>by have:=(W.lt q hq).1;show q≠R (Z w)+1+1;omega);have ab:=Ah y ⟨R (Z w)+1+1,4,U⟩ (Y h a i) (λq hq=>by have:=(y.lt q hq).1;show q≠R (Z w)+1+1;omega);obtain⟨aI,aK,aL,aM,aN⟩:=Cm H;have aO:=λk=>H.frozen k;have aq:=((((H.set 0<|V X op).set 1<|V X c).set 2<|jC d).set 3<|Y f nn b).set 4<|Y h a i;have ar:=((((ap.setCell (p:=⟨R (Z w)+1,0,U⟩) (zU _)<|V X op).setCell (p:=⟨R (Z w)+1,1,U⟩) (zU _)<|V X c).setCell (p:=⟨R (Z w)+1,2,U⟩) (zU _)<|jC d).setCell (p:=⟨R (Z w)+1,3,U⟩) (zU _)<|Y f nn b).setCell (p:=⟨R (Z w)+1,4,U⟩) (zU _)<|Y h a i;have o:∀q,jL (Value.slice f nn b)=Q q->q≠R (Z w)+1:=λq hq=>H2<|(aa.lt q hq).1;have s:∀q,jL (Value.slice h a i)=Q q->q≠R (Z w)+1:=λq hq=>H2<|(ab.lt q hq).1;have au:=Ah (Ah (Ah (Ah (Ah aa ⟨R (Z w)+1,0,U⟩ (V X op) o) ⟨R (Z w)+1,1,U⟩ (V X c) o) ⟨R (Z w)+1,2,U⟩ (jC d) o) ⟨R (Z w)+1,3,U⟩ (Y f nn b) o) ⟨R (Z w)+1,4,U⟩ (Y h a i) o;have av:=Ah (Ah (Ah (Ah (Ah ab ⟨R (Z w)+1,0,U⟩ (V X op) s) ⟨R (Z w)+1,1,U⟩ (V X c) s) ⟨R (Z w)+1,2,U⟩ (jC d) s) ⟨R (Z w)+1,3,U⟩ (Y f nn b) s) ⟨R (Z w)+1,4,U⟩ (Y h a i) s;have aw:=Ab<|Fq au (Oa:R (Z w)<=R (Z w)+1+1+1);have ax:=Ab<|Fq av (Oa:R (Z w)<=R (Z x));go_wp2_with fail
 obtain⟨e0,e1,e2,e3,e4⟩:=Cm aq;refine G2 (v:= jM #[V X op,V X c,jC d,Y f nn b,Y h a i]) (by simp[results,results94,go_sem,e0,e1,e2,e3,e4]) rfl ⟨⟨f,b,h,i,?_,?_,?_⟩,ar⟩
 .rfl
 .exact Aa aw
 .exact Aa ax
theorem Zd (x:Nd)(an:L3)(nn cn:Nat)(a:L3)(b c:Nat)(w:jB)(d:Aq w an nn cn x.aB)(f:AP w a b c x.aD)(hs:nn<=1048576):
  Calls jZ 94 #[jM #[V X x.op,V X x.num,jC x.text,Y an nn cn,Y a b c]] w (NdK x w):=by
 have g:=d.len;have i:=f.len;refine(Zc x.op x.num x.text x.aB x.aD an nn cn a b c w d f hs).mono ?_;subst g;subst i;exact λr w' h=>h
set_option maxHeartbeats 1600000
theorem Wp (a:L3)(n c:Nat)(ss:L4)(k:L3)(n' c':Nat)(tt:L4)(w:jB)(h:Aq w a n c ss)(d:Aq w k n' c' tt)(z:a=U->c=0)(A:k=U->c'=0):
  Calls jZ 156 #[Y a n c,Y k n' c'] w λe w'=>Tz w ss tt e w':=by
 cases b:Ay ss
 .have p:=Ab (AB.dA (ss:=ss) (tt:=tt)<|by rw[b];rfl);go_enter func156,ntmps156
  go_wp2_with fail
  refine(AC _ _ _ _ _ h).mono ?_;rintro e f ⟨rfl,rfl⟩;rw[b];go_wp2
  go_ret2
  exact Tz.nil (Aa p) BRN
 .cases g:Ay tt
  .have p:=Ab (AB.dA (ss:=ss) (tt:=tt)<|by rw[b,g];rfl);go_enter func156,ntmps156
   go_wp2_with fail
   refine(AC _ _ _ _ _ h).mono ?_;rintro e f ⟨rfl,rfl⟩;rw[b];go_wp2_with fail
   refine(AC _ _ _ _ _ d).mono ?_;rintro e f ⟨rfl,rfl⟩;rw[g];go_wp2
   go_ret2
   exact Tz.nil (Aa p) BRN
  .have N:=(Mr b).1;have O:=(Mr g).1;have l:=Ab h.len;have m:=Ab d.len;have u:=Ab (show(Ay ss&&Ay tt)=jD by rw[b,g];rfl);obtain⟨i,hi,P,S,W⟩:=info_parts GB;go_enter func156,ntmps156
   go_wp2_with fail
   refine(AC _ _ _ _ _ h).mono ?_;rintro e f ⟨rfl,q⟩;rw[b,q];go_wp2_with fail
   refine(AC _ _ _ _ _ d).mono ?_;rintro e f ⟨rfl,q⟩;rw[g,q];have aa:n<=64:=Q7;have ab:n'<=64:=H2<|Aa m;go_wp2_with (at_builtin;refine EB rfl _ _ rfl (R<|Z w) _ 0 [] rfl H3 a n c ss rfl h z Oa NLN ?_)
   intro ac f r s;obtain⟨ad,ae,B⟩:=AA r;rw[B]at r|-;go_wp2_with (at_builtin;refine EB rfl _ _ rfl (R<|Z w) _ n _ rfl r k n' c' tt rfl (d.below s NLN) A Oa s.size ?_)
   intro af w2 o C;have t:=s.trans C;obtain⟨D,E,F⟩:=AA o;rw[F]at o|-;rw[<-zk]at o;have G:Aq w2 D (n+n') E<|ss++tt:=Aq.bG o (by
    intro j ag;exact TA (by rw[<-Aa l];exact h.bC) (by rw[<-Aa m];exact d.bC) j<|by have:=Aa l;have:=Aa m;simp;omega)
   go_wp2_with fail
   refine(Jt _ _ _ _ _ G<|by have:=Aa l;have:=Aa m;omega).mono ?_;rintro e ah ⟨x,cx,K,rfl,H,hb3,I⟩;have v:=Ab I;have y:=t.trans<|hb3.mono t.size;have J:=CF H t.size;by_cases L: 64<T K
   .have M:(64 :Int)<(T K:Int):=Oa;go_wp2
    go_ret2
    exact Tz.nil (AB.dK (Aa u) (Aa v) L) y
   .have M:(T K:Int)<=64:=Oa;go_wp2
    go_ret2
    exact⟨x,cx,K,0,rfl,J,y,(AB.dN (Aa u) (Aa v) Oa)⟩
open Classical in
noncomputable def VX (num num':Int) (text text':K9) (A A':L4):Bool:=decide (num=num'/\text=text'/\A=A')
open Classical in
theorem ED (c0 num:Int) (text:K9) (a:L3) (n c:Nat) (A:L4) (c0' num':Int) (text':K9) (a':L3) (n' c':Nat) (A':L4) (w:jB) (h:Aq w a n c A) (h':Aq w a' n' c' A'):
  Calls jZ 106 #[jM #[V X c0,V X num,jC text,Y a n c],jM #[V X c0',V X num',jC text',Y a' n' c']] w λr w'=>r=jN (.bool<|VX num num' text text' A A')/\Ai w w':=by
 have B0:=(AE w<|jH #[V X c0,V X num,jC text,Y a n c] 185).alloc Ox<|jH #[V X c0',V X num',jC text',Y a' n' c'] 185;have R0:=(Ag.new w #[V X c0,V X num,jC text,Y a n c] 185).alloc<|jH #[V X c0',V X num',jC text',Y a' n' c'] 185;have R1:=Ag.new (jK w<|jH #[V X c0,V X num,jC text,Y a n c] 185) #[V X c0',V X num',jC text',Y a' n' c'] 185;simp only[G0]at R1;have H0:=h.below B0 NLN;have H1:=h'.below B0 NLN;have s1:n<=9223372036854775807:=Q1;have HA:=Ab h.len;have HB:=Ab h'.len;clear h h';by_cases hn:num=num'
 .have en:(num !=num')=jE:=by rw[hn];simp
  by_cases ht:text=text'
  .have et:(text.toList !=text'.toList)=jE:=by rw[ht];simp
   have et2:(text.toList==text'.toList)=jD:=by rw[ht];simp
   by_cases hl:n=n'
   .have el:((n:Int)!=(n':Int))=jE:=by rw[hl];simp
    have HE:=Ab (Qp (A:=A) (B:=A')<|by rw[<-Aa HA,<-Aa HB,hl]);have HQ:=Ab (show VX num num' text text' A A'=decide (A=A') by simp[VX,hn,ht]);have Hnm:=Ab hl;clear hn ht hl;go_enter func106,ntmps106
    go_wp2_with fail
    generalize (jK (jK w (jH #[V X c0,V X num,jC text,Y a n c] 185)) (jH #[V X c0',V X num',jC text',Y a' n' c'] 185))=W1 at B0 R0 R1 H0 H1|-;go_loopw [31] (λi wr=>∃k:Nat,k<=n/\i=V X k/\Ai W1 wr/\Hid (∀j,j<k->AG A j=AG A' j)) (λi _=>n-(intOf i).toNat)
    case atStart=>exact⟨0,Oa,rfl,BRN,Ab λj h=>H9 h Oa⟩
    case round=>
     obtain⟨k,hk,rfl,D1,Ha⟩:=hrel;have B1:=B0.trans<|D1.mono B0.size;by_cases hlt:k<n
     .have ilt:(k:Int)<(n:Int):=Oa;have ilm:(k:Int)<(n':Int):=H2<|Aa Hnm;obtain⟨b1,o1,rfl,hl1,c1⟩:=(H0.below D1 NLN).cells k hlt;obtain⟨b2,o2,rfl,hl2,c2⟩:=(H1.below D1 NLN).cells k<|H2<|Aa Hnm;have q3:jI wr ⟨R (Z w)+1,3,U⟩=Q (Y (Q<|jA b2 o2 U) n' c'):=(R1.aA D1 NLN).cell 3;have Hno:=Ab (show AG A k≠AG A' k->decide (A=A')=jE from λe=>zH λe'=>e<|(Aa HE).1 e' k<|by rw[<-Aa HA];exact hlt);have HN:=Ab (show AG A k=AG A' k->∀j,j<k+1->AG A j=AG A' j from λe j h'=>by
       by_cases ej:j=k
       .subst ej;exact e
       .exact Aa Ha j Oa)
      have Hlt:=Ab hlt;clear Ha hlt;generalize AG A k=x at c1 Hno HN;generalize AG A' k=y at c2 Hno HN;by_cases hxy:x=y
      .have exy:(y.toList==x.toList)=jD:=(IX y x).2 hxy.symm;have HN2:=Ab<|Aa HN hxy;clear hxy Hno HN;go_wp2
       go_roundw
       case rel=>exact⟨k+1,Aa Hlt,O1,D1,HN2⟩
       case measure=>have:=Aa Hlt;simp[intOf];omega
      .have exy:(y.toList==x.toList)=jE:=by rw[Bool.eq_false_iff];exact λh=>hxy ((IX y x).1 h).symm
       have HX:=Ab<|Aa Hno hxy;clear hxy Hno HN;go_wp2
       go_ret
       exact⟨Af ((Aa HQ).trans<|Aa HX).symm,B1⟩
     .have e:k=n:=Oa;subst e;have HX:=Ab<|show decide (A=A')=jD from zJ<|(Aa HE).2 λj hj=>Aa Ha j<|H2<|Aa HA;go_wp2
      go_ret
      exact⟨Af ((Aa HQ).trans<|Aa HX).symm,B1⟩
   .have el:((n:Int)!=(n':Int))=jD:=zV.2 Oa;have HX:=Ab (show VX num num' text text' A A'=jE from zH λe=>hl<|by rw[Aa HA,Aa HB,e.2.2]);clear hn ht hl;go_enter func106,ntmps106
    go_wp2
    go_ret
    exact⟨Af (Aa HX).symm,B0⟩
  .have et:(text.toList !=text'.toList)=jD:=by rw[bne,Bool.eq_false_iff.2 λk=>ht<|(IX _ _).1 k];rfl
   have et2:(text.toList==text'.toList)=jE:=Bool.eq_false_iff.2 λk=>ht<|(IX _ _).1 k;have HX:=Ab<|show VX num num' text text' A A'=jE from zH λe=>ht e.2.1;clear hn ht;go_enter func106,ntmps106
   go_wp2
   go_ret
   exact⟨Af (Aa HX).symm,B0⟩
 .have en:(num !=num')=jD:=zV.2 hn;have HX:=Ab<|show VX num num' text text' A A'=jE from zH λe=>hn e.1;clear hn;go_enter func106,ntmps106
  go_wp2
  go_ret
  exact⟨Af (Aa HX).symm,B0⟩
def ZS (w:jB) (a:L3) (c:Nat):Prop:=(a=U->c=0)/\∀ad,a=Q ad->∃cs,Ag w (jT ad) cs 9
theorem ZS.below {a:L3}{c:Nat}(h:ZS w a c)(b:Below B w w')(d:R (Z w)<=B):ZS w' a c:=⟨h.1,λf e=>by
 obtain⟨g,r⟩:=h.2 f e;exact⟨g,r.aA b d⟩⟩
theorem ZS.setCell {w:jB}{a:L3}{c:Nat}(h:ZS w a c)(b j:Nat)(u:jF):ZS (jJ w (jA b j U) u) a c:=⟨h.1,λd e=>by
 obtain⟨g,r⟩:=h.2 d e;by_cases f:jT d=b
 .rw[f]at r|-;exact⟨_,r.set j u⟩
 .exact⟨g,r.aF f u⟩⟩
theorem ZS.bG {x:L3}{n cx:Nat}{a:L7}(h:jO w B 9 1 (Y x n cx) n a):ZS w x cx:=by
 obtain⟨q,_⟩|⟨g,cap,b,q,_,hg,_⟩:=h.2
 .grind [ZS]
 .simp only[Value.slice.injEq]at q;obtain⟨rfl,_,rfl⟩:=q;exact⟨λe=>(nomatch e),λc e=>⟨b,by cases e;exact⟨hg⟩⟩⟩
def MVs (w:jB) (num:Int) (text:K9) (a:L3) (n c:Nat):Vv->Prop
 |.bool b=>num=(if b then 1 else 0)/\text=⟨#[]⟩/\a=U/\n=0/\c=0
 |.int k=>(num=k/\Cu k)/\text=⟨#[]⟩/\a=U/\n=0/\c=0
 |.text s=>num=0/\text=s/\a=U/\n=0/\c=0
 |.set ss=>num=0/\text=⟨#[]⟩/\Aq w a n c ss/\T ss<=1048576/\ZS w a c
theorem MVs.below {w w':jB}{B:Nat}{num:Int}{text:K9}{a:L3}{n c:Nat}{v:Vv}(h:MVs w num text a n c v)(d:Below B w w')(f:R (Z w)<=B):MVs w' num text a n c v:=by
 cases v with
 |bool b=>exact h
 |int k=>exact h
 |text s=>exact h
 |set ss=>
   obtain⟨g,i,h3,j,h5⟩:=h;exact⟨g,i,h3.below d f,j,h5.below d f⟩
def Vv.aB:Vv->L4
 |.set ss=>ss
 |_=> []
def Wq (o:Ev) (w:jB) (r:Ending) (w':jB):Prop:=
 (∃code num text a n c,r=jN (jM #[V X code,V X num,jC text,Y a n c])/\(match o with
  |.ok v=>code=0/\MVs w' num text a n c v
  |.err e=>code=e/\e≠0))/\Ai w w'
theorem Wr (b:Bool)(w:jB):Calls jZ 159 #[.bool b] w<|Wq (.ok<|.bool b) w:=by
 have a:∀c,Ai w<|jK w<|jH c 185:=λc=>AE w _;cases b with
 |true=>
  go_enter func159,ntmps159
  go_wp2_with fail
  refine G2 (v:= jM #[V X 0,V X 1,jC ⟨#[]⟩,Y U 0 0]) (by simp[results,results159,go_sem]) rfl ?_
  exact⟨⟨_,_,_,_,_,_,rfl,rfl,rfl,rfl,rfl,rfl,rfl⟩,a _⟩
 |false=>
  go_enter func159,ntmps159
  go_wp2_with fail
  refine G2 (v:= jM #[V X 0,V X 0,jC ⟨#[]⟩,Y U 0 0]) (by simp[results,results159,go_sem]) rfl ?_
  exact⟨⟨_,_,_,_,_,_,rfl,rfl,rfl,rfl,rfl,rfl,rfl⟩,a _⟩
theorem En {m kc:Nat}{a:M6}(h:jO w B 121 5 (Y ka m kc) m<|a.flatMap K5.cs)(f:T a=m):AO w ka a:=λj b=>by
 obtain⟨x,c,e,hx⟩:=Ae h;cases e;obtain⟨g,rfl,_,hc⟩:=hx Oa;refine⟨g,0,rfl,(h.lt g rfl).2,λr d=>?_⟩;have e1:=AfE a j b r d;have i:T (a[j].cs)=5:=rfl;have e2:(a[j].cs)[r]? =Q ((a[j].cs)[r]' Oa):=zM _;rw[e2]at e1|-;rw[zY];exact hc _ _ e1
theorem Nw:(jZ.info? 121).map (λi=>(i.zero,i.size,i.bytes))=Q (Q<|jM #[V X 0,V X 0,jC jW,Y U 0 0,Y U 0 0],5,80):=Oy
def Tq (w:jB):Ex->K5->Prop
 |.un _ op c,k=>k.op=op/\k.num=0/\k.text=⟨#[]⟩/\k.nn=0/\k.kn=1/\∃k1,AO w k.ka [k1]/\Tq w c k1
 |.bin _ op l r,k=>k.op=op/\k.num=0/\k.text=⟨#[]⟩/\k.nn=0/\k.kn=2/\∃k1 k2,AO w k.ka [k1,k2]/\Tq w l k1/\Tq w r k2
 |.ite _ c t e,k=>k.op=27/\k.num=0/\k.text=⟨#[]⟩/\k.nn=0/\k.kn=3/\∃k1 k2 k3,AO w k.ka [k1,k2,k3]/\Tq w c k1/\Tq w t k2/\Tq w e k3
 |e,k=>k.op=(Ef e).op/\k.num=(Ef e).num/\k.text=(Ef e).text/\k.kn=0/\Aq w k.an k.nn k.cn (Ef e).aB/\T (Ef e).aB<=1048576/\ZS w k.an k.cn
theorem Tq.below {w w':jB}{B:Nat}(a:Below B w w')(b:R (Z w)<=B):∀{e:Ex} {k:K5},Tq w e k->Tq w' e k
 |.un ..,k,h=>by
  obtain⟨c,d,h3,f,h5,g,i,j⟩:=h;exact⟨c,d,h3,f,h5,g,i.below a b,j.below a b⟩
 |.bin ..,k,h=>by
  obtain⟨c,d,h3,f,h5,g,l,i,j,m⟩:=h;exact⟨c,d,h3,f,h5,g,l,i.below a b,j.below a b,m.below a b⟩
 |.ite ..,k,h=>by
  obtain⟨c,d,h3,f,h5,g,l,n,i,j,m,o⟩:=h;exact⟨c,d,h3,f,h5,g,l,n,i.below a b,j.below a b,m.below a b,o.below a b⟩
 |.int ..,k,h=>⟨h.1,h.2.1,h.2.2.1,h.2.2.2.1,h.2.2.2.2.1.below a b,h.2.2.2.2.2.1,h.2.2.2.2.2.2.below a b⟩
 |.text ..,k,h=>⟨h.1,h.2.1,h.2.2.1,h.2.2.2.1,h.2.2.2.2.1.below a b,h.2.2.2.2.2.1,h.2.2.2.2.2.2.below a b⟩
 |.bool ..,k,h=>⟨h.1,h.2.1,h.2.2.1,h.2.2.2.1,h.2.2.2.2.1.below a b,h.2.2.2.2.2.1,h.2.2.2.2.2.2.below a b⟩
 |.set ..,k,h=>⟨h.1,h.2.1,h.2.2.1,h.2.2.2.1,h.2.2.2.2.1.below a b,h.2.2.2.2.2.1,h.2.2.2.2.2.2.below a b⟩
 |.name ..,k,h=>⟨h.1,h.2.1,h.2.2.1,h.2.2.2.1,h.2.2.2.2.1.below a b,h.2.2.2.2.2.1,h.2.2.2.2.2.2.below a b⟩
 |.attr ..,k,h=>⟨h.1,h.2.1,h.2.2.1,h.2.2.2.1,h.2.2.2.2.1.below a b,h.2.2.2.2.2.1,h.2.2.2.2.2.2.below a b⟩
 |.lett ..,k,h=>⟨h.1,h.2.1,h.2.2.1,h.2.2.2.1,h.2.2.2.2.1.below a b,h.2.2.2.2.2.1,h.2.2.2.2.2.2.below a b⟩
def FC:Ex->Int
 |.un _ op _=>op
 |.bin _ op _ _=>op
 |.ite .. =>27
 |e=>(Ef e).op
theorem Tq.op {w:jB}{e:Ex}{k:K5}(h:Tq w e k):k.op=FC e:=by cases e<;>exact h.1
def Acm:Ex->Int
 |.un .. =>0
 |.bin .. =>0
 |.ite .. =>0
 |e=>(Ef e).num
theorem Tq.num {w:jB}{e:Ex}{k:K5}(h:Tq w e k):k.num=Acm e:=by cases e<;>exact h.2.1
def Akw:Ex->L4
 |.set _ _ _ _ ss=>ss
 |_=> []
theorem Tq.nn {w:jB}{e:Ex}{k:K5}(h:Tq w e k):k.nn=T (Akw e):=by
 cases e with
 |un=>exact h.2.2.2.1
 |bin=>exact h.2.2.2.1
 |ite=>exact h.2.2.2.1
 |_=>exact h.2.2.2.2.1.len
def Bp:Ex->Bool
 |.un _ op k=>decide (8<=op/\op<=10)&&Bp k
 |.bin _ op l r=>decide (11<=op/\op<=26)&&(Bp l&&Bp r)
 |.ite _ c t e=>Bp c&&(Bp t&&Bp e)
 |_=>jD
theorem Ff  :∀(e:Ex) (t:Int),AX ts e=Q t->Bp e=jD:=by intro e;induction e<;>intros<;>grind [EJ,Bp,Ch,AX]
theorem Zy {e:Ex}(h:Bp e=jD):e.bD=decide (1<=FC e/\FC e<=4):=by
 cases e with
 |un i op k=>
   simp only[Bp,zF,zG]at h;exact(zH (Oa:¬ (1<=op/\op<=4))).symm
 |bin i op l r=>
   simp only[Bp,zF,zG]at h;exact(zH (Oa:¬ (1<=op/\op<=4))).symm
 |_=>rfl
theorem Aja {n:Int}{e:Ex}(h:Bp e=jD):VH n e=(decide (FC e=1)&&decide (Acm e=n)):=by
 cases e with
 |un i op k=>
   simp only[Bp,zF,zG]at h;rw[zH<|show ¬ FC (.un i op k)=1 by show ¬ op=1;omega];rfl
 |bin i op l r=>
   simp only[Bp,zF,zG]at h;rw[zH<|show ¬ FC (.bin i op l r)=1 by show ¬ op=1;omega];rfl
 |_=>rfl
theorem Ajb {b:Bool}{e:Ex}(h:Bp e=jD):isB b e=(decide (FC e=3)&&decide (Acm e=if b then 1 else 0)):=by
 cases e with
 |un i op k=>
   simp only[Bp,zF,zG]at h;rw[zH<|show ¬ FC (.un i op k)=3 by show ¬ op=3;omega];rfl
 |bin i op l r=>
   simp only[Bp,zF,zG]at h;rw[zH<|show ¬ FC (.bin i op l r)=3 by show ¬ op=3;omega];rfl
 |bool i c=>cases b<;>cases c<;>rfl
 |_=>rfl
theorem Ajc {e:Ex}(h:Bp e=jD):SY e=(decide (FC e=4)&&decide (T (Akw e)=0)):=by
 cases e with
 |un i op k=>
   simp only[Bp,zF,zG]at h;rw[zH<|show ¬ FC (.un i op k)=4 by show ¬ op=4;omega];rfl
 |bin i op l r=>
   simp only[Bp,zF,zG]at h;rw[zH<|show ¬ FC (.bin i op l r)=4 by show ¬ op=4;omega];rfl
 |_=>rfl
def Rw (b:Bool) (w:jB) (r:Ending) (w':jB):Prop:=r=jN (.bool b)/\Ai w w'
set_option maxHeartbeats 3200000
def Fm (op:Int) (bs:List Bool):Bool:=!decide (op=8\/(11<=op/\op<=16))&&bs.all id
theorem XR {j:Nat}(h:j<T bs)(a:(bs.take j).all id=jD)(b:bs[j]=jD):(bs.take<|j+1).all id=jD:=by grind [zT]
theorem AfD {j:Nat}(h:j<T bs)(a:bs[j]=jE):bs.all id=jE:=by grind [List.all_eq_false,zI]
theorem Dy (op num:Int)(text:K9)(an:L3)(nn cn:Nat)(ka:L3)(m kc:Nat)(hm:m<=1048576)(c:M6)(P:T c=m)(bs:List Bool)(S:T bs=m)(w:jB)(W:AO w ka c)
  (V:∀j,(ao:j<T c)->(ap:j<T bs)->∀L,Ai w L->Calls jZ 59 #[jM #[jc X c[j].op,jc X c[j].num,jC c[j].text,Y c[j].an c[j].nn c[j].cn,Y c[j].ka c[j].kn c[j].kc]] L (Rw bs[j] L)):
  Calls jZ 59 #[jM #[jc X op,jc X num,jC text,Y an nn cn,Y ka m kc]] w (Rw (Fm op bs) w):=by
 have aa:=Ag.new w #[jc X op,jc X num,jC text,Y an nn cn,Y ka m kc] 121;have a:=AE w<|Bu op num text an nn cn ka m kc;have ab:=Ab V;have ac:=Ab P;have J:=Ab S;have K:=W.below a NLN;clear V P S W;by_cases s:op=8\/(11<=op/\op<=16)
 .have o:=Ab (show Fm op bs=jE by rw[Fm,zJ s];rfl);obtain ad|⟨ae,af⟩:=s
  .subst ad;go_enter func59,ntmps59
   go_wp2
   go_ret
   exact⟨by rw[Aa o];rfl,a⟩
  .have e8:(op==8)=jE:=zA.2 Oa;go_enter func59,ntmps59
   go_wp2
   go_ret
   exact⟨by rw[Aa o];rfl,a⟩
 .have o:=Ab (show Fm op bs=bs.all id by rw[Fm,zH s];rfl);have e8:(op==8)=jE:=zA.2 Oa;by_cases ae: 11<=op
  .have af: ¬ (op<=16):=Oa;clear s;go_enter func59,ntmps59
   go_wp2_with fail
   generalize jK w (Bu op num text an nn cn ka m kc)=M at aa a K|-;go_loopw [21] (λi wr=>∃j:Nat,j<=m/\i=jc X j/\Ai M wr/\Hid ((bs.take j).all id=jD)) (λi _=>m-(intOf i).toNat)
   case atStart=>exact⟨0,zE _,rfl,BRN,Ab rfl⟩
   case round=>
    obtain⟨j,ag,rfl,d,t⟩:=hrel;by_cases g:j<m
    .have ah:(j:Int)<(m:Int):=Oa;have p:j<T c:=by rw[Aa ac];exact g
     have l:j<T bs:=by rw[Aa J];exact g
     obtain⟨b,ai,rfl,aj,hc⟩:=(K.below d NLN) j p;have c0:=hc 0 Ob;have c1:=hc 1 Ob;have c2:=hc 2 Ob;have c3:=hc 3 Ob;have c4:=hc 4 Ob;simp only[K5.cs,zX,Z3,Z4]at c0 c1 c2 c3 c4;have n:=Ab<|Aa ab j p l;have u:=Ab<|show bs[j]=jD->(bs.take<|j+1).all id=jD from λh=>XR l (Aa t) h;have v:=Ab<|show bs[j]=jE->bs.all id=jE from λh=>AfD l h;have x:=Ab g;generalize c[j]=k at c0 c1 c2 c3 c4 n;generalize bs[j]=N at n u v;obtain⟨y,z,A,B,C,D,E,F,G⟩:=k;dsimp only at c0 c1 c2 c3 c4 n;clear hc g p l;have H:=a.trans<|d.mono a.size;have q:=AE wr<|Bu y z A B C D E F G;have O:=H.trans<|q.mono H.size;obtain⟨ak,d1,d2,d3,d4,_⟩:=Ap<|Ag.new wr #[jc X y,jc X z,jC A,Y B C D,Y E F G] 121;go_wp2_with fail
     refine(Aa n _ O).mono ?_;rintro r al ⟨rfl,hb3⟩;have I:=(d.trans<|q.mono d.size).trans<|hb3.mono<|zB d.size q.size;cases N with
     |false=>
      have f:=Ab<|Aa v rfl;go_wp2
      go_ret
      exact⟨by rw[Aa o,Aa f];rfl,a.trans<|I.mono a.size⟩
     |true=>
      have f:=Ab<|Aa u rfl;go_wp2
      go_roundw
      case rel=>exact⟨j+1,Aa x,O1,I,f⟩
      case measure=>have:=Aa x;simp[intOf];omega
    .have e:j=m:=Oa;subst e;have f:=Ab (show bs.all id=jD by rw[<-Aa t,zf<|by rw[Aa J];exact NLN]);go_wp2
     go_ret
     exact⟨by rw[Aa o,Aa f];rfl,a.trans<|d.mono a.size⟩
  .clear s;go_enter func59,ntmps59
   go_wp2_with fail
   generalize jK w (Bu op num text an nn cn ka m kc)=M at aa a K|-;go_loopw [21] (λi wr=>∃j:Nat,j<=m/\i=jc X j/\Ai M wr/\Hid ((bs.take j).all id=jD)) (λi _=>m-(intOf i).toNat)
   case atStart=>exact⟨0,zE _,rfl,BRN,Ab rfl⟩
   case round=>
    obtain⟨j,ag,rfl,d,t⟩:=hrel;by_cases g:j<m
    .have ah:(j:Int)<(m:Int):=Oa;have p:j<T c:=by rw[Aa ac];exact g
     have l:j<T bs:=by rw[Aa J];exact g
     obtain⟨b,ai,rfl,aj,hc⟩:=(K.below d NLN) j p;have c0:=hc 0 Ob;have c1:=hc 1 Ob;have c2:=hc 2 Ob;have c3:=hc 3 Ob;have c4:=hc 4 Ob;simp only[K5.cs,zX,Z3,Z4]at c0 c1 c2 c3 c4;have n:=Ab<|Aa ab j p l;have u:=Ab<|show bs[j]=jD->(bs.take<|j+1).all id=jD from λh=>XR l (Aa t) h;have v:=Ab<|show bs[j]=jE->bs.all id=jE from λh=>AfD l h;have x:=Ab g;generalize c[j]=k at c0 c1 c2 c3 c4 n;generalize bs[j]=N at n u v;obtain⟨y,z,A,B,C,D,E,F,G⟩:=k;dsimp only at c0 c1 c2 c3 c4 n;clear hc g p l;have H:=a.trans<|d.mono a.size;have q:=AE wr<|Bu y z A B C D E F G;have O:=H.trans<|q.mono H.size;obtain⟨ak,d1,d2,d3,d4,_⟩:=Ap<|Ag.new wr #[jc X y,jc X z,jC A,Y B C D,Y E F G] 121;go_wp2_with fail
     refine(Aa n _ O).mono ?_;rintro r al ⟨rfl,hb3⟩;have I:=(d.trans<|q.mono d.size).trans<|hb3.mono<|zB d.size q.size;cases N with
     |false=>
      have f:=Ab<|Aa v rfl;go_wp2
      go_ret
      exact⟨by rw[Aa o,Aa f];rfl,a.trans<|I.mono a.size⟩
     |true=>
      have f:=Ab<|Aa u rfl;go_wp2
      go_roundw
      case rel=>exact⟨j+1,Aa x,O1,I,f⟩
      case measure=>have:=Aa x;simp[intOf];omega
    .have e:j=m:=Oa;subst e;have f:=Ab (show bs.all id=jD by rw[<-Aa t,zf<|by rw[Aa J];exact NLN]);go_wp2
     go_ret
     exact⟨by rw[Aa o,Aa f];rfl,a.trans<|d.mono a.size⟩
def BoA (b:Bool) (w:jB) (r:Ending) (w':jB):Prop:=r=jN (.bool b)/\Ai w w'
theorem DY {e:Ex}(h:Tq w e k)(f:Bp e=jD):Calls jZ 126 #[jM #[V X k.op,V X k.num,jC k.text,Y k.an k.nn k.cn,Y k.ka k.kn k.kc]] w<|BoA e.bD w:=by
 have h0:=Zy f;rw[<-h.op]at h0;have b:=AE w<|CX k;by_cases c: 1<=k.op
 .by_cases d:k.op<=4
  .have a:e.bD=jD:=h0.trans<|zJ ⟨c,d⟩;rw[a];go_enter func126,ntmps126
   go_wp2
   go_ret
   exact⟨rfl,b⟩
  .have a:e.bD=jE:=h0.trans<|zH λe=>d e.2;rw[a];go_enter func126,ntmps126
   go_wp2
   go_ret
   exact⟨rfl,b⟩
 .have a:e.bD=jE:=h0.trans<|zH λe=>c e.1;rw[a];go_enter func126,ntmps126
  go_wp2
  go_ret
  exact⟨rfl,b⟩
theorem Ve {e:Ex}(h:Tq w e k)(f:Bp e=jD)(n:Int):Calls jZ 146 #[jM #[V X k.op,V X k.num,jC k.text,Y k.an k.nn k.cn,Y k.ka k.kn k.kc],V X n] w<|BoA (VH n e) w:=by
 have h0:=Aja (n:=n) f;rw[<-h.op,<-h.num]at h0;have d:=AE w<|CX k;by_cases a:k.op=1
 .have q1:(k.op==1)=jD:=zD.2 a;by_cases c:k.num=n
  .have g:(k.num==n)=jD:=zD.2 Oa;have b:VH n e=jD:=h0.trans (by rw[zJ a,zJ c];rfl);clear a c h0;rw[b];go_enter func146,ntmps146
   go_wp2
   go_ret
   exact⟨rfl,d⟩
  .have g:(k.num==n)=jE:=zA.2 Oa;have b:VH n e=jE:=h0.trans (by rw[zJ a,zH c];rfl);clear a c h0;rw[b];go_enter func146,ntmps146
   go_wp2
   go_ret
   exact⟨rfl,d⟩
 .have q1:(k.op==1)=jE:=zA.2 a;have b:VH n e=jE:=h0.trans (by rw[zH a];rfl);clear a h0;rw[b];go_enter func146,ntmps146
  go_wp2
  go_ret
  exact⟨rfl,d⟩
theorem FO {e:Ex}(h:Tq w e k)(i:Bp e=jD)(b:Bool)(z:Int)(g:z=if b then 1 else 0):Calls jZ 99 #[jM #[V X k.op,V X k.num,jC k.text,Y k.an k.nn k.cn,Y k.ka k.kn k.kc],V X z] w<|BoA (isB b e) w:=by
 have h0:=Ajb (b:=b) i;rw[<-h.op,<-h.num,<-g]at h0;clear g;have f:=AE w<|CX k;by_cases a:k.op=3
 .have q1:(k.op==3)=jD:=zD.2 a;by_cases d:k.num=z
  .have j:(k.num==z)=jD:=zD.2 Oa;have c:isB b e=jD:=h0.trans (by rw[zJ a,zJ d];rfl);clear a d h0;rw[c];go_enter func99,ntmps99
   go_wp2
   go_ret
   exact⟨rfl,f⟩
  .have j:(k.num==z)=jE:=zA.2 Oa;have c:isB b e=jE:=h0.trans (by rw[zJ a,zH d];rfl);clear a d h0;rw[c];go_enter func99,ntmps99
   go_wp2
   go_ret
   exact⟨rfl,f⟩
 .have q1:(k.op==3)=jE:=zA.2 a;have c:isB b e=jE:=h0.trans (by rw[zH a];rfl);clear a h0;rw[c];go_enter func99,ntmps99
  go_wp2
  go_ret
  exact⟨rfl,f⟩
theorem NU {e:Ex}(h:Tq w e k)(f:Bp e=jD):Calls jZ 145 #[jM #[V X k.op,V X k.num,jC k.text,Y k.an k.nn k.cn,Y k.ka k.kn k.kc]] w<|BoA (SY e) w:=by
 have h0:=Ajc f;rw[<-h.op,<-h.nn]at h0;have d:=AE w<|CX k;by_cases a:k.op=4
 .have q1:(k.op==4)=jD:=zD.2 a;by_cases c:k.nn=0
  .have g:((k.nn:Int)==0)=jD:=zD.2 Oa;have b:SY e=jD:=h0.trans (by rw[zJ a,zJ c];rfl);clear a c h0;rw[b];go_enter func145,ntmps145
   go_wp2
   go_ret
   exact⟨rfl,d⟩
  .have g:((k.nn:Int)==0)=jE:=zA.2 Oa;have b:SY e=jE:=h0.trans (by rw[zJ a,zH c];rfl);clear a c h0;rw[b];go_enter func145,ntmps145
   go_wp2
   go_ret
   exact⟨rfl,d⟩
 .have q1:(k.op==4)=jE:=zA.2 a;have b:SY e=jE:=h0.trans (by rw[zH a];rfl);clear a h0;rw[b];go_enter func145,ntmps145
  go_wp2
  go_ret
  exact⟨rfl,d⟩
set_option maxHeartbeats 800000
theorem Dx (w:jB)(a:L3):AO w a []:=λj h=>H9 h Ox
theorem Tq.leaf {e:Ex}(h:Tq w e k)(a:e.aD=[]):k.kn=0:=by cases e<;>first|exact h.2.2.2.1|cases a
theorem EH:∀(e:Ex) (k:K5) (w:jB),Tq w e k->Bp e=jD->Calls jZ 59 #[jM #[V X k.op,V X k.num,jC k.text,Y k.an k.nn k.cn,Y k.ka k.kn k.kc]] w (Rw (AK e) w)
 |.un i op c,k,w,h,ho=>by
  obtain⟨g,s,h3,u,h5,b,m,o⟩:=h;simp only[Bp,zF,zG]at ho;have e0:AK (.un i op c)=Fm k.op [AK c]:=by rw[AK,Fm,g,show decide (op=8\/(11<=op/\op<=16))=decide (op=8)from decide_eq_decide.2 Oa];simp
  rw[e0,h5];exact Dy k.op k.num k.text k.an k.nn k.cn k.ka 1 k.kc Ob [b] rfl [AK c] rfl w m (λj a1 a2 d f=>by
   match j,a1 with
   |0,_=>exact EH c b d (o.below f NLN) ho.2)
 |.bin i op l r,k,w,h,ho=>by
  obtain⟨g,s,h3,u,h5,b,p,m,o,q⟩:=h;simp only[Bp,zF,zG]at ho;have e0:AK (.bin i op l r)=Fm k.op [AK l,AK r]:=by rw[AK,Fm,g,show decide (op=8\/(11<=op/\op<=16))=decide (11<=op/\op<=16)from decide_eq_decide.2 Oa];simp
  rw[e0,h5];exact Dy k.op k.num k.text k.an k.nn k.cn k.ka 2 k.kc Ob [b,p] rfl [AK l,AK r] rfl w m (λj a1 a2 d f=>by
   match j,a1 with
   |0,_=>exact EH l b d (o.below f NLN) ho.2.1
   |1,_=>exact EH r p d (q.below f NLN) ho.2.2)
 |.ite i c t e,k,w,h,ho=>by
  obtain⟨g,s,h3,u,h5,b,p,v,m,o,q,x⟩:=h;simp only[Bp,zF]at ho;have e0:AK (.ite i c t e)=Fm k.op [AK c,AK t,AK e]:=by rw[AK,Fm,g];simp
  rw[e0,h5];exact Dy k.op k.num k.text k.an k.nn k.cn k.ka 3 k.kc Ob [b,p,v] rfl [AK c,AK t,AK e] rfl w m (λj a1 a2 d f=>by
   match j,a1 with
   |0,_=>exact EH c b d (o.below f NLN) ho.1
   |1,_=>exact EH t p d (q.below f NLN) ho.2.1
   |2,_=>exact EH e v d (x.below f NLN) ho.2.2)
 |.int i n,k,w,h,ho=>by
  have e0:AK (.int i n)=Fm k.op []:=by rw[h.op];rfl
  rw[e0,h.leaf rfl]
  simp_all[Dy,Dx]
 |.text i n,k,w,h,ho=>by
  have e0:AK (.text i n)=Fm k.op []:=by rw[h.op];rfl
  rw[e0,h.leaf rfl]
  simp_all[Dy,Dx]
 |.bool i n,k,w,h,ho=>by
  have e0:AK (.bool i n)=Fm k.op []:=by rw[h.op];rfl
  rw[e0,h.leaf rfl]
  simp_all[Dy,Dx]
 |.set i a n c ss,k,w,h,ho=>by
  have e0:AK (.set i a n c ss)=Fm k.op []:=by rw[h.op];rfl
  rw[e0,h.leaf rfl]
  simp_all[Dy,Dx]
 |.name i n,k,w,h,ho=>by
  have e0:AK (.name i n)=Fm k.op []:=by rw[h.op];rfl
  rw[e0,h.leaf rfl]
  simp_all[Dy,Dx]
 |.attr i n,k,w,h,ho=>by
  have e0:AK (.attr i n)=Fm k.op []:=by rw[h.op];rfl
  rw[e0,h.leaf rfl]
  simp_all[Dy,Dx]
 |.lett i n,k,w,h,ho=>by
  have e0:AK (.lett i n)=Fm k.op []:=by rw[h.op];rfl
  rw[e0,h.leaf rfl]
  simp_all[Dy,Dx]
theorem AhA (hx:Bp x=jD)(hy:Bp y=jD):sameL x y=(decide (FC x=FC y)&&(decide (FC x=6\/FC x=7)&&decide (Acm x=Acm y))):=by
 have no:∀{z:Ex},Bp z=jD->(FC z=6↔∃i n,z= .attr i n)/\(FC z=7↔∃i n,z= .lett i n):=λ{z} hz=>by
  cases z with
  |un i op k=>
    simp only[Bp,zF,zG]at hz;exact⟨⟨λe=>H9 (show op=6 from e) Oa,λ⟨_,_,e⟩=>O5⟩,⟨λe=>H9 (show op=7 from e) Oa,λ⟨_,_,e⟩=>O5⟩⟩
  |bin i op l r=>
    simp only[Bp,zF,zG]at hz;exact⟨⟨λe=>H9 (show op=6 from e) Oa,λ⟨_,_,e⟩=>O5⟩,⟨λe=>H9 (show op=7 from e) Oa,λ⟨_,_,e⟩=>O5⟩⟩
  |attr i n=>exact⟨⟨λ_=>⟨_,_,rfl⟩,λ_=>rfl⟩,⟨λe=>H9 (show(6 :Int)=7 from e) Ob,λ⟨_,_,e⟩=>O5⟩⟩
  |lett i n=>exact⟨⟨λe=>H9 (show(7 :Int)=6 from e) Ob,λ⟨_,_,e⟩=>O5⟩,⟨λ_=>⟨_,_,rfl⟩,λ_=>rfl⟩⟩
  |int i n=>exact⟨⟨λe=>H9 (show(1 :Int)=6 from e) Ob,λ⟨_,_,e⟩=>O5⟩,⟨λe=>H9 (show(1 :Int)=7 from e) Ob,λ⟨_,_,e⟩=>O5⟩⟩
  |text i n=>exact⟨⟨λe=>H9 (show(2 :Int)=6 from e) Ob,λ⟨_,_,e⟩=>O5⟩,⟨λe=>H9 (show(2 :Int)=7 from e) Ob,λ⟨_,_,e⟩=>O5⟩⟩
  |bool i n=>exact⟨⟨λe=>H9 (show(3 :Int)=6 from e) Ob,λ⟨_,_,e⟩=>O5⟩,⟨λe=>H9 (show(3 :Int)=7 from e) Ob,λ⟨_,_,e⟩=>O5⟩⟩
  |set i a n c ss=>exact⟨⟨λe=>H9 (show(4 :Int)=6 from e) Ob,λ⟨_,_,e⟩=>O5⟩,⟨λe=>H9 (show(4 :Int)=7 from e) Ob,λ⟨_,_,e⟩=>O5⟩⟩
  |name i n=>exact⟨⟨λe=>H9 (show(5 :Int)=6 from e) Ob,λ⟨_,_,e⟩=>O5⟩,⟨λe=>H9 (show(5 :Int)=7 from e) Ob,λ⟨_,_,e⟩=>O5⟩⟩
  |ite i c t e=>exact⟨⟨λe=>H9 (show(27 :Int)=6 from e) Ob,λ⟨_,_,e⟩=>O5⟩,⟨λe=>H9 (show(27 :Int)=7 from e) Ob,λ⟨_,_,e⟩=>O5⟩⟩
 by_cases he:FC x=FC y
 .by_cases b:FC x=6\/FC x=7
  .rw[zJ he,zJ b];obtain h|h:=b
   .obtain⟨i,n,rfl⟩:=(no hx).1.1 h;obtain⟨j,m,rfl⟩:=(no hy).1.1<|he ▸ h;show decide (m=n)=decide (n=m)
    grind
   .obtain⟨i,n,rfl⟩:=(no hx).2.1 h;obtain⟨j,m,rfl⟩:=(no hy).2.1<|he ▸ h;show decide (m=n)=decide (n=m)
    grind
  .rw[zH b,Bool.false_and,Bool.and_false];cases x<;>first|rfl|exact H9 (.inl rfl) b|exact H9 (.inr rfl) b
 .rw[zH he,Bool.false_and];cases x<;>cases y<;>first|rfl|exact H9 rfl he
theorem Rx {l:K5}(h:Tq w x k)(i:Tq w y l)(hx:Bp x=jD)(hy:Bp y=jD):Calls jZ 144 #[jM #[V X k.op,V X k.num,jC k.text,Y k.an k.nn k.cn,Y k.ka k.kn k.kc],jM #[V X l.op,V X l.num,jC l.text,Y l.an l.nn l.cn,Y l.ka l.kn l.kc]] w<|BoA (sameL x y) w:=by
 have h0:=AhA hx hy;rw[<-h.op,<-i.op,<-h.num,<-i.num]at h0;have g:=(AE w<|CX k).alloc Ox<|CX l;have j:=(Ag.new w #[V X k.op,V X k.num,jC k.text,Y k.an k.nn k.cn,Y k.ka k.kn k.kc] 121).alloc<|CX l;have c0:=j.cell 0;have c1:=j.cell 1;generalize sameL x y=b at h0|-;clear h i hx hy j;by_cases he:k.op=l.op
 .have n:(k.op==l.op)=jD:=zD.2 he;by_cases d:k.op=6
  .have o:(k.op==6)=jD:=zD.2 d;by_cases a:k.num=l.num
   .have m:(k.num==l.num)=jD:=zD.2 a;have c:b=jD:=h0.trans (by rw[zJ he,zJ<|.inl d,zJ a];rfl);clear h0 he d a;subst c;go_enter func144,ntmps144
    go_wp2
    go_ret
    exact⟨rfl,g⟩
   .have m:(k.num==l.num)=jE:=zA.2 a;have c:b=jE:=h0.trans (by rw[zJ he,zJ<|.inl d,zH a];rfl);clear h0 he d a;subst c;go_enter func144,ntmps144
    go_wp2
    go_ret
    exact⟨rfl,g⟩
  .have o:(k.op==6)=jE:=zA.2 d;by_cases f:k.op=7
   .have p:(k.op==7)=jD:=zD.2 f;by_cases a:k.num=l.num
    .have m:(k.num==l.num)=jD:=zD.2 a;have c:b=jD:=h0.trans (by rw[zJ he,zJ<|.inr f,zJ a];rfl);clear h0 he d f a;subst c;go_enter func144,ntmps144
     go_wp2
     go_ret
     exact⟨rfl,g⟩
    .have m:(k.num==l.num)=jE:=zA.2 a;have c:b=jE:=h0.trans (by rw[zJ he,zJ<|.inr f,zH a];rfl);clear h0 he d f a;subst c;go_enter func144,ntmps144
     go_wp2
     go_ret
     exact⟨rfl,g⟩
   .have p:(k.op==7)=jE:=zA.2 f;have c:b=jE:=h0.trans (by rw[zH<|show ¬ (k.op=6\/k.op=7)from λe=>e.elim d f,Bool.false_and,Bool.and_false]);clear h0 he d f;subst c;go_enter func144,ntmps144
    go_wp2
    go_ret
    exact⟨rfl,g⟩
 .have n:(k.op==l.op)=jE:=zA.2 he;have c:b=jE:=h0.trans (by rw[zH he];rfl);clear h0 he;subst c;go_enter func144,ntmps144
  go_wp2
  go_ret
  exact⟨rfl,g⟩
set_option maxHeartbeats 3200000
structure J5 where
 i:I5
 a:L3
 n:Nat
 c:Nat
def J5.cs (j:J5):L7:= [V X j.i.op,V X j.i.aY,V X j.i.val.aC,V X j.i.val.num,jC j.i.val.text,Y j.a j.n j.c]
theorem AdJ (a:List J5)(j:Nat)(h:j<T a):∀r,r<6->(a.flatMap J5.cs)[j*6+r]? =(a[j].cs)[r]? :=by
 induction a generalizing j with
 |nil=>simp at h
 |cons k a b=>
   intro r c;have d:T k.cs=6:=rfl
   grind
theorem Tr:∀(a:List J5),T (a.flatMap J5.cs)=T a*6:=by intro a;induction a<;>intros<;>grind [List.length_cons,zC,J5.cs]
def Qh (w:jB) (a:L3) (n c:Nat) (ss:L4):Prop:=Aq w a n c ss/\(a=U->c=0)
def Ov (w0:jB) (J:List J5):Prop:=∀j∈J,Qh w0 j.a j.n j.c j.i.val.aB
def BS (w0:jB) (B:Nat) (v:jF) (L:M9) (w:jB):Prop:=∃J:List J5,J.map J5.i=L/\Ov w0 J/\jO w B 133 6 v (T J) (J.flatMap J5.cs)
theorem BS.below {w0 w w':jB}{L:M9}(h:BS w0 B v L w)(a:Ai w w'):BS w0 B v L w':=by
 obtain⟨b,c,d,h3⟩:=h;exact⟨b,c,d,Aj h3 a NLN⟩
theorem BS.nil (w0:jB)(B:Nat)(w:jB):BS w0 B (Y U 0 0) [] w:=⟨[],rfl,λj a=>H9 a Ox,H3⟩
theorem Qh.bR (w:jB):Qh w U 0 0 []:=⟨⟨rfl,NLN,zE _,λj a=>H9 a Ox,λj a=>H9 a Ox⟩,λ_=>rfl⟩
def AR (op arg:Int):J5:=⟨⟨op,arg,Aw⟩,U,0,0⟩
theorem AdK:(jZ.info? 133).map (λi=>(i.zero,i.size,i.bytes))=Q (Q<|jM #[V X 0,V X 0,V X 0,V X 0,jC jW,Y U 0 0],6,72):=Oy
def JN (op:Int) (ns:N6):Nat:=1+ns.sum+(if op=25\/op=26 then 2 else if op=27 then 1 else 0)
theorem Ow:∀(ns:N6) (j:Nat),(ns.take j).sum<=ns.sum
 |[],j=>Ox
 |n ::ns,0=>Ox
 |n ::ns,j+1=>by have:=Ow ns j;simp only[List.take_succ_cons,List.sum_cons];omega
theorem AdL (op num:Int)(text:K9)(an:L3)(nn cn:Nat)(ka:L3)(m kc:Nat)(hm:m<=1048576)(a:M6)(B:T a=m)(ns:N6)(C:T ns=m)(D:ns.sum<=1048576)(w:jB)(E:AO w ka a)
  (V:∀j,(ao:j<T a)->(ap:j<T ns)->∀u,Ai w u->Calls jZ 103 #[jM #[jc X a[j].op,jc X a[j].num,jC a[j].text,Y a[j].an a[j].nn a[j].cn,Y a[j].ka a[j].kn a[j].kc]] u λr w'=>r=jN (jc X (ns[j]:Nat))/\Ai u w'):
  Calls jZ 103 #[jM #[jc X op,jc X num,jC text,Y an nn cn,Y ka m kc]] w λr w'=>r=jN (jc X (JN op ns:Nat))/\Ai w w':=by
 have F:=Ag.new w #[jc X op,jc X num,jC text,Y an nn cn,Y ka m kc] 121;have g:=AE w<|Bu op num text an nn cn ka m kc;have ag:=Ab V;have ah:=Ab B;have G:=Ab C;have H:=Ab D;have I:=E.below g NLN;clear V B C E D;go_enter func103,ntmps103
 go_wp2_with fail
 generalize jK w (Bu op num text an nn cn ka m kc)=ai at F g I|-;go_loopw [3,9] (λv i wr=>∃j:Nat,j<=m/\i=jc X j/\v=jc X (1+(ns.take j).sum:Nat)/\Ai ai wr) (λ_ i _=>m-(intOf i).toNat)
 case atStart=>exact⟨0,zE _,rfl,rfl,BRN⟩
 case round=>
  obtain⟨j,aq,rfl,rfl,d⟩:=hrel;by_cases o:j<m
  .have ar:(j:Int)<(m:Int):=Oa;have x:j<T a:=by rw[Aa ah];exact o
   have y:j<T ns:=by rw[Aa G];exact o
   obtain⟨b,au,rfl,av,hc⟩:=(I.below d NLN) j x;have c0:=hc 0 Ob;have c1:=hc 1 Ob;have c2:=hc 2 Ob;have c3:=hc 3 Ob;have c4:=hc 4 Ob;simp only[K5.cs,zX,Z3,Z4]at c0 c1 c2 c3 c4;have p:=Ab<|Aa ag j x y;have J:(ns.take<|j+1).sum=(ns.take j).sum+ns[j]:=by rw[zT y,List.sum_append];simp
   have K:(ns.take<|j+1).sum<=ns.sum:=Ow ns _;have n:=Ab<|K6 J<|zB K<|Aa H;have L:=Ab o;generalize a[j]=k at c0 c1 c2 c3 c4 p;generalize ns[j]=M at p n;generalize (ns.take j).sum=c at n|-;have N:((1+c:Nat):Int)<=1048577:=Hc
   have O:(0 :Int)<=((1+c:Nat):Int):=Oa;have aw:((1+c:Nat):Int)+(M:Int)<=1048577:=Hc;obtain⟨P,S,W,aa,ab,ac,ad,ae,af⟩:=k;dsimp only at c0 c1 c2 c3 c4 p;clear hc o x y J K;have f:=g.trans<|d.mono g.size;have z:=AE wr<|Bu P S W aa ab ac ad ae af;obtain⟨ax,d1,d2,d3,d4,_⟩:=Ap<|Ag.new wr #[jc X P,jc X S,jC W,Y aa ab ac,Y ad ae af] 121;go_wp2_with fail
   refine(Aa p _<|f.trans<|z.mono f.size).mono ?_;rintro r ay ⟨rfl,hb3⟩;have aj:=(d.trans<|z.mono d.size).trans<|hb3.mono<|zB d.size z.size;have ak:=Ab (show((1+c:Nat):Int)+(M:Int)=((1+(ns.take<|j+1).sum:Nat):Int) by rw[(Aa n).1];omega);go_wp2
   go_roundw
   case rel=>exact⟨j+1,Aa L,O1,by rw[<-Aa ak];first|rfl|(congr 1;omega),aj⟩
   case measure=>have:=Aa L;simp[intOf];omega
  .have e:j=m:=Oa;subst e;have l:=Ab (show(ns.take j).sum=ns.sum by rw[zf<|by rw[Aa G];exact NLN]);have N:((1+(ns.take j).sum:Nat):Int)<=1048577:=by have:=Aa l;have:=Aa H;omega
   have O:(0 :Int)<=((1+(ns.take j).sum:Nat):Int):=Oa;have al:=F.aA d NLN;obtain⟨az,aB,aC,aD,aE,_⟩:=Ap al;have f:=g.trans<|d.mono g.size;generalize (ns.take j).sum=c at l N O|-;by_cases q:op=25
   .subst q;go_wp2
    go_ret
    exact⟨by rw[Aa<|Ab<|show JN 25 ns=1+c+2 by rw[JN,H8<|.inl rfl,Aa l]];rfl,f⟩
   .by_cases s:op=26
    .subst s;go_wp2
     go_ret
     exact⟨by rw[Aa<|Ab<|show JN 26 ns=1+c+2 by rw[JN,H8<|.inr rfl,Aa l]];rfl,f⟩
    .have aF:(op==25)=jE:=zA.2 q;have aG:(op==26)=jE:=zA.2 s;by_cases t:op=27
     .subst t;have A:=Ab (show JN 27 ns=1+c+1 by rw[JN,H7 Ob,H8 rfl,Aa l]);go_wp2
      go_ret
      exact⟨by rw[Aa A];rfl,f⟩
     .have aH:(op==27)=jE:=zA.2 t;have A:=Ab (show JN op ns=1+c by rw[JN,H7 λh=>h.elim q s,H7 t,Aa l];rfl);clear q s t;go_wp2
      go_ret
      exact⟨by rw[Aa A];rfl,f⟩
end Go.Proofs.YtnjpihpohilnjaaGreatDoor
