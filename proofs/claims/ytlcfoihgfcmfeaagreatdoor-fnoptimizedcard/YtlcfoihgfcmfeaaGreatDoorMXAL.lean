import Derived.Test.YtlcfoihgfcmfeaaGreatDoorMXAC
open Option renaming none->V,some->Z
open List renaming length->Y
open Array renaming size->R
open Go renaming World->jD,Value->jF,Addr->jH,TypeId->jR
open Bool renaming true->jG,false->jI
namespace Go.Proofs.YtlcfoihgfcmfeaaGreatDoor
open Proofs.Tryz
open Value renaming int->T,int->ja,slice->X,string->jA,iface->jJ,agg->jL,pointer->jQ,tuple->jS,nilIface->jT
open IntKind renaming i64->U
open World renaming heap->Q,cell?->jE,alloc->jK
open Addr renaming mk->jB
open Obj renaming cells->jC
open Ending renaming returned->jN
open Proofs.Tryz renaming prog->jZ
set_option maxRecDepth 100000
open Go.RowKit
set_option linter.unusedVariables false
variable{op:Int}{vs:N4}{lo k c:Nat}{an:M3}{t:jR}{v:jF}{w w':jD}
def Mm(T:jR)(F G:FuncId)(v x:jF):Prop:=(∀w,(method 454 T v "loop.example/s01308/impl.kids").run jZ w=.ok (F,x) w)/\∀w,(method 454 T v "loop.example/s01308/impl.place").run jZ w=.ok (G,x) w
theorem Amy(h:t∈[195,198,179,201,233,202,175])(i:Int)(v:jF):Mm t 227 228 (jL #[T U i,v])<|T U i:=by simp only[zS,Z9,or_false]at h;obtain rfl|rfl|rfl|rfl|rfl|rfl|rfl:=h<;>exact⟨λ_=>Ok,λ_=>Ok⟩
theorem Um(A:Array jF):Mm 168 223 224 (jL A) (jL A)/\Mm 170 225 226 (jL A) (jL A)/\Mm 207 233 234 (jL A) (jL A):=by refine⟨⟨?_,?_⟩,⟨?_,?_⟩,?_,?_⟩<;>intro _<;>kernel_rfl
theorem XY(i n:Int):∀w,(method 454 195 (jL #[T U i,T U n]) "loop.example/s01308/impl.kids").run jZ w=.ok (227,T U i) w:=λ_=>Ok
theorem Un(i:Int)(s:M1):∀w,(method 454 198 (jL #[T U i,jA s]) "loop.example/s01308/impl.kids").run jZ w=.ok (227,T U i) w:=λ_=>Ok
theorem Uo(i:Int)(b:Bool):∀w,(method 454 179 (jL #[T U i,.bool b]) "loop.example/s01308/impl.kids").run jZ w=.ok (227,T U i) w:=λ_=>Ok
theorem XZ(i:Int)(a:M3)(n c:Nat):∀w,(method 454 201 (jL #[T U i,X a n c]) "loop.example/s01308/impl.kids").run jZ w=.ok (227,T U i) w:=λ_=>Ok
theorem AdL(i:Int)(a:M3)(n c:Nat):∀w,(method 454 201 (jL #[T U i,X a n c]) "loop.example/s01308/impl.place").run jZ w=.ok (228,T U i) w:=λ_=>Ok
theorem Up(i:Int)(s:M1):∀w,(method 454 233 (jL #[T U i,jA s]) "loop.example/s01308/impl.kids").run jZ w=.ok (227,T U i) w:=λ_=>Ok
theorem Uq(i n:Int):∀w,(method 454 202 (jL #[T U i,T U n]) "loop.example/s01308/impl.kids").run jZ w=.ok (227,T U i) w:=λ_=>Ok
theorem AaD(i n:Int):∀w,(method 454 202 (jL #[T U i,T U n]) "loop.example/s01308/impl.place").run jZ w=.ok (228,T U i) w:=λ_=>Ok
theorem Ur(i n:Int):∀w,(method 454 175 (jL #[T U i,T U n]) "loop.example/s01308/impl.kids").run jZ w=.ok (227,T U i) w:=λ_=>Ok
theorem AaE(i n:Int):∀w,(method 454 175 (jL #[T U i,T U n]) "loop.example/s01308/impl.place").run jZ w=.ok (228,T U i) w:=λ_=>Ok
theorem Aco(i op:Int)(t:jR)(u:jF):∀w,(method 454 168 (jL #[T U i,T U op,jJ t u]) "loop.example/s01308/impl.kids").run jZ w=.ok (223,jL #[T U i,T U op,jJ t u]) w:=λ_=>Ok
theorem Af5(i op:Int)(t:jR)(u:jF):∀w,(method 454 168 (jL #[T U i,T U op,jJ t u]) "loop.example/s01308/impl.place").run jZ w=.ok (224,jL #[T U i,T U op,jJ t u]) w:=λ_=>Ok
theorem X8(i op:Int)(t:jR)(u:jF)(a:jR)(b:jF):∀w,(method 454 170 (jL #[T U i,T U op,jJ t u,jJ a b]) "loop.example/s01308/impl.kids").run jZ w=.ok (225,jL #[T U i,T U op,jJ t u,jJ a b]) w:=λ_=>Ok
theorem AdM(i op:Int)(t:jR)(u:jF)(a:jR)(b:jF):∀w,(method 454 170 (jL #[T U i,T U op,jJ t u,jJ a b]) "loop.example/s01308/impl.place").run jZ w=.ok (226,jL #[T U i,T U op,jJ t u,jJ a b]) w:=λ_=>Ok
theorem Ya(i:Int)(t:jR)(u:jF)(a:jR)(b:jF)(c:jR)(d:jF):∀w,(method 454 207 (jL #[T U i,jJ t u,jJ a b,jJ c d]) "loop.example/s01308/impl.kids").run jZ w=.ok (233,jL #[T U i,jJ t u,jJ a b,jJ c d]) w:=λ_=>Ok
theorem AdN(i:Int)(t:jR)(u:jF)(a:jR)(b:jF)(c:jR)(d:jF):∀w,(method 454 207 (jL #[T U i,jJ t u,jJ a b,jJ c d]) "loop.example/s01308/impl.place").run jZ w=.ok (234,jL #[T U i,jJ t u,jJ a b,jJ c d]) w:=λ_=>Ok
theorem KM(i:Int)(w:jD):Calls jZ 227 #[T U i] w λa w'=>a=jN (X V 0 0)/\w'=w:=by go_enter func227,ntmps227;go_wp2;go_ret;exact⟨rfl,rfl⟩
theorem Gp(i:Int)(w:jD):Calls jZ 228 #[T U i] w λa w'=>a=jN (T U i)/\w'=w:=by go_enter func228,ntmps228;go_wp2;go_ret;exact⟨rfl,rfl⟩
def AiV(w:jD)(vs:N4)(n:Nat)(r:Ending)(w':jD):Prop:=∃g,r=jN (X (Z<|jB g 0 V) n n)/\R (Q w)<=g/\Ah w' g vs.toArray 86/\Ak w w'
theorem LC(i op:Int)(t:jR)(u:jF)(w:jD):Calls jZ 223 #[jL #[T U i,T U op,jJ t u]] w<|AiV w [jJ t u] 1:=by have a:=Ar w<|jC #[T U i,T U op,jJ t u] 168;have b:=Ah.new (jK w<|jC #[T U i,T U op,jJ t u] 168) #[jJ t u] 86;simp only[K6]at b;go_enter func223,ntmps223;go_wp2;go_ret;exact⟨R (Q w)+1,rfl,zQ _,b,a.alloc a.size _⟩
theorem Pi(i op:Int)(t:jR)(u:jF)(w:jD):Calls jZ 224 #[jL #[T U i,T U op,jJ t u]] w λa w'=>a=jN (T U i)/\Ak w w':=by have b:=Ar w<|jC #[T U i,T U op,jJ t u] 168;go_enter func224,ntmps224;go_wp2;go_ret;exact⟨rfl,b⟩
theorem J4(i op:Int)(t:jR)(u:jF)(a:jR)(b:jF)(w:jD):Calls jZ 225 #[jL #[T U i,T U op,jJ t u,jJ a b]] w<|AiV w [jJ t u,jJ a b] 2:=by have c:=Ar w<|jC #[T U i,T U op,jJ t u,jJ a b] 170;have d:=Ah.new (jK w<|jC #[T U i,T U op,jJ t u,jJ a b] 170) #[jJ t u,jJ a b] 86;simp only[K6]at d;go_enter func225,ntmps225;go_wp2;go_ret;exact⟨R (Q w)+1,rfl,zQ _,d,c.alloc c.size _⟩
theorem MO(i op:Int)(t:jR)(u:jF)(a:jR)(b:jF)(w:jD):Calls jZ 226 #[jL #[T U i,T U op,jJ t u,jJ a b]] w λc w'=>c=jN (T U i)/\Ak w w':=by have d:=Ar w<|jC #[T U i,T U op,jJ t u,jJ a b] 170;go_enter func226,ntmps226;go_wp2;go_ret;exact⟨rfl,d⟩
theorem J5(i:Int)(t:jR)(u:jF)(a:jR)(b:jF)(c:jR)(d:jF)(w:jD):Calls jZ 233 #[jL #[T U i,jJ t u,jJ a b,jJ c d]] w<|AiV w [jJ t u,jJ a b,jJ c d] 3:=by have f:=Ar w<|jC #[T U i,jJ t u,jJ a b,jJ c d] 207;have g:=Ah.new (jK w<|jC #[T U i,jJ t u,jJ a b,jJ c d] 207) #[jJ t u,jJ a b,jJ c d] 86;simp only[K6]at g;go_enter func233,ntmps233;go_wp2;go_ret;exact⟨R (Q w)+1,rfl,zQ _,g,f.alloc f.size _⟩
theorem MP(i:Int)(t:jR)(u:jF)(a:jR)(b:jF)(c:jR)(d:jF)(w:jD):Calls jZ 234 #[jL #[T U i,jJ t u,jJ a b,jJ c d]] w λf w'=>f=jN (T U i)/\Ak w w':=by have g:=Ar w<|jC #[T U i,jJ t u,jJ a b,jJ c d] 207;go_enter func234,ntmps234;go_wp2;go_ret;exact⟨rfl,g⟩
def Ex.pos:Ex->Int|.int i _|.text i _|.bool i _|.set i ..|.name i _|.attr i _|.lett i _|.un i ..|.bin i ..|.ite i ..=>i
theorem BL{P:Program}{f:FuncId}{fn:Func}(hf:P.funcs[f]?=Z fn)(b:(fn.name== "runtime.NumGoroutine")=jI)(a:fn.body.isNone=jI)(args:Array jF)(w:jD):(callFunc f args).run P w=.ok (.enter f args) w:=by
 have h1:fn.name≠ "runtime.NumGoroutine":=G6;have h3:fn.body≠V:=λe=>by rw[e]at a;cases a
 simp[callFunc,hf,h1,h3]
def MtX(nm:String)(T:jR)(v:jF)(Q:jD->Ending->jD->Prop):Prop:=∃F x fn,(∀w,(method 454 T v nm).run jZ w=.ok (F,x) w)/\(jZ.funcs[F]?=Z fn/\(fn.name== "runtime.NumGoroutine")=jI/\fn.body.isNone=jI)/\∀w,Calls jZ F #[x] w<|Q w
def KdR(lo:Nat)(w:jD)(a:M3)(vs:N4):Prop:=vs=[]\/∃g,a=Z (jB g 0 V)/\lo<=g/\Ah w g vs.toArray 86
theorem KdR.aV{a:M3}(h:KdR lo w a vs)(k:∀g cs,lo<=g->Ah w g cs 86->Ah w' g cs 86):KdR lo w' a vs:=h.imp id λ⟨g,e,l,b⟩=>⟨g,e,l,k g _ l b⟩
theorem KdR.at{a:M3}(h:KdR lo w a vs)(b:k<Y vs):∃g,a=Z (jB g 0 V)/\jE w (jB g k V)=Z vs[k]:=by
 obtain h|⟨g,e,_,c⟩:=h
 .rw[h]at b;cases b
 refine⟨g,e,(c.cell k).trans ?_⟩;rw[List.getElem?_toArray];exact zE b
def KdA(vs:N4)(w:jD)(r:Ending)(w':jD):Prop:=∃a,r=jN (X a (Y vs)<|Y vs)/\KdR (R<|Q w) w' a vs/\Ak w w'
def Anq(i:Int)(w:jD)(r:Ending)(w':jD):Prop:=r=jN (T U i)/\Ak w w'
abbrev KdX(T:jR)(v:jF)(vs:N4):Prop:=MtX "loop.example/s01308/impl.kids" T v (KdA vs)
abbrev PlX(T:jR)(v:jF)(i:Int):Prop:=MtX "loop.example/s01308/impl.place" T v (Anq i)
theorem Wj{a:Ending}(h:AiV w vs (Y vs) a w'):KdA vs w a w':=by obtain⟨g,h1,h2,h3,h4⟩:=h;exact⟨_,h1,.inr ⟨g,rfl,h2,h3⟩,h4⟩
theorem AmW{T:jR}{i:Int}(h:Mm T 227 228 v<|ja U i):KdX T v []/\PlX T v i:=⟨⟨_,_,_,h.1,⟨func227,Ok,Ok⟩,λw=>(KM i w).mono λa w' h=>⟨V,h.1,.inl rfl,by rw[h.2];exact BRN⟩⟩,⟨_,_,_,h.2,⟨func228,Ok,Ok⟩,λw=>(Gp i w).mono λa w' h=>⟨h.1,by rw[h.2];exact BRN⟩⟩⟩
theorem Ex.dJ(e:Ex):∀k∈e.aC,k.aL<e.aL:=by cases e<;>simp[Ex.aC,Ex.aL]<;>omega
theorem Ex.dP(e:Ex):Y e.aC<=3:=by cases e<;>simp[Ex.aC]
theorem Ex.mth(e:Ex):∃T v,e.val=jJ T v/\KdX T v (e.aC.map Ex.val)/\PlX T v e.pos:=by cases e with|int|text|bool|set|attr|lett|name=>exact⟨_,_,rfl,AmW<|Amy Ob _ _⟩|un i op k=>obtain⟨a,b,c⟩:=k.form;simp only[Ex.val,Ex.aC,List.map,c];exact⟨_,_,rfl,⟨_,_,_,(Um _).1.1,⟨func223,Ok,Ok⟩,λw=>(LC i op a b w).mono λg w' h=>Wj h⟩,⟨_,_,_,(Um _).1.2,⟨func224,Ok,Ok⟩,Pi i op a b⟩⟩|bin i op k l=>obtain⟨a,b,c⟩:=k.form;obtain⟨d,ul,f⟩:=l.form;simp only[Ex.val,Ex.aC,List.map,c,f];exact⟨_,_,rfl,⟨_,_,_,(Um _).2.1.1,⟨func225,Ok,Ok⟩,λw=>(J4 i op a b d ul w).mono λg w' h=>Wj h⟩,⟨_,_,_,(Um _).2.1.2,⟨func226,Ok,Ok⟩,MO i op a b d ul⟩⟩|ite i k l m=>obtain⟨a,b,c⟩:=k.form;obtain⟨d,ul,f⟩:=l.form;obtain⟨j,n,o⟩:=m.form;simp only[Ex.val,Ex.aC,List.map,c,f,o];exact⟨_,_,rfl,⟨_,_,_,(Um _).2.2.1,⟨func233,Ok,Ok⟩,λw=>(J5 i a b d ul j n w).mono λg w' h=>Wj h⟩,⟨_,_,_,(Um _).2.2.2,⟨func234,Ok,Ok⟩,MP i a b d ul j n⟩⟩
def NP(S:jR)(v:jF)(T:jR)(z:jF):Prop:=∀w,(Instr.typeAssert (jJ S v) 86 T jG).run jZ w=.ok (jS<|if S=T then #[v,.bool jG]else #[z,.bool jI]) w
theorem taF{T:jR}{a:Array Field}{z:jF}(S:jR)(v:jF)(hu:jZ.underlying T=Z (.struct a))(hz:∀w,(zeroValue T).run jZ w=.ok z w):NP S v T z:=λw=>by
 by_cases h:S=T
 .subst h;rw[K1 rfl];exact CK hu _ v w
 rw[K0 h];exact AI hu hz h _ v w
theorem tas(S:jR)(v:jF):NP S v 195 (jL #[T U 0,T U 0])/\NP S v 198 (jL #[T U 0,jA ⟨#[]⟩])/\NP S v 179 (jL #[T U 0,.bool jI])/\NP S v 201 (jL #[T U 0,X V 0 0])/\NP S v 233 (jL #[T U 0,jA ⟨#[]⟩])/\NP S v 202 (jL #[T U 0,T U 0])/\NP S v 175 (jL #[T U 0,T U 0])/\NP S v 168 (jL #[T U 0,T U 0,jT])/\NP S v 170 (jL #[T U 0,T U 0,jT,jT])/\NP S v 207 (jL #[T U 0,jT,jT,jT]):=⟨taF S v underlying195 zeroValue195,taF S v underlying198 zeroValue198,taF S v underlying179 zeroValue179,taF S v underlying201 zeroValue201,taF S v underlying233 zeroValue233,taF S v underlying202 zeroValue202,taF S v underlying175 zeroValue175,taF S v underlying168 zeroValue168,taF S v underlying170 zeroValue170,taF S v underlying207 zeroValue207⟩
set_option maxHeartbeats 6400000
def Jy:List<|Int×Int×Int×Int:=[(8,2,0,2),(9,1,0,1),(10,4,0,2),(11,2,2,2),(12,2,2,2),(13,2,2,2),(14,2,2,2),(15,2,2,2),(16,4,4,4),(17,4,4,4),(18,4,4,4),(21,2,2,1),(22,2,2,1),(23,3,4,1),(24,4,4,1),(25,1,1,1),(26,1,1,1)]
def AaC(op l r:Int)(s:Int×Int×Int×Int):Bool:=s.1==op&&(s.2.1==l&&s.2.2.1==r)
def opT(op l r:Int):N8:=if op=19\/op=20 then (if l=r then Z 1 else V)else (Jy.find?<|AaC op l r).map λs=>s.2.2.2
def XV:Array jF:=#[T U 8,T U 2,T U 0,T U 2,T U 9,T U 1,T U 0,T U 1,T U 10,T U 4,T U 0,T U 2,T U 11,T U 2,T U 2,T U 2,T U 12,T U 2,T U 2,T U 2,T U 13,T U 2,T U 2,T U 2,T U 14,T U 2,T U 2,T U 2,T U 15,T U 2,T U 2,T U 2,T U 16,T U 4,T U 4,T U 4,T U 17,T U 4,T U 4,T U 4,T U 18,T U 4,T U 4,T U 4,T U 21,T U 2,T U 2,T U 1,T U 22,T U 2,T U 2,T U 1,T U 23,T U 3,T U 4,T U 1,T U 24,T U 4,T U 4,T U 1,T U 25,T U 1,T U 1,T U 1,T U 26,T U 1,T U 1,T U 1]
theorem AfY:∀k,k<17->XV.extract (k*4) (k*4+4)=#[T U (Jy.getD k (0,0,0,0)).1,T U (Jy.getD k (0,0,0,0)).2.1,T U (Jy.getD k (0,0,0,0)).2.2.1,T U (Jy.getD k (0,0,0,0)).2.2.2]|0,_=>rfl|1,_=>rfl|2,_=>rfl|3,_=>rfl|4,_=>rfl|5,_=>rfl|6,_=>rfl|7,_=>rfl|8,_=>rfl|9,_=>rfl|10,_=>rfl|11,_=>rfl|12,_=>rfl|13,_=>rfl|14,_=>rfl|15,_=>rfl|16,_=>rfl|n+17,h=>K4 h Oa
def AfZ:Array jF:=#[jA ⟨#[99,108,105,101,110,116]⟩,T U 3,jA ⟨#[117,115,101,114]⟩,T U 3,jA ⟨#[108,101,118,101,108]⟩,T U 2,jA ⟨#[110,111,119]⟩,T U 2,jA ⟨#[97,115,107,101,100]⟩,T U 4,jA ⟨#[97,103,114,101,101,100]⟩,T U 4]
structure OQ(w:jD)(aT:jH):Prop where s:9<R (Q w)sc:∀k,jE w ⟨9,k,V⟩=XV[k]?a:0<R (Q w)ac:∀k,jE w ⟨0,k,V⟩=AfZ[k]?e:5<R (Q w)ec:jE w ⟨5,0,V⟩=Z (jJ 313<|jQ<|Z aT)
theorem OQ.below{aT:jH}{B:Nat}(h:OQ w aT)(b:Below B w w')(hB:R (Q w)<=B):OQ w' aT:=⟨zG h.s b.size,λk=>(b.cell (p:=⟨9,k,V⟩)<|zG h.s hB).trans<|h.sc k,zG h.a b.size,λk=>(b.cell (p:=⟨0,k,V⟩)<|zG h.a hB).trans<|h.ac k,zG h.e b.size,(b.cell (p:=⟨5,0,V⟩)<|zG h.e hB).trans h.ec⟩
def AiR(b:Bool)(aT:jH):jF:=match b with|true=>jT|false=>jJ 313 (jQ<|Z aT)
def Af0(o:N8)(aT:jH)(e:Ending):Prop:=e=jN (jS #[T U<|o.getD 0,AiR o.isSome aT])
theorem Acm(p:Int×Int×Int×Int->Bool):∀(l:List<|Int×Int×Int×Int)(k:Nat)(h:k<Y l),(∀j,j<k->(a:j<Y l)->p l[j]=jI)->p l[k]=jG->l.find? p=Z l[k]|x::l,0,_,_,hp=>by simp at hp;simp[List.find?,hp]|x::l,k+1,h,hn,hp=>by have h0:=hn 0 Oa Oz;simp at h0;rw[List.find?_cons_of_neg<|by simp[h0]];have:=Acm p l k P4 (λj a b=>by have:=hn (j+1) Oa G6;simpa using this) (by simpa using hp);simpa using this
theorem AiS(p:Int×Int×Int×Int->Bool)(l:List<|Int×Int×Int×Int)(h:∀j,(a:j<Y l)->p l[j]=jI):l.find? p=V:=by rw[List.find?_eq_none];intro x hx;obtain⟨j,a,rfl⟩:=zk hx;rw[h j a];decide
theorem GZ(op l a:Int)(aT:jH)(w:jD)(h:OQ w aT):Calls jZ 180 #[T U op,T U l,T U a] w λe w'=>Af0 (opT op l a) aT e/\Ak w w':=by
 have ec:=h.ec;have C:=Ab h.sc;have G:=Ab h.e;by_cases d:op=19\/op=20
 .by_cases f:l=a
  .have r:=Ab (show opT op l a=Z 1 by rw[opT,K1 d,K1 f]);have H:(l !=a)=jI:=by simp[f]
   have I:(l==a)=jG:=zD.2 f;clear h;obtain rfl|rfl:=d;all_goals subst f;go_enter func180,ntmps180;go_wp2;exact K8 (v:=jS #[T U 1,jT]) D9 rfl ⟨by rw[Aa r];rfl,BRN⟩
  have r:=Ab (show opT op l a=V by rw[opT,K1 d,K0 f]);have H:(l !=a)=jG:=zW.2 f;have I:(l==a)=jI:=zA.2 f;clear h f;obtain rfl|rfl:=d;all_goals go_enter func180,ntmps180;go_wp2_with fail;go_region;all_goals go_wp2;exact K8 (v:=jS #[T U 0,jJ 313<|jQ<|Z aT]) D9 rfl ⟨by rw[Aa r];rfl,BRN.drew⟩
 have M:(op==19)=jI:=zA.2 λe=>d<|.inl e;have N:(op==20)=jI:=zA.2 λe=>d<|.inr e;have r:=Ab (show opT op l a=(Jy.find?<|AaC op l a).map (λs=>s.2.2.2)by rw[opT,K0 d]);clear h d;go_enter func180,ntmps180;go_wp2_with (refine EF rfl 305 _ rfl 9 rfl XV _ (Aa C) underlying305 rfl Ok ?_);clear C;have O:Y Jy=17:=rfl;go_loopw[21] (λi wr=>∃k:Nat,k<=17/\i=T U k/\Ak w wr/\∀j,j<k->(u:j<Y Jy)->AaC op l a Jy[j]=jI) (λi _=>17-(intOf i).toNat);case atStart=>exact⟨0,Oa,rfl,BRN,λj h=>K4 h Oa⟩
 obtain⟨k,P,rfl,x,D⟩:=hrel;have t:=Ab D;clear D;have S:=(x.cell (p:=⟨5,0,V⟩)<|Aa G).trans ec;by_cases z:k<17
 .have W:(k:Int)<17:=Oa;have E:k<Y Jy:=Oa;have n:=Ab<|AfY k z;have b:=Ab z;have hg:Jy.getD k (0,0,0,0)=Jy[k]:=by rw[List.getD,zE E];rfl
  rw[hg]at n;have g:=Ab (show AaC op l a Jy[k]=jI->∀j,j<k+1->(u:j<Y Jy)->AaC op l a Jy[j]=jI from λe j u J=>by
   by_cases K:j=k
   .subst K;exact e
   exact Aa t j Oa J);have o:=Ab (show AaC op l a Jy[k]=jG->opT op l a=Z Jy[k].2.2.2 from λe=>by rw[Aa r,Acm _ _ k E (Aa t) e];rfl);clear z hg t;generalize Jy[k]=s at n g o;obtain⟨q,s1,s2,A⟩:=s;simp only at n o;have y:=x.alloc x.size<|jC #[T U q,T U s1,T U s2,T U A] 304;have m:AaC op l a (q,s1,s2,A)=(q==op&&(s1==l&&s2==a)):=rfl;by_cases h0:q=op
  .by_cases h1:s1=l
   .by_cases h2:s2=a
    .subst h0 h1 h2;have c:=Ab (Aa o<|by rw[m];simp);clear o g m;go_wp2_with (refine BT rfl 305 _ _ rfl XV rfl k rfl 17 304 underlying305 (Aa b) _ underlying304 rfl 4 Ok _ (Aa n) ?_);exact K8 (v:=jS #[T U A,jT]) D9 rfl ⟨by rw[Aa c];rfl,y⟩
    have B:(q==op)=jG:=zD.2 h0;have F:(s1==l)=jG:=zD.2 h1;have L:(s2==a)=jI:=zA.2 h2;have c:=Ab (Aa g<|by rw[m,L];simp);clear o g m h0 h1 h2;go_wp2_with (refine BT rfl 305 _ _ rfl XV rfl k rfl 17 304 underlying305 (Aa b) _ underlying304 rfl 4 Ok _ (Aa n) ?_);go_roundw;case rel=>exact⟨k+1,Aa b,O0,y,Aa c⟩
    have:=Aa b;simp[intOf];omega
   have B:(q==op)=jG:=zD.2 h0;have F:(s1==l)=jI:=zA.2 h1;have c:=Ab (Aa g<|by rw[m,F];simp);clear o g m h0 h1;go_wp2_with (refine BT rfl 305 _ _ rfl XV rfl k rfl 17 304 underlying305 (Aa b) _ underlying304 rfl 4 Ok _ (Aa n) ?_);go_roundw;case rel=>exact⟨k+1,Aa b,O0,y,Aa c⟩
   have:=Aa b;simp[intOf];omega
  have B:(q==op)=jI:=zA.2 h0;have c:=Ab (Aa g<|by rw[m,B];simp);clear o g m h0;go_wp2_with (refine BT rfl 305 _ _ rfl XV rfl k rfl 17 304 underlying305 (Aa b) _ underlying304 rfl 4 Ok _ (Aa n) ?_);go_roundw;case rel=>exact⟨k+1,Aa b,O0,y,Aa c⟩
  have:=Aa b;simp[intOf];omega
 have e:k=17:=Oa;subst e;have c:=Ab (show opT op l a=V by rw[Aa r,AiS _ _ λj u=>Aa t j Oa u];rfl);clear t;go_wp2_with fail;go_region;all_goals go_wp2;exact K8 (v:=jS #[T U 0,jJ 313<|jQ<|Z aT]) D9 rfl ⟨by rw[Aa c];rfl,x.drew⟩
theorem AkW(h:8<=op/\op<=10)(a:Int)(b:1<=a/\a<=4):opT op a 0=nz (Ba op [a]):=by have h1:op=8\/op=9\/op=10:=Oa;have h2:a=1\/a=2\/a=3\/a=4:=Oa;obtain rfl|rfl|rfl:=h1<;>obtain rfl|rfl|rfl|rfl:=h2<;>decide
theorem AiT(h:11<=op/\op<=26)(a b:Int)(c:1<=a/\a<=4)(d:1<=b/\b<=4):opT op a b=nz (Ba op [a,b]):=by have h1:op=11\/op=12\/op=13\/op=14\/op=15\/op=16\/op=17\/op=18\/op=19\/op=20\/op=21\/op=22\/op=23\/op=24\/op=25\/op=26:=Oa;have h2:a=1\/a=2\/a=3\/a=4:=Oa;have h3:b=1\/b=2\/b=3\/b=4:=Oa;obtain rfl|rfl|rfl|rfl|rfl|rfl|rfl|rfl|rfl|rfl|rfl|rfl|rfl|rfl|rfl|rfl:=h1<;>obtain rfl|rfl|rfl|rfl:=h2<;>obtain rfl|rfl|rfl|rfl:=h3<;>decide
theorem QW(a b c:Int)(aT:jH)(w:jD)(h:OQ w aT)(g:1<=b/\b<=4):Calls jZ 181 #[T U a,T U b,T U c] w λe w'=>Af0 (nz<|Ba 27 [a,b,c]) aT e/\Ak w w':=by
 have ec:=h.ec;have d:=Ab (show nz (Ba 27 [a,b,c])=if a=1/\b=c then Z b else V by
  rw[Ba,nz];by_cases h1:a=1/\b=c
  .rw[K1 h1,K0 Oa,K1 h1]
  rw[K0 h1,K1 rfl,K0 h1]);clear h;by_cases h1:a=1
 .have e1:(a !=1)=jI:=by simp[h1]
  by_cases h2:b=c
  .have e2:(b !=c)=jI:=by simp[h2]
   have f:=Ab<|(Aa d).trans<|K1 ⟨h1,h2⟩;clear h1 h2 d;go_enter func181,ntmps181;go_wp2;exact K8 (v:=jS #[T U b,jT]) (by simp[results,results181,go_sem]) rfl ⟨by rw[Aa f];rfl,BRN⟩
  have e2:(b !=c)=jG:=zW.2 h2;have f:=Ab<|(Aa d).trans<|K0 λk=>h2 k.2;clear h1 h2 d;go_enter func181,ntmps181;go_wp2_with fail;go_region;all_goals go_wp2;exact K8 (v:=jS #[T U 0,jJ 313<|jQ<|Z aT]) (by simp[results,results181,go_sem]) rfl ⟨by rw[Aa f];rfl,BRN.drew⟩
 have e1:(a !=1)=jG:=zW.2 h1;have f:=Ab<|(Aa d).trans<|K0 λk=>h1 k.1;clear h1 d;go_enter func181,ntmps181;go_wp2_with fail;go_region;all_goals go_wp2;exact K8 (v:=jS #[T U 0,jJ 313<|jQ<|Z aT]) (by simp[results,results181,go_sem]) rfl ⟨by rw[Aa f];rfl,BRN.drew⟩
set_option maxHeartbeats 3200000
structure Trs(w:jD)(a:M3)(n c:Nat)(Es:M8):Prop where
 len:Y Es=n
 aH:n<=1048576
 cells:∀j,(h:j<Y Es)->∃b off,a=Z (jB b off V)/\b<R (Q w)/\jE w ⟨b,off+j,V⟩=Z Es[j].val
theorem Trs.below{B:Nat}{a:M3}{n:Nat}{L:M8}(h:Trs w a n c L)(d:Below B w w')(hB:R (Q w)<=B):Trs w' a n c L:=⟨h.len,h.aH,λj g=>by obtain⟨b,f,i,k,c0⟩:=h.cells j g;exact⟨b,f,i,zG k d.size,(d.cell (p:=⟨b,f+j,V⟩) (Oa:b<B)).trans c0⟩⟩
theorem Trs.get{a:M3}{n c:Nat}{L:M8}(h:Trs w a n c L){k:Nat}{e:Ex}(f:L[k]?=Z e):∃b d,a=Z (jB b d V)/\b<R (Q w)/\jE w ⟨b,d+k,V⟩=Z e.val/\k<n:=by obtain⟨h1,h2⟩:=zL.1 f;obtain⟨b,d,g,i,c0⟩:=h.cells k h1;exact⟨b,d,g,i,by rw[c0,h2],by rw[<-h.len];exact h1⟩
inductive MkT(Es:M8)(i:Nat)(x:Nd)(an:Option jH)(nn cn:Nat):Ex->Prop|int(ho:x.op=1):MkT Es i x an nn cn<|.int i x.num|text(ho:x.op=2):MkT Es i x an nn cn<|.text i x.text|bool(ho:x.op=3):MkT Es i x an nn cn<|.bool i<|decide (x.num=1)|set(ho:x.op=4):MkT Es i x an nn cn<|.set i an nn cn x.aE|name(ho:x.op=5):MkT Es i x an nn cn<|.name i x.text|attr(ho:x.op=6):MkT Es i x an nn cn<|.attr i x.num|lett(ho:x.op=7):MkT Es i x an nn cn<|.lett i x.num|un{k:Nat}{e:Ex}(ho:8<=x.op/\x.op<=10)(hk:x.aC=[(k:Int)])(h1:Es[k]?=Z e):MkT Es i x an nn cn<|.un i x.op e|bin{k l:Nat}{e f:Ex}(ho:11<=x.op/\x.op<=26)(hk:x.aC=[(k:Int),(l:Int)])(h1:Es[k]?=Z e)(h2:Es[l]?=Z f):MkT Es i x an nn cn<|.bin i x.op e f|ite{k l m:Nat}{e f g:Ex}(ho:x.op=27)(hk:x.aC=[(k:Int),(l:Int),(m:Int)])(h1:Es[k]?=Z e)(h2:Es[l]?=Z f)(h3:Es[m]?=Z g):MkT Es i x an nn cn<|.ite i e f g
theorem Abp(i:Nat)(op num:Int)(text:M1)(an:M3)(nn cn:Nat)(b:M3)(d f:Nat)(a:M3)(m c:Nat)(w:jD)(g:op=1):Calls jZ 99 #[jL #[T U op,T U num,jA text,X an nn cn,X b d f],T U i,X a m c] w λh w'=>h=jN (jJ 195<|jL #[T U i,T U num])/\Ak w w':=by subst g;have j:=Ar w<|CW 1 num text an nn cn b d f;go_enter func99,ntmps99;go_wp2;go_ret;exact⟨rfl,j⟩
theorem YX(i:Nat)(op num:Int)(text:M1)(an:M3)(nn cn:Nat)(b:M3)(d f:Nat)(a:M3)(m c:Nat)(w:jD)(g:op=2):Calls jZ 99 #[jL #[T U op,T U num,jA text,X an nn cn,X b d f],T U i,X a m c] w λh w'=>h=jN (jJ 198<|jL #[T U i,jA text])/\Ak w w':=by subst g;have j:=Ar w<|CW 2 num text an nn cn b d f;go_enter func99,ntmps99;go_wp2;go_ret;exact⟨rfl,j⟩
theorem YY(i:Nat)(op num:Int)(text:M1)(an:M3)(nn cn:Nat)(d:M3)(f g:Nat)(a:M3)(m c:Nat)(w:jD)(j:op=3):Calls jZ 99 #[jL #[T U op,T U num,jA text,X an nn cn,X d f g],T U i,X a m c] w λk w'=>k=jN (jJ 179<|jL #[T U i,.bool<|decide (num=1)])/\Ak w w':=by
 subst j;have h:=Ar w<|CW 3 num text an nn cn d f g;by_cases b:num=1
 .have l:(num==1)=jG:=zD.2 b;rw[zc b];clear b;go_enter func99,ntmps99;go_wp2;go_ret;exact⟨rfl,h⟩
 have l:(num==1)=jI:=zA.2 b;rw[za b];clear b;go_enter func99,ntmps99;go_wp2;go_ret;exact⟨rfl,h⟩
theorem Abq(i:Nat)(op num:Int)(text:M1)(an:M3)(nn cn:Nat)(b:M3)(d f:Nat)(a:M3)(m c:Nat)(w:jD)(g:op=4):Calls jZ 99 #[jL #[T U op,T U num,jA text,X an nn cn,X b d f],T U i,X a m c] w λh w'=>h=jN (jJ 201<|jL #[T U i,X an nn cn])/\Ak w w':=by subst g;have j:=Ar w<|CW 4 num text an nn cn b d f;go_enter func99,ntmps99;go_wp2;go_ret;exact⟨rfl,j⟩
theorem YZ(i:Nat)(op num:Int)(text:M1)(an:M3)(nn cn:Nat)(b:M3)(d f:Nat)(a:M3)(m c:Nat)(w:jD)(g:op=5):Calls jZ 99 #[jL #[T U op,T U num,jA text,X an nn cn,X b d f],T U i,X a m c] w λh w'=>h=jN (jJ 233<|jL #[T U i,jA text])/\Ak w w':=by subst g;have j:=Ar w<|CW 5 num text an nn cn b d f;go_enter func99,ntmps99;go_wp2;go_ret;exact⟨rfl,j⟩
theorem Y0(i:Nat)(op num:Int)(text:M1)(an:M3)(nn cn:Nat)(b:M3)(d f:Nat)(a:M3)(m c:Nat)(w:jD)(g:op=6):Calls jZ 99 #[jL #[T U op,T U num,jA text,X an nn cn,X b d f],T U i,X a m c] w λh w'=>h=jN (jJ 202<|jL #[T U i,T U num])/\Ak w w':=by subst g;have j:=Ar w<|CW 6 num text an nn cn b d f;go_enter func99,ntmps99;go_wp2;go_ret;exact⟨rfl,j⟩
theorem Y4(i:Nat)(op num:Int)(text:M1)(an:M3)(nn cn:Nat)(b:M3)(d f:Nat)(a:M3)(m c:Nat)(w:jD)(g:op=7):Calls jZ 99 #[jL #[T U op,T U num,jA text,X an nn cn,X b d f],T U i,X a m c] w λh w'=>h=jN (jJ 175<|jL #[T U i,T U num])/\Ak w w':=by subst g;have j:=Ar w<|CW 7 num text an nn cn b d f;go_enter func99,ntmps99;go_wp2;go_ret;exact⟨rfl,j⟩
theorem Aev(i:Nat)(k:Nat)(l:jR)(n:jF)(op num:Int)(text:M1)(an:M3)(nn cn:Nat)(o:M3)(f b:Nat)(a:M3)(m c:Nat)(w:jD)(q:8<=op/\op<=10)(g:BN w o f b [(k:Int)])(h p:Nat)(r:a=Z (jB h p V))(v:h<R (Q w))(x:jE w ⟨h,p+k,V⟩=Z (jJ l n))(y:k<m):Calls jZ 99 #[jL #[T U op,T U num,jA text,X an nn cn,X o f b],T U i,X a m c] w λs w'=>s=jN (jJ 168<|jL #[T U i,T U op,jJ l n])/\Ak w w':=by
 obtain⟨j,ok,rfl,z,t⟩:=g.cells 0 Oz;obtain rfl:f=1:=g.len.symm;simp only[yE,ze]at t;subst r;have A:(k:Int)<(m:Int):=Oa;clear g;have u:op=8\/op=9\/op=10:=Oa;clear q;obtain rfl|rfl|rfl:=u
 .have d:=Ar w<|jC #[T U 8,T U num,jA text,X an nn cn,X (Z<|jB j ok V) 1 b] 112;go_enter func99,ntmps99;go_wp2;go_region;all_goals (go_wp2;go_ret;exact⟨rfl,d.drew⟩)
 .have d:=Ar w<|jC #[T U 9,T U num,jA text,X an nn cn,X (Z<|jB j ok V) 1 b] 112;go_enter func99,ntmps99;go_wp2;go_region;all_goals (go_wp2;go_ret;exact⟨rfl,d.drew⟩)
 have d:=Ar w<|jC #[T U 10,T U num,jA text,X an nn cn,X (Z<|jB j ok V) 1 b] 112;go_enter func99,ntmps99;go_wp2;go_region;all_goals (go_wp2;go_ret;exact⟨rfl,d.drew⟩)
theorem Abr(i:Nat)(k:Nat)(n:jR)(o:jF)(l:Nat)(p:jR)(ul:jF)(op num:Int)(text:M1)(an:M3)(nn cn:Nat)(q:M3)(f g:Nat)(a:M3)(m c:Nat)(w:jD)(r:11<=op/\op<=26)(b:BN w q f g [(k:Int),(l:Int)])(d h:Nat)(s:a=Z (jB d h V))(t:d<R (Q w))(y:jE w ⟨d,h+k,V⟩=Z (jJ n o))(z:k<m)(A:jE w ⟨d,h+l,V⟩=Z (jJ p ul))(t:l<m):Calls jZ 99 #[jL #[T U op,T U num,jA text,X an nn cn,X q f g],T U i,X a m c] w λu w'=>u=jN (jJ 170<|jL #[T U i,T U op,jJ n o,jJ p ul])/\Ak w w':=by
 obtain⟨j,ok,rfl,B,v⟩:=b.cells 0 Oz;have C:jE w ⟨j,ok+1,V⟩=Z (T U l):=by
  obtain⟨b2,o2,e2,_,c2⟩:=b.cells 1 Oz;obtain⟨rfl,rfl⟩:j=b2/\ok=o2:=by simpa using e2
  simpa using c2
 obtain rfl:f=2:=b.len.symm;simp only[yE,ze]at v;subst s;have D:(k:Int)<(m:Int):=Oa;have E:(l:Int)<(m:Int):=Oa;clear b;have s1:(op==1)=jI:=zA.2 Oa;have s2:(op==2)=jI:=zA.2 Oa;have F:(op==3)=jI:=zA.2 Oa;have G:(op==4)=jI:=zA.2 Oa;have s5:(op==5)=jI:=zA.2 Oa;have H:(op==6)=jI:=zA.2 Oa;have I:(op==7)=jI:=zA.2 Oa;have J:(op==8)=jI:=zA.2 Oa;have K:(op==9)=jI:=zA.2 Oa;have L:(op==10)=jI:=zA.2 Oa;have M:(op==27)=jI:=zA.2 Oa;clear r;have x:=Ar w<|jC #[T U op,T U num,jA text,X an nn cn,X (Z<|jB j ok V) 2 g] 112;go_enter func99,ntmps99;go_wp2;go_region;all_goals (go_wp2;go_ret;exact⟨rfl,x.drew⟩)
theorem Abs(i:Nat)(k:Nat)(n:jR)(o:jF)(l:Nat)(p:jR)(ul:jF)(q:Nat)(r:jR)(s:jF)(op num:Int)(text:M1)(an:M3)(nn cn:Nat)(t:M3)(h j:Nat)(a:M3)(m c:Nat)(w:jD)(u:op=27)(b:BN w t h j [(k:Int),(l:Int),(q:Int)])(d g:Nat)(v:a=Z (jB d g V))(x:d<R (Q w))(B:jE w ⟨d,g+k,V⟩=Z (jJ n o))(C:k<m)(D:jE w ⟨d,g+l,V⟩=Z (jJ p ul))(x:l<m)(E:jE w ⟨d,g+q,V⟩=Z (jJ r s))(hq:q<m):Calls jZ 99 #[jL #[T U op,T U num,jA text,X an nn cn,X t h j],T U i,X a m c] w λy w'=>y=jN (jJ 207<|jL #[T U i,jJ n o,jJ p ul,jJ r s])/\Ak w w':=by
 obtain⟨f,ok,rfl,F,z⟩:=b.cells 0 Oz;have G:jE w ⟨f,ok+1,V⟩=Z (T U l):=by
  obtain⟨b2,o2,e2,_,c2⟩:=b.cells 1 Oz;obtain⟨rfl,rfl⟩:f=b2/\ok=o2:=by simpa using e2
  simpa using c2
 have H:jE w ⟨f,ok+2,V⟩=Z (T U q):=by
  obtain⟨b2,o2,e2,_,c2⟩:=b.cells 2 Oz;obtain⟨rfl,rfl⟩:f=b2/\ok=o2:=by simpa using e2
  simpa using c2
 obtain rfl:h=3:=b.len.symm;simp only[yE,ze]at z;subst v;have I:(k:Int)<(m:Int):=Oa;have J:(l:Int)<(m:Int):=Oa;have K:(q:Int)<(m:Int):=Oa;clear b;subst u;have A:=Ar w<|jC #[T U 27,T U num,jA text,X an nn cn,X (Z<|jB f ok V) 3 j] 112;go_enter func99,ntmps99;go_wp2;go_region;all_goals (go_wp2;go_ret;exact⟨rfl,A.drew⟩)
theorem Abt{Es:M8}{i:Nat}{x:Nd}{nn cn:Nat}{A:M3}{B C:Nat}{a:M3}{m c:Nat}{e:Ex}(hm:MkT Es i x an nn cn e)(n:BN w A B C x.aC)(o:Trs w a m c Es):
  Calls jZ 99 #[jL #[T U x.op,T U x.num,jA x.text,X an nn cn,X A B C],T U i,X a m c] w λD w'=>D=jN e.val/\Ak w w':=by cases hm with|int b=>exact Abp i _ _ _ _ _ _ _ _ _ _ _ _ w b|text b=>exact YX i _ _ _ _ _ _ _ _ _ _ _ _ w b|bool b=>exact YY i _ _ _ _ _ _ _ _ _ _ _ _ w b|set b=>exact Abq i _ _ _ _ _ _ _ _ _ _ _ _ w b|name b=>exact YZ i _ _ _ _ _ _ _ _ _ _ _ _ w b|attr b=>exact Y0 i _ _ _ _ _ _ _ _ _ _ _ _ w b|lett b=>exact Y4 i _ _ _ _ _ _ _ _ _ _ _ _ w b|@un k e b p h1=>rw[p]at n;obtain⟨d,h,j,r,c1,l1⟩:=o.get h1;obtain⟨s,t,e1⟩:=e.form;rw[e1]at c1;simp only[Ex.val,e1];exact Aev i k s t _ _ _ _ _ _ _ _ _ _ _ _ w b n d h j r c1 l1|@bin k l e f b p h1 h2=>
  rw[p]at n;obtain⟨d,h,j,r,c1,l1⟩:=o.get h1;obtain⟨b1,u,v,E,c2,l2⟩:=o.get h2;obtain⟨rfl,rfl⟩:d=b1/\h=u:=by have:=j.symm.trans v;simpa using this
  obtain⟨s,t,e1⟩:=e.form;obtain⟨y,z,e2⟩:=f.form;rw[e1]at c1;rw[e2]at c2;simp only[Ex.val,e1,e2];exact Abr i k s t l y z _ _ _ _ _ _ _ _ _ _ _ _ w b n d h j r c1 l1 c2 l2|@ite k l q e f g b p h1 h2 h3=>
  rw[p]at n;obtain⟨d,h,j,r,c1,l1⟩:=o.get h1;obtain⟨b1,u,v,E,c2,l2⟩:=o.get h2;obtain⟨rfl,rfl⟩:d=b1/\h=u:=by have:=j.symm.trans v;simpa using this
  obtain⟨b1,u,F,J,c3,G⟩:=o.get h3;obtain⟨rfl,rfl⟩:d=b1/\h=u:=by have:=j.symm.trans F;simpa using this
  obtain⟨s,t,e1⟩:=e.form;obtain⟨y,z,e2⟩:=f.form;obtain⟨H,I,e3⟩:=g.form;rw[e1]at c1;rw[e2]at c2;rw[e3]at c3;simp only[Ex.val,e1,e2,e3];exact Abs i k s t l y z q H I _ _ _ _ _ _ _ _ _ _ _ _ w b n d h j r c1 l1 c2 l2 c3 G
end Go.Proofs.YtlcfoihgfcmfeaaGreatDoor
