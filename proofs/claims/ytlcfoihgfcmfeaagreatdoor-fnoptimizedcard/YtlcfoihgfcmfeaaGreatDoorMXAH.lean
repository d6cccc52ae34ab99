import Derived.Test.YtlcfoihgfcmfeaaGreatDoorMXAD
import Derived.Test.YtlcfoihgfcmfeaaGreatDoorMXAB
import Derived.Deep.RegionHeld3
open Option renaming none->V,some->Z
open List renaming length->Y
open Array renaming size->R
open Go renaming World->jD,Value->jF,Addr->jH
open Bool renaming true->jG,false->jI
open ByteArray renaming empty->jX
namespace Go.Proofs.YtlcfoihgfcmfeaaGreatDoor
open Proofs.Tryz
open Value renaming int->T,slice->X,string->jA
open World renaming heap->Q,cell?->jE,alloc->jK,ownsRow->jP
open Addr renaming mk->jB,block->jW
open Ending renaming returned->jN
open Proofs.Tryz renaming prog->jZ
open Go.RowKit
set_option maxRecDepth 100000
set_option maxHeartbeats 4000000
variable{x b:M1}{a:N4}{lo hi c n:Nat}{v:jF}{w w' w2:jD}
def AbQ(x:Int):M1:=ByteArray.empty.push<|UInt8.ofNat x.toNat
theorem P8(x:Int):(AbQ x).size=1:=rfl
theorem Amk(a:jD)(x:Int):(convert 22 9 (X (Z ⟨R<|Q a,0,V⟩) 1 1)).run jZ (jK a<|.cells #[T .u8 x] 5)=.ok (jA<|AbQ x) (jK a<|.cells #[T .u8 x] 5):=by
 rw[run_convert_bytes_string _ _ _ _ _ _ _ underlying22 underlying5 underlying9];rw[run_bytesToString _ _ _ _ [x]]
 .rfl
 have h:jE (jK a<|.cells #[T .u8 x] 5) ⟨R<|Q a,0,V⟩=Z (T .u8 x):=Oz;simp[loadCells,h,go_sem]
theorem Ge(a b:M1):(a++b).size=a.size+b.size:=by grind
structure AJ(lo hi:Nat)(w w':jD):Prop where
 os:w'.os=w.os
 tape:w'.tape=w.tape
 output:w'.output=w.output
 size:R (Q w)<=R (Q w')block:∀k,k<R (Q w)->(k<lo\/hi<=k)->(Q w')[k]?=(Q w)[k]?
theorem AJ.trans{lo hi:Nat}{a b c:jD}(h:AJ lo hi a b)(k:AJ lo hi b c):AJ lo hi a c:=⟨k.os.trans h.os,k.tape.trans h.tape,k.output.trans h.output,zB h.size k.size,λi hi d=>(k.block i (zG hi h.size) d).trans<|h.block i hi d⟩
theorem AJ.aU{B:Nat}(h:Below B w w')(hB:R (Q w)<=B):AJ lo hi w w':=⟨h.os,h.tape,h.output,h.size,λk a _=>h.block k Oa⟩
theorem AJ.setCell{lo hi:Nat}(w:jD)(p:jH)(u:jF)(h1:lo<=jW p)(h2:jW p<hi):AJ lo hi w<|World.setCell w p u:=⟨rfl,rfl,rfl,Oz,λk _ a=>L2 w p k u Oa⟩
theorem Fv{B lo hi:Nat}{a:jD}(h:Below B w a)(t:AJ lo hi a w2)(hB:B<=lo)(hs:B<=R (Q a)):Below B w w2:=h.trans ⟨t.os,t.tape,t.output,t.size,λk b=>t.block k Oa<|.inl Oa⟩
theorem Ff{n:Nat}{a:M3}{b:N4}(h:jP w lo 9 1 (X a n c) n b)(i:∀x,a=Z x->(Q w')[jW x]?=(Q w)[jW x]?):jP w' lo 9 1 (X a n c) n b:=by
 refine⟨h.1,?_⟩;obtain h2|⟨g,cap,d,f,h3,hg,h4⟩:=h.2
 .grind
 refine .inr ⟨g,cap,d,f,h3,?_,h4⟩;grind
theorem ER{base base' e:Nat}(h:jP w base e 1 v n a)(b:base'<=base):jP w base' e 1 v n a:=by
 refine⟨h.1,?_⟩;obtain h2|⟨g,cap,c,d,h3,h4⟩:=h.2
 .exact .inl h2
 exact .inr ⟨g,cap,c,d,zB b h3,h4⟩
theorem AJ.grown{a:jD}{row:Wa}(T:AJ lo hi w a)(h:a.grownBy w2 row)(c:∀k,row=Z k->R (Q w)<=k):AJ lo hi w w2:=⟨h.os.trans T.os,h.tape.trans T.tape,h.output.trans T.output,zB T.size h.size,λk b hd=>(h.block k (zG b T.size) λe=>G7<|c k e.symm).trans<|T.block k b hd⟩
set_option linter.unusedVariables false
theorem Am.news{b a n c:Nat}{ss:M6}(hq:Am w (Z<|jB b a V) n c ss):∀j u,(ss.map Value.string)[j]?=Z u->jE w (((jB b a V):jH).add j)=Z u:=λj u hu=>by rw[zi,Z6]at hu;obtain⟨s,hs,rfl⟩:=hu;have d:j<Y ss:=(zL.1 hs).1;obtain⟨b1,h,f,_,hc⟩:=hq.cells j<|G7 hq.len;simp only[Option.some.injEq,Addr.mk.injEq,and_true]at f;obtain⟨rfl,rfl⟩:=f;have g:((jB b a V):jH).add j=⟨b,a+j,V⟩:=Ga;rw[g,hc,Dw _ j d];rw[zE d]at hs;cases hs;rfl
section
structure Ew(ss tt:M6)(i j:Nat):Prop where
 i_le:i<=Y ss
 j_le:j<=Y tt
 A:∀p q,p<i->j<=q->q<Y tt->sl (AB ss p) (AB tt q)=jG
 B:∀p q,q<j->i<=p->p<Y ss->sl (AB tt q) (AB ss p)=jG
theorem Ew.start(ss tt:M6):Ew ss tt 0 0:=⟨zH _,zH _,λp q h=>Oa,λp q h=>Oa⟩
variable{ss tt:M6}{i j:Nat}
theorem Yj{a:M1}(h:sl a b=jG):eqS b a=jI:=by grind[Ep,Hu]
theorem Uy{a:M1}(h:sl a b=jG):eqS a b=jI:=by grind[Ep,Hu]
theorem Acw(a:Ch tt=jG){p q:Nat}(b:p<=q)(hq:q<Y tt)(h:sl x (AB tt p)=jG):sl x (AB tt q)=jG:=by grind[Kb,Gu]
theorem Ew.left(h:Ew ss tt i j)(ht:Ch tt=jG)(hi:i<Y ss)(hc:j<Y tt->sl (AB ss i) (AB tt j)=jG):Ew ss tt (i+1) j/\KY tt (AB ss i)=jI:=by have d:∀q,j<=q->q<Y tt->sl (AB ss i) (AB tt q)=jG:=λq hq a=>Acw ht hq a<|hc Oa;refine⟨⟨Oa,h.j_le,λp q b hq a=>?_,λp q hq b c=>h.B p q hq Oa c⟩,Oj _ _ λq hq=>?_⟩;all_goals grind[Uy,Ew.B,Ew.A,Yj]
theorem Ew.right(h:Ew ss tt i j)(hs:Ch ss=jG)(d:j<Y tt)(hc:i<Y ss->sl (AB tt j) (AB ss i)=jG):Ew ss tt i (j+1)/\KY ss (AB tt j)=jI:=by have hB:∀p,i<=p->p<Y ss->sl (AB tt j) (AB ss p)=jG:=λp a b=>Acw hs a b<|hc Oa;refine⟨⟨h.i_le,Oa,λp q a hq c=>h.A p q a Oa c,λp q hq a b=>?_⟩,Oj _ _ λp a=>?_⟩;all_goals grind[Uy,Ew.B,Ew.A,Yj]
theorem Ew.cZ(h:Ew ss tt i j)(hs:Ch ss=jG)(ht:Ch tt=jG)(hi:i<Y ss)(b:j<Y tt)(h1:sl (AB ss i) (AB tt j)=jI)(h2:sl (AB tt j) (AB ss i)=jI):Ew ss tt (i+1) (j+1)/\KY tt (AB ss i)=jG/\AB ss i=AB tt j:=by have e:=VN _ _ h1 h2;refine⟨⟨Oa,Oa,λp q a hq c=>?_,λp q hq a d=>?_⟩,?_,e⟩;all_goals grind[Hu,Acx,Ew.B,Ew.A,Gu]
structure KL(ss tt:M6)(i j:Nat)(K:M6):Prop where out:K=CX (ss.take i) tt jI
structure KB(ss tt:M6)(i j:Nat)(K:M6):Prop where out:K=CX (ss.take i) tt jG
structure KA(ss tt:M6)(i j:Nat)(K:M6):Prop where
 dB:Ch K=jG
 mem:∀x,x∈K↔x∈ss.take i\/x∈tt.take j
theorem KL.start:KL ss tt 0 0 []:=⟨rfl⟩
theorem KB.start:KB ss tt 0 0 []:=⟨rfl⟩
theorem KA.start:KA ss tt 0 0 []:=⟨by rfl,Oz⟩
variable{K:M6}
theorem KL.left(k:KL ss tt i j K)(h:Ew ss tt i j)(ht:Ch tt=jG)(hi:i<Y ss)(hc:j<Y tt->sl (AB ss i) (AB tt j)=jG):KL ss tt (i+1) j<|K++[AB ss i]:=⟨by rw[Ri ss tt jI i hi<|by rw[(h.left ht hi hc).2];rfl,k.out]⟩
theorem KL.right(k:KL ss tt i j K):KL ss tt i (j+1) K:=⟨k.out⟩
theorem KL.cZ(k:KL ss tt i j K)(h:Ew ss tt i j)(hs:Ch ss=jG)(ht:Ch tt=jG)(hi:i<Y ss)(a:j<Y tt)(h1:sl (AB ss i) (AB tt j)=jI)(h2:sl (AB tt j) (AB ss i)=jI):KL ss tt (i+1) (j+1) K:=⟨by rw[VO ss tt jI i hi<|by rw[(h.cZ hs ht hi a h1 h2).2.1];rfl,k.out]⟩
theorem KL.dI(k:KL ss tt (Y ss) j K):K=CX ss tt jI:=by rw[k.out,zq]
theorem KB.left(k:KB ss tt i j K)(h:Ew ss tt i j)(ht:Ch tt=jG)(hi:i<Y ss)(hc:j<Y tt->sl (AB ss i) (AB tt j)=jG):KB ss tt (i+1) j K:=⟨by rw[VO ss tt jG i hi<|by rw[(h.left ht hi hc).2];rfl,k.out]⟩
theorem KB.right(k:KB ss tt i j K):KB ss tt i (j+1) K:=⟨k.out⟩
theorem KB.cZ(k:KB ss tt i j K)(h:Ew ss tt i j)(hs:Ch ss=jG)(ht:Ch tt=jG)(hi:i<Y ss)(a:j<Y tt)(h1:sl (AB ss i) (AB tt j)=jI)(h2:sl (AB tt j) (AB ss i)=jI):KB ss tt (i+1) (j+1)<|K++[AB ss i]:=⟨by rw[Ri ss tt jG i hi<|by rw[(h.cZ hs ht hi a h1 h2).2.1];rfl,k.out]⟩
theorem KB.dI(k:KB ss tt (Y ss) j K):K=CX ss tt jG:=by rw[k.out,zq]
theorem Uz(x:M1)(h:Ch K=jG)(hx:∀y∈K,sl y x=jG):Ch (K++[x])=jG:=by grind[Ch]
theorem FR(x:M1)(h:x∈ss.take i):∃p,p<i/\p<Y ss/\AB ss p=x:=by obtain⟨p,a,e⟩:=(M5 _ _).1 h;have b:Y (ss.take i)<=i:=List.length_take_le _ _;have c:Y (ss.take i)<=Y ss:=Od;refine⟨p,Oa,Oa,?_⟩;grind[Dw]
theorem KA.left(k:KA ss tt i j K)(h:Ew ss tt i j)(hs:Ch ss=jG)(hi:i<Y ss):KA ss tt (i+1) j<|K++[AB ss i]:=⟨Uz _ k.dB λy hy=>by
  rcases(k.mem y).1 hy with hy|hy
  .obtain⟨p,a,b,rfl⟩:=FR y hy;exact(Gu ss).1 hs p i a hi
  obtain⟨q,hq,c,rfl⟩:=FR y hy;exact h.B i q hq NLN hi,λx=>by rw[zJ,k.mem,Do ss i hi,zJ];simp only[zK];constructor<;>intro h<;>(obtain(h|h)|h:=h<;>simp[h])⟩
theorem KA.right(k:KA ss tt i j K)(h:Ew ss tt i j)(ht:Ch tt=jG)(a:j<Y tt):KA ss tt i (j+1)<|K++[AB tt j]:=⟨Uz _ k.dB λy hy=>by
  rcases(k.mem y).1 hy with hy|hy
  .obtain⟨p,b,c,rfl⟩:=FR y hy;exact h.A p j b NLN a
  obtain⟨q,hq,d,rfl⟩:=FR y hy;exact(Gu tt).1 ht q j hq a,λx=>by rw[zJ,k.mem,Do tt j a,zJ];simp only[zK];constructor<;>intro h<;>(first|(obtain(h|h)|h:=h<;>simp[h])|(obtain h|h|h:=h<;>simp[h]))⟩
theorem KA.cZ(k:KA ss tt i j K)(h:Ew ss tt i j)(hs:Ch ss=jG)(hi:i<Y ss)(b:j<Y tt)(h1:sl (AB ss i) (AB tt j)=jI)(h2:sl (AB tt j) (AB ss i)=jI):KA ss tt (i+1) (j+1)<|K++[AB ss i]:=by have e:=VN _ _ h1 h2;have a:=k.left h hs hi;refine⟨a.dB,λx=>?_⟩;grind[Do,KA.mem]
end
theorem MV(x:Int)(w:jD):Calls jZ 204 #[T .i64 x] w λe w'=>e=jN (.bool jG)/\w'=w:=by go_enter func204,ntmps204;go_wp2;go_ret;exact⟨rfl,rfl⟩
theorem Cl{base e size k:Nat}(h:jP w base e size v n a):(w.drewN k).ownsRow base e size v n a:=h
theorem Ags(a:M3)(n c:Nat)(ss:M6)(N:M3)(H O:Nat)(tt:M6)(w:jD)(h:Am w a n c ss)(I:Am w N H O tt)(hs:Ch ss=jG)(ht:Ch tt=jG)(al:n<=64)(ao:H<=64):Calls jZ 203 #[X a n c,X N H O,.func (Fn.func 204) #[] #[]] w λe w'=>∃x F K,e=jN (X x (Y K) F)/\jP w' (R<|Q w) 9 1 (X x (Y K) F) (Y K) (K.map Value.string)/\Ak w w'/\KA ss tt (Y ss) (Y tt) K:=by
 obtain⟨i,hi,B,C,D⟩:=info_parts Gd;have S:=h.len;have W:=I.len;subst S W;have aa:=Ab hs;have ab:=Ab ht;go_enter func203,ntmps203;go_wp2;go_loopw[7,8,9] (λv i j wr=>∃ (p q:Nat) (K:M6),i=T .i64 p/\j=T .i64 q/\Ew ss tt p q/\KA ss tt p q K/\Y K<=p+q/\jP wr (R<|Q w) 9 1 v (Y K) (K.map Value.string)/\Ak w wr) (λ_ i j _=>Y ss+Y tt-(intOf i).toNat-(intOf j).toNat);case atStart=>exact⟨0,0,[],rfl,rfl,Ew.start _ _,KA.start,Oz,G8,BRN⟩
 obtain⟨p,q,K,rfl,rfl,hm,A,ap,f,g⟩:=hrel;have E:=g.size;have G:=hm.i_le;have hq:=hm.j_le;have hs:=Aa aa;have ht:=Aa ab;by_cases y:p<Y ss
 .obtain⟨b,aq,ac,_,ar⟩:=(h.below g NLN).cells p y;subst ac;have ad:(p:Int)<(Y ss:Int):=Oa;by_cases l:q<Y tt
  .obtain⟨ae,af,J,_,ag⟩:=(I.below g NLN).cells q l;subst J;have ah:(q:Int)<(Y tt:Int):=Oa;have P:((q:Int)==(Y tt:Int))=jI:=zA.2 Oa;have ai:((p:Int)==(Y ss:Int))=jI:=zA.2 Oa;cases L:Op.bytesLess (AB ss p).toList (AB tt q).toList
   .cases M:Op.bytesLess (AB tt q).toList (AB ss p).toList
    .go_wp2;go_quiet (fail);go_wp2;go_quiet (fail);go_wp2_with (first|(go_at_call 204;refine(MV _ _).mono ?_;rintro e w2 ⟨rfl,d⟩;rw[d];clear d)|(at_builtin;refine J7 _ rfl _ _ 31 rfl (R<|Q w) 9 i (jA jX) 1 16 underlying31 hi B C D rfl Ob _ _ _ rfl (K7 (Cl f) _) ⟨R<|Q wr,0,V⟩ 1 1 [jA<|AB ss p] rfl rfl ?c1 ?c2 ?c3 ?c4 ?c5 ?_));case c1=>exact L4 _ _ _
     case c2=>intro u hu;simp at hu;subst hu;rfl
     case c3=>unfold maxLen;omega
     case c4=>omega
     case c5=>simp;omega
     intro v' m o r _;have s:Ak w m:=((below_drewN g _).alloc E _).grown r Od λk t=>(f.lt k t).1;go_wp2;go_roundw;case rel=>exact⟨p+1,q+1,_,O0,O0,(hm.cZ hs ht y l L M).1,(A.cZ hm hs y l L M),O9,by rw[zN,zC];exact o,s⟩
     simp[intOf];omega
    have z:p<Y ss->sl (AB tt q) (AB ss p)=jG:=λ_=>M;go_wp2;go_quiet (fail);go_wp2;go_quiet (fail);go_wp2_with (first|(go_at_call 204;refine(MV _ _).mono ?_;rintro e w2 ⟨rfl,d⟩;rw[d];clear d)|(at_builtin;refine J7 _ rfl _ _ 31 rfl (R<|Q w) 9 i (jA jX) 1 16 underlying31 hi B C D rfl Ob _ _ _ rfl (K7 (Cl f) _) ⟨R<|Q wr,0,V⟩ 1 1 [jA<|AB tt q] rfl rfl ?c1 ?c2 ?c3 ?c4 ?c5 ?_));case c1=>exact L4 _ _ _
    case c2=>intro u hu;simp at hu;subst hu;rfl
    case c3=>unfold maxLen;omega
    case c4=>omega
    case c5=>simp;omega
    intro v' m o r _;have s:Ak w m:=((below_drewN g _).alloc E _).grown r Od λk t=>(f.lt k t).1;go_wp2;go_roundw;case rel=>exact⟨p,q+1,_,O0,O0,(hm.right hs l λG=>z G).1,(A.right hm ht l),O9,by rw[zN,zC];exact o,s⟩
    simp[intOf];omega
   have z:q<Y tt->sl (AB ss p) (AB tt q)=jG:=λ_=>L;go_wp2;go_quiet (fail);go_wp2_with (first|(go_at_call 204;refine(MV _ _).mono ?_;rintro e w2 ⟨rfl,d⟩;rw[d];clear d)|(at_builtin;refine J7 _ rfl _ _ 31 rfl (R<|Q w) 9 i (jA jX) 1 16 underlying31 hi B C D rfl Ob _ _ _ rfl (K7 (Cl f) _) ⟨R<|Q wr,0,V⟩ 1 1 [jA<|AB ss p] rfl rfl ?c1 ?c2 ?c3 ?c4 ?c5 ?_));case c1=>exact L4 _ _ _
   case c2=>intro u hu;simp at hu;subst hu;rfl
   case c3=>unfold maxLen;omega
   case c4=>omega
   case c5=>simp;omega
   intro v' m o r _;have s:Ak w m:=((below_drewN g _).alloc E _).grown r Od λk t=>(f.lt k t).1;go_wp2;go_roundw;case rel=>exact⟨p+1,q,_,O0,O0,(hm.left ht y λhq=>z hq).1,(A.left hm hs y),O9,by rw[zN,zC];exact o,s⟩
   simp[intOf];omega
  have P:((q:Int)==(Y tt:Int))=jG:=zD.2 Oa;have z:q<Y tt->sl (AB ss p) (AB tt q)=jG:=λaj=>K4 aj l;go_wp2;go_quiet (fail);go_wp2_with (first|(go_at_call 204;refine(MV _ _).mono ?_;rintro e w2 ⟨rfl,d⟩;rw[d];clear d)|(at_builtin;refine J7 _ rfl _ _ 31 rfl (R<|Q w) 9 i (jA jX) 1 16 underlying31 hi B C D rfl Ob _ _ _ rfl (K7 (Cl f) _) ⟨R<|Q wr,0,V⟩ 1 1 [jA<|AB ss p] rfl rfl ?c1 ?c2 ?c3 ?c4 ?c5 ?_));case c1=>exact L4 _ _ _
  case c2=>intro u hu;simp at hu;subst hu;rfl
  case c3=>unfold maxLen;omega
  case c4=>omega
  case c5=>simp;omega
  intro v' m o r _;have s:Ak w m:=((below_drewN g _).alloc E _).grown r Od λk t=>(f.lt k t).1;go_wp2;go_roundw;case rel=>exact⟨p+1,q,_,O0,O0,(hm.left ht y λhq=>z hq).1,(A.left hm hs y),O9,by rw[zN,zC];exact o,s⟩
  simp[intOf];omega
 by_cases l:q<Y tt
 .obtain⟨ae,af,J,_,ag⟩:=(I.below g NLN).cells q l;subst J;have ah:(q:Int)<(Y tt:Int):=Oa;have P:((q:Int)==(Y tt:Int))=jI:=zA.2 Oa;have ai:((p:Int)==(Y ss:Int))=jG:=zD.2 Oa;have ad:decide ((p:Int)<(Y ss:Int))=jI:=Od;have z:p<Y ss->sl (AB tt q) (AB ss p)=jG:=λak=>K4 ak y;go_wp2;go_quiet (fail);go_wp2;go_quiet (fail);go_wp2_with (first|(go_at_call 204;refine(MV _ _).mono ?_;rintro e w2 ⟨rfl,d⟩;rw[d];clear d)|(at_builtin;refine J7 _ rfl _ _ 31 rfl (R<|Q w) 9 i (jA jX) 1 16 underlying31 hi B C D rfl Ob _ _ _ rfl (K7 (Cl f) _) ⟨R<|Q wr,0,V⟩ 1 1 [jA<|AB tt q] rfl rfl ?c1 ?c2 ?c3 ?c4 ?c5 ?_));case c1=>exact L4 _ _ _
  case c2=>intro u hu;simp at hu;subst hu;rfl
  case c3=>unfold maxLen;omega
  case c4=>omega
  case c5=>simp;omega
  intro v' m o r _;have s:Ak w m:=((below_drewN g _).alloc E _).grown r Od λk t=>(f.lt k t).1;go_wp2;go_roundw;case rel=>exact⟨p,q+1,_,O0,O0,(hm.right hs l λG=>z G).1,(A.right hm ht l),O9,by rw[zN,zC];exact o,s⟩
  simp[intOf];omega
 have e1:p=Y ss:=Oa;have e2:q=Y tt:=Oa;subst e1;subst e2;go_wp2;go_ret;obtain⟨x,F,hf⟩:=AG f;subst hf;exact⟨x,F,K,rfl,f,g,A⟩
theorem MX(x:Int)(w:jD):Calls jZ 205 #[T .i64 x] w λe w'=>e=jN (.bool<|x==2)/\w'=w:=by go_enter func205,ntmps205;go_wp2;go_ret;exact⟨rfl,rfl⟩
theorem Agt(a:M3)(n c:Nat)(ss:M6)(D:M3)(y E:Nat)(tt:M6)(w:jD)(h:Am w a n c ss)(z:Am w D y E tt)(hs:Ch ss=jG)(ht:Ch tt=jG)(al:n<=64)(ao:y<=64):Calls jZ 203 #[X a n c,X D y E,.func (Fn.func 205) #[] #[]] w λe w'=>∃x s K,e=jN (X x (Y K) s)/\jP w' (R<|Q w) 9 1 (X x (Y K) s) (Y K) (K.map Value.string)/\Ak w w'/\KB ss tt (Y ss) (Y tt) K:=by
 obtain⟨i,hi,G,H,I⟩:=info_parts Gd;have J:=h.len;have L:=z.len;subst J L;have M:=Ab hs;have N:=Ab ht;go_enter func203,ntmps203;go_wp2;go_loopw[7,8,9] (λv i j wr=>∃ (p q:Nat) (K:M6),i=T .i64 p/\j=T .i64 q/\Ew ss tt p q/\KB ss tt p q K/\Y K<=p+q/\jP wr (R<|Q w) 9 1 v (Y K) (K.map Value.string)/\Ak w wr) (λ_ i j _=>Y ss+Y tt-(intOf i).toNat-(intOf j).toNat);case atStart=>exact⟨0,0,[],rfl,rfl,Ew.start _ _,KB.start,Oz,G8,BRN⟩
 obtain⟨p,q,K,rfl,rfl,hm,r,ap,l,f⟩:=hrel;have O:=f.size;have t:=hm.i_le;have hq:=hm.j_le;have hs:=Aa M;have ht:=Aa N;by_cases m:p<Y ss
 .obtain⟨b,aq,P,_,ar⟩:=(h.below f NLN).cells p m;subst P;have S:(p:Int)<(Y ss:Int):=Oa;by_cases o:q<Y tt
  .obtain⟨W,aa,A,_,ab⟩:=(z.below f NLN).cells q o;subst A;have ac:(q:Int)<(Y tt:Int):=Oa;have F:((q:Int)==(Y tt:Int))=jI:=zA.2 Oa;have ad:((p:Int)==(Y ss:Int))=jI:=zA.2 Oa;cases B:Op.bytesLess (AB ss p).toList (AB tt q).toList
   .cases C:Op.bytesLess (AB tt q).toList (AB ss p).toList
    .go_wp2;go_quiet (fail);go_wp2;go_quiet (fail);go_wp2_with (first|(go_at_call 205;refine(MX _ _).mono ?_;rintro e w2 ⟨rfl,d⟩;rw[d];clear d)|(at_builtin;refine J7 _ rfl _ _ 31 rfl (R<|Q w) 9 i (jA jX) 1 16 underlying31 hi G H I rfl Ob _ _ _ rfl (K7 (Cl l) _) ⟨R<|Q wr,0,V⟩ 1 1 [jA<|AB ss p] rfl rfl ?c1 ?c2 ?c3 ?c4 ?c5 ?_));case c1=>exact L4 _ _ _
     case c2=>intro u hu;simp at hu;subst hu;rfl
     case c3=>unfold maxLen;omega
     case c4=>omega
     case c5=>simp;omega
     intro v' ae af ag _;have ah:Ak w ae:=((below_drewN f _).alloc O _).grown ag Od λk ai=>(l.lt k ai).1;go_wp2;go_roundw;case rel=>exact⟨p+1,q+1,_,O0,O0,(hm.cZ hs ht m o B C).1,(r.cZ hm hs ht m o B C),O9,by rw[zN,zC];exact af,ah⟩
     simp[intOf];omega
    have g:p<Y ss->sl (AB tt q) (AB ss p)=jG:=λ_=>C;go_wp2;go_quiet (fail);go_wp2;go_quiet (fail);go_wp2_with (go_at_call 205;refine(MX _ _).mono ?_;rintro e w2 ⟨rfl,d⟩;rw[d];clear d);go_roundw;case rel=>exact⟨p,q+1,_,O0,O0,(hm.right hs o λt=>g t).1,(r.right),Oa,l,below_drewN f _⟩
    simp[intOf];omega
   have g:q<Y tt->sl (AB ss p) (AB tt q)=jG:=λ_=>B;go_wp2;go_quiet (fail);go_wp2_with (go_at_call 205;refine(MX _ _).mono ?_;rintro e w2 ⟨rfl,d⟩;rw[d];clear d);go_roundw;case rel=>exact⟨p+1,q,_,O0,O0,(hm.left ht m λhq=>g hq).1,(r.left hm ht m λhq=>g hq),Oa,l,below_drewN f _⟩
   simp[intOf];omega
  have F:((q:Int)==(Y tt:Int))=jG:=zD.2 Oa;have g:q<Y tt->sl (AB ss p) (AB tt q)=jG:=λaj=>K4 aj o;go_wp2;go_quiet (fail);go_wp2_with (go_at_call 205;refine(MX _ _).mono ?_;rintro e w2 ⟨rfl,d⟩;rw[d];clear d);go_roundw;case rel=>exact⟨p+1,q,_,O0,O0,(hm.left ht m λhq=>g hq).1,(r.left hm ht m λhq=>g hq),Oa,l,below_drewN f _⟩
  simp[intOf];omega
 by_cases o:q<Y tt
 .obtain⟨W,aa,A,_,ab⟩:=(z.below f NLN).cells q o;subst A;have ac:(q:Int)<(Y tt:Int):=Oa;have F:((q:Int)==(Y tt:Int))=jI:=zA.2 Oa;have ad:((p:Int)==(Y ss:Int))=jG:=zD.2 Oa;have S:decide ((p:Int)<(Y ss:Int))=jI:=Od;have g:p<Y ss->sl (AB tt q) (AB ss p)=jG:=λak=>K4 ak m;go_wp2;go_quiet (fail);go_wp2;go_quiet (fail);go_wp2_with (go_at_call 205;refine(MX _ _).mono ?_;rintro e w2 ⟨rfl,d⟩;rw[d];clear d);go_roundw;case rel=>exact⟨p,q+1,_,O0,O0,(hm.right hs o λt=>g t).1,(r.right),Oa,l,below_drewN f _⟩
  simp[intOf];omega
 have e1:p=Y ss:=Oa;have e2:q=Y tt:=Oa;subst e1;subst e2;go_wp2;go_ret;obtain⟨x,s,hf⟩:=AG l;subst hf;exact⟨x,s,K,rfl,l,f,r⟩
theorem MZ(x:Int)(w:jD):Calls jZ 206 #[T .i64 x] w λe w'=>e=jN (.bool<|x==0)/\w'=w:=by go_enter func206,ntmps206;go_wp2;go_ret;exact⟨rfl,rfl⟩
theorem Yi(a:M3)(n c:Nat)(ss:M6)(I:M3)(y J:Nat)(tt:M6)(w:jD)(h:Am w a n c ss)(z:Am w I y J tt)(hs:Ch ss=jG)(ht:Ch tt=jG)(al:n<=64)(ao:y<=64):Calls jZ 203 #[X a n c,X I y J,.func (Fn.func 206) #[] #[]] w λe w'=>∃x s K,e=jN (X x (Y K) s)/\jP w' (R<|Q w) 9 1 (X x (Y K) s) (Y K) (K.map Value.string)/\Ak w w'/\KL ss tt (Y ss) (Y tt) K:=by
 obtain⟨i,hi,L,M,N⟩:=info_parts Gd;have S:=h.len;have W:=z.len;subst S W;have aa:=Ab hs;have ab:=Ab ht;go_enter func203,ntmps203;go_wp2;go_loopw[7,8,9] (λv i j wr=>∃ (p q:Nat) (K:M6),i=T .i64 p/\j=T .i64 q/\Ew ss tt p q/\KL ss tt p q K/\Y K<=p+q/\jP wr (R<|Q w) 9 1 v (Y K) (K.map Value.string)/\Ak w wr) (λ_ i j _=>Y ss+Y tt-(intOf i).toNat-(intOf j).toNat);case atStart=>exact⟨0,0,[],rfl,rfl,Ew.start _ _,KL.start,Oz,G8,BRN⟩
 obtain⟨p,q,K,rfl,rfl,hm,r,ap,g,f⟩:=hrel;have O:=f.size;have t:=hm.i_le;have hq:=hm.j_le;have hs:=Aa aa;have ht:=Aa ab;by_cases m:p<Y ss
 .obtain⟨b,aq,ac,_,ar⟩:=(h.below f NLN).cells p m;subst ac;have ad:(p:Int)<(Y ss:Int):=Oa;by_cases o:q<Y tt
  .obtain⟨ae,af,A,_,ag⟩:=(z.below f NLN).cells q o;subst A;have ah:(q:Int)<(Y tt:Int):=Oa;have P:((q:Int)==(Y tt:Int))=jI:=zA.2 Oa;have ai:((p:Int)==(Y ss:Int))=jI:=zA.2 Oa;cases B:Op.bytesLess (AB ss p).toList (AB tt q).toList
   .cases C:Op.bytesLess (AB tt q).toList (AB ss p).toList
    .go_wp2;go_quiet (fail);go_wp2;go_quiet (fail);go_wp2_with (go_at_call 206;refine(MZ _ _).mono ?_;rintro e w2 ⟨rfl,d⟩;rw[d];clear d);go_roundw;case rel=>exact⟨p+1,q+1,_,O0,O0,(hm.cZ hs ht m o B C).1,(r.cZ hm hs ht m o B C),Oa,g,below_drewN f _⟩
     simp[intOf];omega
    have l:p<Y ss->sl (AB tt q) (AB ss p)=jG:=λ_=>C;go_wp2;go_quiet (fail);go_wp2;go_quiet (fail);go_wp2_with (go_at_call 206;refine(MZ _ _).mono ?_;rintro e w2 ⟨rfl,d⟩;rw[d];clear d);go_roundw;case rel=>exact⟨p,q+1,_,O0,O0,(hm.right hs o λt=>l t).1,(r.right),Oa,g,below_drewN f _⟩
    simp[intOf];omega
   have l:q<Y tt->sl (AB ss p) (AB tt q)=jG:=λ_=>B;go_wp2;go_quiet (fail);go_wp2_with (first|(go_at_call 206;refine(MZ _ _).mono ?_;rintro e w2 ⟨rfl,d⟩;rw[d];clear d)|(at_builtin;refine J7 _ rfl _ _ 31 rfl (R<|Q w) 9 i (jA jX) 1 16 underlying31 hi L M N rfl Ob _ _ _ rfl (K7 (Cl g) _) ⟨R<|Q wr,0,V⟩ 1 1 [jA<|AB ss p] rfl rfl ?c1 ?c2 ?c3 ?c4 ?c5 ?_));case c1=>exact L4 _ _ _
   case c2=>intro u hu;simp at hu;subst hu;rfl
   case c3=>unfold maxLen;omega
   case c4=>omega
   case c5=>simp;omega
   intro v' D E F _;have G:Ak w D:=((below_drewN f _).alloc O _).grown F Od λk H=>(g.lt k H).1;go_wp2;go_roundw;case rel=>exact⟨p+1,q,_,O0,O0,(hm.left ht m λhq=>l hq).1,(r.left hm ht m λhq=>l hq),O9,by rw[zN,zC];exact E,G⟩
   simp[intOf];omega
  have P:((q:Int)==(Y tt:Int))=jG:=zD.2 Oa;have l:q<Y tt->sl (AB ss p) (AB tt q)=jG:=λaj=>K4 aj o;go_wp2;go_quiet (fail);go_wp2_with (first|(go_at_call 206;refine(MZ _ _).mono ?_;rintro e w2 ⟨rfl,d⟩;rw[d];clear d)|(at_builtin;refine J7 _ rfl _ _ 31 rfl (R<|Q w) 9 i (jA jX) 1 16 underlying31 hi L M N rfl Ob _ _ _ rfl (K7 (Cl g) _) ⟨R<|Q wr,0,V⟩ 1 1 [jA<|AB ss p] rfl rfl ?c1 ?c2 ?c3 ?c4 ?c5 ?_));case c1=>exact L4 _ _ _
  case c2=>intro u hu;simp at hu;subst hu;rfl
  case c3=>unfold maxLen;omega
  case c4=>omega
  case c5=>simp;omega
  intro v' D E F _;have G:Ak w D:=((below_drewN f _).alloc O _).grown F Od λk H=>(g.lt k H).1;go_wp2;go_roundw;case rel=>exact⟨p+1,q,_,O0,O0,(hm.left ht m λhq=>l hq).1,(r.left hm ht m λhq=>l hq),O9,by rw[zN,zC];exact E,G⟩
  simp[intOf];omega
 by_cases o:q<Y tt
 .obtain⟨ae,af,A,_,ag⟩:=(z.below f NLN).cells q o;subst A;have ah:(q:Int)<(Y tt:Int):=Oa;have P:((q:Int)==(Y tt:Int))=jI:=zA.2 Oa;have ai:((p:Int)==(Y ss:Int))=jG:=zD.2 Oa;have ad:decide ((p:Int)<(Y ss:Int))=jI:=Od;have l:p<Y ss->sl (AB tt q) (AB ss p)=jG:=λak=>K4 ak m;go_wp2;go_quiet (fail);go_wp2;go_quiet (fail);go_wp2_with (go_at_call 206;refine(MZ _ _).mono ?_;rintro e w2 ⟨rfl,d⟩;rw[d];clear d);go_roundw;case rel=>exact⟨p,q+1,_,O0,O0,(hm.right hs o λt=>l t).1,(r.right),Oa,g,below_drewN f _⟩
  simp[intOf];omega
 have e1:p=Y ss:=Oa;have e2:q=Y tt:=Oa;subst e1;subst e2;go_wp2;go_ret;obtain⟨x,s,hf⟩:=AG g;subst hf;exact⟨x,s,K,rfl,g,f,r⟩
end Go.Proofs.YtlcfoihgfcmfeaaGreatDoor
