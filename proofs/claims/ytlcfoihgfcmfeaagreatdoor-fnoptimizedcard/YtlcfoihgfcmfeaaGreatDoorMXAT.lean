import Derived.Test.YtlcfoihgfcmfeaaGreatDoorMXAR
import Derived.Test.YtlcfoihgfcmfeaaGreatDoorMXAI
open Option renaming none->V,some->Z
open List renaming length->Y
open Array renaming size->R
open Go renaming World->jD,Value->jF,Addr->jH
open Bool renaming true->jG,false->jI
open ByteArray renaming empty->jX
namespace Go.Proofs.YtlcfoihgfcmfeaaGreatDoor
open Proofs.Tryz
open Value renaming int->T,int->ja,slice->X,string->jA,iface->jJ,agg->jL,pointer->jQ,tuple->jS,nilIface->jT
open IntKind renaming i64->U
open World renaming heap->Q,cell?->jE,alloc->jK,ownsRow->jP
open Addr renaming mk->jB,block->jW
open Obj renaming cells->jC
open Ending renaming returned->jN
open Proofs.Tryz renaming prog->jZ
open Go.RowKit
set_option linter.unusedVariables false
set_option maxRecDepth 100000
set_option maxHeartbeats 6400000
variable{text:M1}{num:Int}{A:M6}{f:N4}{n c k c':Nat}{a:M3}{w d:jD}
def CL(Es:M8)(k:Int):jF:=if k=-1 then jT else match Es[k.toNat]?with|some e=>e.val|none=>jT
def Mt(Es:M8)(j:Nat)(s:St):N4:=[T U j,T U s.aF,jA s.name,CL Es s.cond,CL Es s.aD]
def Vn(Es:M8):Nat->Nz->N4|_,[]=>[]|i,s::L=>Mt Es i s++Vn Es (i+1) L
theorem Y6(Es:M8)(s:St):∀(L:Nz)(i:Nat),Vn Es i (L++[s])=Vn Es i L++Mt Es (i+Y L) s|[],i=>by simp[Vn]|x::L,i=>by rw[List.cons_append,Vn,Vn,Y6 Es s L<|i+1,zd];congr 3;simp;omega
theorem ZV(Es:M8):∀(L:Nz)(i j:Nat)(h:j<Y L)(a:Nat),a<5->(Vn Es i L)[j*5+a]?=(Mt Es (i+j) L[j])[a]?
 |x::L,i,0,h,a,hr=>by rw[Vn,Nat.zero_mul,zT,zp<|by simp[Mt];omega];simp|x::L,i,j+1,h,a,hr=>by
  rw[Vn,yB<|by simp[Mt];omega];have e:(j+1)*5+a-Y (Mt Es i x)=j*5+a:=by simp[Mt];omega
  rw[e,ZV Es L (i+1) j P4 a hr];simp only[yH];congr 2;omega|[],_,_,h,_,_=>K4 h Oz
theorem Akf:(jZ.info? 88).map (λi=>(i.zero,i.size,i.bytes))=Z (Z<|jL #[T U 0,T U 0,jA jX,jT,jT],5,64):=Ok
theorem EW(Es:M8):CL Es (-1)=jT:=rfl
theorem Ow{Es:M8}{k:Int}(h0:0<=k)(h:k<Y Es):CL Es k=(Es[k.toNat]' Oa).val:=by rw[CL,K0 Oa,zE Oa]
theorem IE(w:jD)(a c d f g:jF)(t:TypeId)(b:Nat)(i:b=R (Q w)):∀j u,([a,c,d,f,g]:N4)[j]?=Z u->jE (jK w<|jC #[a,c,d,f,g] t) (((jB b 0 V):jH).add j)=Z u:=λj u h=>by subst i;have k:(⟨R<|Q w,0,V⟩:jH).add j=⟨R<|Q w,j,V⟩:=Ga;rw[k,(Ah.new w #[a,c,d,f,g] t).cell j,<-h];simp
theorem EY(a b:M3)(n c m d:Nat)(N:M7)(L:Nz)(O w:jD)(h:GN O a n c N)(ar:Ak O w)(ag:Lr w b m d L)(P:Ex->Prop)(au:AbZ O N P)(av:∀s∈L,(s.cond=-1\/(0<=s.cond/\s.cond<n))/\(s.aD=-1\/(0<=s.aD/\s.aD<n))):Calls jZ 15 #[jL #[X a n c,X b m d]] w λaw w'=>(∃v Es,aw=jN v/\Y Es=n/\(∀j,(h:j<Y Es)->Be N j Es[j])/\(∀e∈Es,P e)/\jP w' (R<|Q w) 88 5 v m (Vn Es 0 L))/\Ak w w':=by
 have hm:=ag.aH;have aW:=h.aH;have ax:=Ab ag.len;have aI:=Ab av;have aJ:=Ah.new w #[X a n c,X b m d] 45;have ah:=Ar w<|jC #[X a n c,X b m d] 45;have aK:=Ab<|Y5 a n c N O _ h (ar.trans<|ah.mono ar.size) P au;clear av au h;obtain⟨S,W,aa,ab,ac⟩:=info_parts Akf;go_enter func15,ntmps15;go_wp2_with fail;refine(Aa aK).mono ?_;rintro aw F ⟨⟨v,Es,rfl,aL,ai⟩,ay⟩;subst aL;have M:=ah.trans<|ay.mono ah.size;have aM:=aJ.aB ay NLN;have aX:jE F ⟨R<|Q w,1,V⟩=Z (X b m d):=aM.cell 1;obtain⟨aY,aZ,rfl,az⟩:=ai.trs Oa;have z1:=M.size;dsimp only;go_wp2_with fail;go_loopw[4,14] (λv i wr=>∃ (k:Nat),k<=m/\i=T U k/\jP wr (R<|Q F) 88 5 v k (Vn Es 0<|L.take k)/\Ak F wr) (λ_ i _=>m-(intOf i).toNat);case atStart=>exact⟨0,Oa,rfl,G8,BRN⟩
 obtain⟨k,a0,rfl,D,o⟩:=hrel;have a1:=o.size;by_cases aj:k<m
 .have a2:(k:Int)<(m:Int):=Oa;have ad:k<Y L:=by rw[Aa ax];exact aj
  obtain⟨b1,a3,rfl,a4,c0,c1,c2,c3⟩:=(ag.below (M.trans<|o.mono M.size) NLN).cells k ad;obtain⟨hr1,hr2⟩:=Aa aI L[k]<|zI ad;have l:=Ab (show Vn Es 0 (L.take<|k+1)=Vn Es 0 (L.take k)++Mt Es k L[k]by rw[zY ad,Y6,zv,zT,(Oa:min k (Y L)=k)]);have E:=Ab aj;generalize L[k]=s at c0 c1 c2 c3 hr1 hr2 l;generalize Vn Es 0 (L.take k)=A at D l;obtain⟨aN,aO,rfl,_⟩:=Af D;have ak:=az.below o NLN;clear ad aj az;obtain⟨cd,hcd⟩:∃cd,cd=s.cond:=⟨_,rfl⟩;obtain⟨G,al⟩:∃G,G=s.aD:=⟨_,rfl⟩;rw[<-hcd]at c2 hr1;rw[<-al]at c3 hr2;have aA:=Ab (show Mt Es k s=[T U k,T U s.aF,jA s.name,CL Es cd,CL Es G]by rw[hcd,al];rfl);rw[Aa aA]at l;clear hcd al aA;generalize s.aF=f at c0 l;generalize s.name=nm at c1 l;obtain rfl|hr1:=hr1
  .obtain rfl|hr2:=hr2
   .have r:=(D.alloc<|jC #[T U f,jA nm,T U<|-1,T U<|-1] 97).alloc<|jC #[T U k,T U f,jA nm,jT,jT] 88;have t:=(o.alloc o.size<|jC #[T U f,jA nm,T U<|-1,T U<|-1] 97).alloc Od<|jC #[T U k,T U f,jA nm,jT,jT] 88;have H:=Ab (show[Value.int U k,T U f,jA nm,CL Es<|-1,CL Es<|-1]=[T U k,T U f,jA nm,jT,jT]by rw[EW]);rw[Aa H]at l;go_wp2_with (at_builtin;refine J7 _ rfl _ _ 41 rfl (R<|Q F) 88 S (jL #[T U 0,T U 0,jA jX,jT,jT]) 5 64 underlying41 W aa ab ac rfl Ob _ _ _ rfl (K7 r _) ⟨R (Q wr)+2,0,V⟩ 1 1 [T U k,T U f,jA nm,jT,jT] rfl rfl ?d1 ?d2 ?d3 ?d4 ?d5 ?_);case d1=>exact IE _ _ _ _ _ _ _ _ Oz
    case d2=>intro u hu;simp at hu;obtain rfl|rfl|rfl|rfl:=hu<;>rfl
    case d3=>unfold maxLen;omega
    case d4=>omega
    case d5=>simp;omega
    intro v' ao I x _;have J:=(t.alloc t.size<|jC #[T U k,T U f,jA nm,jT,jT] 88).grown x Od λq hq=>(r.lt q hq).1;clear x;go_wp2;go_roundw;case rel=>exact⟨k+1,Aa E,O0,by rw[Aa l];exact I,J⟩
    have:=Aa E;simp[intOf];omega
   obtain⟨g,rfl⟩:∃g:Nat,G=(g:Int):=⟨G.toNat,Oa⟩;have K:=Ab<|Ow (Es:=Es) (k:=(g:Int)) Oa Oa;obtain⟨aC,aE,ae,aP,ap,aQ⟩:=ak.get (k:=g)<|zE Oa;simp only[zP]at K;obtain⟨y,z,aq⟩:=(Es[g]' Oa).form;rw[aq]at K ap;have a5:((g:Int)==-1)=jI:=zA.2 Oa;have aR:((g:Int)!=-1)=jG:=zW.2 Oa;have a6:(g:Int)<(Y Es:Int):=Oa;subst ae;have r:=(D.alloc<|jC #[T U f,jA nm,T U<|-1,T U g] 97).alloc<|jC #[T U k,T U f,jA nm,jT,jJ y z] 88;have t:=(o.alloc o.size<|jC #[T U f,jA nm,T U<|-1,T U g] 97).alloc Od<|jC #[T U k,T U f,jA nm,jT,jJ y z] 88;have H:=Ab (show[Value.int U k,T U f,jA nm,CL Es<|-1,CL Es g]=[T U k,T U f,jA nm,jT,jJ y z]by rw[Aa K,EW]);rw[Aa H]at l;go_wp2_with (at_builtin;refine J7 _ rfl _ _ 41 rfl (R<|Q F) 88 S (jL #[T U 0,T U 0,jA jX,jT,jT]) 5 64 underlying41 W aa ab ac rfl Ob _ _ _ rfl (K7 r _) ⟨R (Q wr)+2,0,V⟩ 1 1 [T U k,T U f,jA nm,jT,jJ y z] rfl rfl ?d1 ?d2 ?d3 ?d4 ?d5 ?_);case d1=>exact IE _ _ _ _ _ _ _ _ Oz
   case d2=>intro u hu;simp at hu;obtain rfl|rfl|rfl|rfl|rfl:=hu<;>rfl
   case d3=>unfold maxLen;omega
   case d4=>omega
   case d5=>simp;omega
   intro v' ao I x _;have J:=(t.alloc t.size<|jC #[T U k,T U f,jA nm,jT,jJ y z] 88).grown x Od λq hq=>(r.lt q hq).1;clear x;go_wp2;go_roundw;case rel=>exact⟨k+1,Aa E,O0,by rw[Aa l];exact I,J⟩
   have:=Aa E;simp[intOf];omega
  obtain⟨p,rfl⟩:∃p:Nat,cd=(p:Int):=⟨cd.toNat,Oa⟩;have af:=Ab<|Ow (Es:=Es) (k:=(p:Int)) Oa Oa;obtain⟨aS,aT,aG,a7,aU,a8⟩:=ak.get (k:=p)<|zE Oa;simp only[zP]at af;obtain⟨B,C,aV⟩:=(Es[p]' Oa).form;rw[aV]at af aU;have a9:((p:Int)!=-1)=jG:=zW.2 Oa;obtain rfl|hr2:=hr2
  .subst aG;have r:=(D.alloc<|jC #[T U f,jA nm,T U p,T U<|-1] 97).alloc<|jC #[T U k,T U f,jA nm,jJ B C,jT] 88;have t:=(o.alloc o.size<|jC #[T U f,jA nm,T U p,T U<|-1] 97).alloc Od<|jC #[T U k,T U f,jA nm,jJ B C,jT] 88;have H:=Ab (show[Value.int U k,T U f,jA nm,CL Es p,CL Es<|-1]=[T U k,T U f,jA nm,jJ B C,jT]by rw[Aa af,EW]);rw[Aa H]at l;go_wp2_with (at_builtin;refine J7 _ rfl _ _ 41 rfl (R<|Q F) 88 S (jL #[T U 0,T U 0,jA jX,jT,jT]) 5 64 underlying41 W aa ab ac rfl Ob _ _ _ rfl (K7 r _) ⟨R (Q wr)+2,0,V⟩ 1 1 [T U k,T U f,jA nm,jJ B C,jT] rfl rfl ?d1 ?d2 ?d3 ?d4 ?d5 ?_);case d1=>exact IE _ _ _ _ _ _ _ _ Oz
   case d2=>intro u hu;simp at hu;obtain rfl|rfl|rfl|rfl|rfl:=hu<;>rfl
   case d3=>unfold maxLen;omega
   case d4=>omega
   case d5=>simp;omega
   intro v' ao I x _;have J:=(t.alloc t.size<|jC #[T U k,T U f,jA nm,jJ B C,jT] 88).grown x Od λq hq=>(r.lt q hq).1;clear x;go_wp2;go_roundw;case rel=>exact⟨k+1,Aa E,O0,by rw[Aa l];exact I,J⟩
   have:=Aa E;simp[intOf];omega
  obtain⟨g,rfl⟩:∃g:Nat,G=(g:Int):=⟨G.toNat,Oa⟩;have K:=Ab<|Ow (Es:=Es) (k:=(g:Int)) Oa Oa;obtain⟨aC,aE,ae,aP,ap,aQ⟩:=ak.get (k:=g)<|zE Oa;simp only[zP]at K;obtain⟨y,z,aq⟩:=(Es[g]' Oa).form;rw[aq]at K ap;have aR:((g:Int)!=-1)=jG:=zW.2 Oa;subst aG;obtain⟨rfl,rfl⟩:aS=aC/\aT=aE:=by simpa using ae
  clear ae;have r:=(D.alloc<|EO f nm p g).alloc<|jC #[T U k,T U f,jA nm,jJ B C,jJ y z] 88;have t:=(o.alloc o.size<|EO f nm p g).alloc Od<|jC #[T U k,T U f,jA nm,jJ B C,jJ y z] 88;have H:=Ab (show[Value.int U k,T U f,jA nm,CL Es p,CL Es g]=[T U k,T U f,jA nm,jJ B C,jJ y z]by rw[Aa af,Aa K]);rw[Aa H]at l;go_wp2_with (at_builtin;refine J7 _ rfl _ _ 41 rfl (R<|Q F) 88 S (jL #[T U 0,T U 0,jA jX,jT,jT]) 5 64 underlying41 W aa ab ac rfl Ob _ _ _ rfl (K7 r _) ⟨R (Q wr)+2,0,V⟩ 1 1 [T U k,T U f,jA nm,jJ B C,jJ y z] rfl rfl ?d1 ?d2 ?d3 ?d4 ?d5 ?_);case d1=>exact IE _ _ _ _ _ _ _ _ Oz
  case d2=>intro u hu;simp at hu;obtain rfl|rfl|rfl|rfl|rfl:=hu<;>rfl
  case d3=>unfold maxLen;omega
  case d4=>omega
  case d5=>simp;omega
  intro v' ao I x _;have J:=(t.alloc t.size<|jC #[T U k,T U f,jA nm,jJ B C,jJ y z] 88).grown x Od λq hq=>(r.lt q hq).1;clear x;go_wp2;go_roundw;case rel=>exact⟨k+1,Aa E,O0,by rw[Aa l];exact I,J⟩
  have:=Aa E;simp[intOf];omega
 have e:k=m:=Oa;subst e;rw[show L.take k=L by rw[<-Aa ax,zq]]at D;obtain⟨aN,aO,rfl,_⟩:=Af D;go_wp2;go_ret;exact⟨⟨_,Es,rfl,rfl,ai.dN,ai.dX,Gf D z1⟩,M.trans<|o.mono M.size⟩
open Classical in theorem ZN(a b:M3)(n c m d:Nat)(A B:M6)(w:jD)(h1:Am w a n c A)(h2:Am w b m d B):Calls jZ 230 #[X a n c,X b m d] w λe w'=>e=jN (.bool<|decide (A=B))/\Ak w w':=by
 have s1:n<=9223372036854775807:=by have:=h1.cap;have:=h1.aH;unfold maxLen at this;omega
 have HA:=Ab h1.len;by_cases hnm:n=m
 .have enm:((n:Int)!=(m:Int))=jI:=by rw[hnm];simp
  have HE:=Ab (Qf (A:=A) (B:=B)<|by rw[<-h1.len,<-h2.len,hnm]);have Hnm:=Ab hnm;go_enter func230,ntmps230;go_wp2_with fail;go_loopw[13] (λi wr=>∃k:Nat,k<=n/\i=T U k/\Ak w wr/\Hid (∀j,j<k->AB A j=AB B j)) (λi _=>n-(intOf i).toNat);case atStart=>exact⟨0,Oa,rfl,BRN,Ab λj h=>K4 h Oa⟩
  obtain⟨k,hk,rfl,B1,Ha⟩:=hrel;by_cases hlt:k<n
  .have ilt:(k:Int)<(n:Int):=Oa;have ilm:(k:Int)<(m:Int):=G7<|Aa Hnm;obtain⟨b1,o1,rfl,hl1,c1⟩:=(h1.below B1 NLN).cells k hlt;obtain⟨b2,o2,rfl,hl2,c2⟩:=(h2.below B1 NLN).cells k<|G7<|Aa Hnm;have Hno:=Ab (show AB A k≠AB B k->decide (A=B)=jI from λe=>za λe'=>e<|(Aa HE).1 e' k<|by rw[<-Aa HA];exact hlt);have HN:=Ab (show AB A k=AB B k->∀j,j<k+1->AB A j=AB B j from λe j h'=>by
    by_cases ej:j=k
    .subst ej;exact e
    exact Aa Ha j Oa);have Hlt:=Ab hlt;have BD:=B1.drew;generalize AB A k=x at c1 Hno HN;generalize AB B k=y at c2 Hno HN;by_cases hxy:x=y
   .have exy:(x.toList==y.toList)=jG:=(Iu x y).2 hxy;have HN2:=Ab<|Aa HN hxy;go_wp2_with fail;go_region;go_wp2;go_roundw;case rel=>exact⟨k+1,Aa Hlt,O0,BD,HN2⟩
    have:=Aa Hlt;simp[intOf];omega
   have exy:(x.toList==y.toList)=jI:=by rw[yD];exact λh=>hxy ((Iu x y).1 h)
   go_wp2_with fail;go_region;go_wp2;go_ret;exact⟨Ae (Aa<|Ab<|Aa Hno hxy).symm,BD⟩
  have e:k=n:=Oa;subst e;have HX:=Ab<|show decide (A=B)=jG from zc<|(Aa HE).2 λj hj=>Aa Ha j<|G7<|Aa HA;go_wp2;go_ret;exact⟨Ae (Aa HX).symm,B1⟩
 have enm:((n:Int)!=(m:Int))=jG:=zW.2 Oa;have HX:=Ab (show decide (A=B)=jI from za λe=>hnm<|by rw[h1.len,h2.len,e]);go_enter func230,ntmps230;go_wp2;go_ret;exact⟨Ae (Aa HX).symm,BRN⟩
theorem Amo{s:M1}:s∈A↔∃j,j<Y A/\AB A j=s:=by
 constructor
 .intro h;obtain⟨j,a,rfl⟩:=zk h;exact⟨j,a,Vm a⟩
 grind[Vm]
theorem ZO(a:M3)(n c:Nat)(A:M6)(s:M1)(w:jD)(h1:Am w a n c A):Calls jZ 198 #[X a n c,jA s] w λe w'=>(∃k:Int,e=jN (T U k)/\(0<=k↔s∈A))/\Ak w w':=by
 have s1:n<=9223372036854775807:=by have:=h1.cap;have:=h1.aH;unfold maxLen at this;omega
 have l:=Ab h1.len;go_enter func198,ntmps198;go_wp2_with fail;go_loopw[8] (λi wr=>∃k:Nat,k<=n/\i=T U k/\Ak w wr/\Hid (∀j,j<k->AB A j≠s)) (λi _=>n-(intOf i).toNat);case atStart=>exact⟨0,Oa,rfl,BRN,Ab λj h=>K4 h Oa⟩
 obtain⟨k,v,rfl,b,m⟩:=hrel;by_cases f:k<n
 .have y:(k:Int)<(n:Int):=Oa;obtain⟨b1,z,rfl,B,c1⟩:=(h1.below b NLN).cells k f;have o:=Ab<|show AB A k=s->s∈A from λe=>Amo.2 ⟨k,by rw[<-Aa l];exact f,e⟩;have p:=Ab (show AB A k≠s->∀j,j<k+1->AB A j≠s from λe j C=>by
   by_cases r:j=k
   .subst r;exact e
   exact Aa m j Oa);have q:=Ab f;generalize AB A k=x at c1 o p;by_cases d:x=s
  .have t:(s.toList==x.toList)=jG:=(Iu s x).2 d.symm;go_wp2;go_ret;exact⟨⟨k,rfl,⟨λ_=>Aa<|Ab<|Aa o d,λ_=>Oa⟩⟩,b⟩
  have t:(s.toList==x.toList)=jI:=by rw[yD];exact λh=>d ((Iu s x).1 h).symm
  have g:=Ab<|Aa p d;go_wp2;go_roundw;case rel=>exact⟨k+1,Aa q,O0,b,g⟩
  have:=Aa q;simp[intOf];omega
 have e:k=n:=Oa;subst e;have g:=Ab (show s ∉ A from λh=>by obtain⟨j,u,e⟩:=Amo.1 h;exact Aa m j (by rw[Aa l];exact u) e);go_wp2;go_ret;exact⟨⟨-1,rfl,⟨λh=>K4 h Ob,λh=>K4 h<|Aa g⟩⟩,b⟩
open Classical in theorem SY(a:M3)(n c:Nat)(A:M6)(s:M1)(w:jD)(h1:Am w a n c A):Calls jZ 183 #[X a n c,jA s] w λe w'=>e=jN (.bool<|decide (s∈A))/\Ak w w':=by
 go_enter func183,ntmps183;go_wp2_with fail;refine(ZO _ _ _ A s _ h1).mono ?_;rintro r w1 ⟨⟨k,rfl,hk⟩,hb1⟩;have HK:=Ab hk;by_cases h0:0<=k
 .have HX:=Ab<|zc<|(Aa HK).1 h0;go_wp2;go_ret;exact⟨by rw[Aa HX];rfl,hb1⟩
 have HX:=Ab<|za λh=>h0<|(Aa HK).2 h;go_wp2;go_ret;exact⟨by rw[Aa HX];rfl,hb1⟩
section
variable{aS aO aZ aW:jH}{G:Nat->Prop}
theorem Afl(op a b:Int)(w:jD)(hs:Cx w aS aO aZ aW)(k:Cf a)(l:Cf b)(q:op=11\/op=12\/op=13\/op=14\/op=15\/op=21\/op=22):Calls jZ 185 #[T U op,T U a,T U b] w (SV G aS aO aZ aW (BI op (.int a)<|.int b) w):=by
 rcases(Oa:(11<=op/\op<=15)\/op=21\/op=22)with m|rfl|rfl;rotate_left;iterate 2 go_enter func185,ntmps185;go_wp2_with fail;exact K8 (v:=jS #[jJ 140<|.bool _,jT]) (by simp[results,results185,go_sem]) rfl ⟨⟨_,rfl,rfl⟩,BRN⟩
 have d:=Ab<|Lg (op-10) a b w hs k l;have h1:=OJ (op-10) a b;have h2:=El (op-10) a b;have f:=Ab<|ES (a:=a) (b:=b) m;generalize AW (op-10) a b=p at d h1 h2 f;obtain⟨h,c⟩:=p;dsimp only at h1 h2;have n:Hid (c=0/\Ml aS aO aZ aW c=jT\/c≠0/\∃e,Ml aS aO aZ aW c=jJ 313 (jQ<|Z e)):=Ab (by by_cases h0:c=0;exact .inl ⟨h0,by rw[h0];rfl⟩;exact .inr ⟨h0,It Oa⟩);have i:=Ab<|L7 h1 h2;rcases(Oa:op=11\/op=12\/op=13\/op=14\/op=15)with rfl|rfl|rfl|rfl|rfl;all_goals
  simp only[Int.reduceSub]at d;go_enter func185,ntmps185;go_wp2_with fail;refine(Aa d).mono ?_;rintro r s ⟨rfl,j⟩;dsimp only[Ey];obtain⟨h0,he⟩|⟨h0,e,he⟩:=Aa n;all_goals rw[he];have g:=Ab h0;have o:=Ab he;go_wp2_with fail
  .refine K8 (v:=jS #[jJ 196<|T U h,jT]) (by simp[results,results185,go_sem]) rfl ?_;rw[Aa f,BJ,K1<|Aa g];exact⟨⟨_,rfl,rfl,(Aa i).2⟩,j⟩
  refine K8 (v:=jS #[jJ 196<|T U h,jJ 313<|jQ<|Z e]) (by simp[results,results185,go_sem]) rfl ?_;rw[Aa f,BJ,K0<|Aa g];have h0:=Aa g;have h1:=(Aa i).1;exact⟨⟨_,by rw[Aa o],Ho,Ho⟩,j⟩
theorem Fq{ss:M6}(h:Am w a n c ss):∀j,j<Y ss->(AB ss j).size<=maxLen:=by grind[Am.bE,Am.len]
theorem WY{e:TypeId}{size n c:Nat}{x:M3}(h:jP d (R<|Q w) e size (X x k c) n f)(g:∀b,R (Q w)<=b->G b):∀a,x=Z a->0<k->G (jW a):=λa e _=>g _ (h.lt (jW a) G1).1
theorem Afm(op:Int)(a:M3)(n c:Nat)(ss:M6)(b:M3)(m d:Nat)(tt:M6)(w:jD)(hs:Cx w aS aO aZ aW)(h1:Am w a n c ss)(h2:Am w b m d tt)(l1:Y ss<=1048576)(k:∀b,R (Q w)<=b->G b)(u:op=16\/op=17\/op=18\/op=24):Calls jZ 184 #[T U op,X a n c,X b m d] w (SV G aS aO aZ aW (BI op (.set ss)<|.set tt) w):=by
 obtain rfl|rfl|rfl|rfl:=u;case inl=>
  go_enter func184,ntmps184;go_wp2_with fail;refine(Aa<|Ab<|Ado a n c ss b m d tt w hs h1 h2).mono ?_;rintro l o ⟨x,h,K,e,rfl,f,g,i⟩;have j:=Ab i;have hS:=Am.bB f<|i.bE (Fq h1)<|Fq h2;have y:=Ab<|WY f k;have hc:=i.code;by_cases h0:e=0
  .subst h0;dsimp only[Ml,if_true];go_wp2_with fail;refine K8 (v:=jS #[jJ 193<|X x (Y K) h,jT]) Hb rfl ?_;rw[JI,KG<|Aa j];exact⟨⟨_,rfl,_,_,_,rfl,hS,by have:=(Aa j).len;show Y K<=1048576;omega,Aa y⟩,g⟩
  obtain⟨q,hq⟩:=It (aS:=aS) (aO:=aO) (aZ:=aZ) (aW:=aW) (c:=e) Oa;have p:=Ab h0;rw[hq];go_wp2_with fail;refine K8 (v:=jS #[jJ 193<|X x (Y K) h,jJ 313<|jQ<|Z q]) Hb rfl ?_;rw[JI,KG<|Aa j,DP,K0<|Aa p];have:=Aa<|Ab hc;have:=Aa p;exact⟨⟨_,by rw[hq],by dsimp only at*;omega,by dsimp only at*;omega⟩,g⟩
 case inr.inr.inr=>go_enter func184,ntmps184;go_wp2_with fail;refine(Aa<|Ab<|WZ a n c ss b m d tt w h1 h2).mono ?_;rintro l o ⟨rfl,g⟩;generalize z:Cy ss tt=q;go_wp2_with fail;refine K8 (v:=jS #[jJ 140<|.bool q,jT]) Hb rfl ?_;rw[Mp,Aa<|Ab z];exact⟨⟨_,rfl,rfl⟩,g⟩
 case' inr.inl=>rw[Qc];have r:=Ab<|Adp a n c ss b m d tt w h1 h2;have hz:=L7 (Qg ss tt<|Fq h1)<|zB (W8 ss tt) l1;generalize s:Bq ss tt=K at hz
 case' inr.inr.inl=>rw[OH];have r:=Ab<|ZP a n c ss b m d tt w h1 h2;have hz:=L7 (OM ss tt<|Fq h1)<|zB (TI ss tt) l1;generalize s:AP ss tt=K at hz
 all_goals have t:=Ab hz;go_enter func184,ntmps184;go_wp2_with fail;refine(Aa r).mono ?_;rintro l o ⟨x,h,rfl,f,g⟩;rw[Aa<|Ab s]at f|-;go_wp2;exact K8 (v:=jS #[jJ 193<|X x (Y K) h,jT]) Hb rfl ⟨⟨_,rfl,_,_,_,rfl,(Am.bB f (Aa t).1),(Aa t).2,Aa<|Ab<|WY f k⟩,g⟩
theorem AbU(b:Bool):∀w,(method 454 140 (.bool b) "loop.example/s01308/impl.same").run jZ w=.ok (222,(.bool b)) w:=λ_=>Ok
theorem Afn(n:Int):∀w,(method 454 196 (T U n) "loop.example/s01308/impl.same").run jZ w=.ok (231,(T U n)) w:=λ_=>Ok
theorem AbV(s:M1):∀w,(method 454 199 (jA s) "loop.example/s01308/impl.same").run jZ w=.ok (232,(jA s)) w:=λ_=>Ok
theorem Afo(a:M3)(n c:Nat):∀w,(method 454 193 (X a n c) "loop.example/s01308/impl.same").run jZ w=.ok (229,(X a n c)) w:=λ_=>Ok
def Xa(v u:Vv)(w:jD)(r:Ending)(w':jD):Prop:=r=jN (.bool<|CJ v u)/\Ak w w'
open Classical in theorem Xb(a b:Bool):CJ (.bool a) (.bool b)=(a==b):=by grind[CJ]
open Classical in theorem Qh(a b:Int):CJ (.int a) (.int b)=(a==b):=by grind[CJ]
open Classical in theorem Xc(a b:M1):CJ (.text a) (.text b)=(a.toList==b.toList):=by grind[CJ,Iu]
open Classical in theorem Qi(a b:M6):CJ (.set a) (.set b)=decide (a=b):=by grind[CJ]
theorem TJ(a b:Bool)(w:jD):Calls jZ 222 #[.bool a,jJ 140<|.bool b] w<|Xa (.bool a) (.bool b) w:=by have c:=AbS;go_enter func222,ntmps222;go_wp2;go_ret;exact⟨by rw[Xb];rfl,BRN⟩
theorem TM(a b:Int)(w:jD):Calls jZ 231 #[T U a,jJ 196<|T U b] w<|Xa (.int a) (.int b) w:=by have d:=Afj;have c:=Ab<|Qh a b;generalize (a==b)=q at c;go_enter func231,ntmps231;go_wp2;go_ret;exact⟨by rw[Qh];rfl,BRN⟩
theorem TN(a b:M1)(w:jD):Calls jZ 232 #[jA a,jJ 199<|jA b] w<|Xa (.text a) (.text b) w:=by have c:=AbT;go_enter func232,ntmps232;go_wp2;go_ret;exact⟨by rw[Xc];rfl,BRN⟩
theorem TQ(a:M3)(n c:Nat)(ss:M6)(b:M3)(m d:Nat)(tt:M6)(w:jD)(h1:Am w a n c ss)(h2:Am w b m d tt):Calls jZ 229 #[X a n c,jJ 193<|X b m d] w<|Xa (.set ss) (.set tt) w:=by have i:=Afk;have g:=Ab<|ZN a b n c m d ss tt w h1 h2;have f:=Ab<|Qi ss tt;generalize CJ (.set ss) (.set tt)=q at f;rw[<-Aa f]at g;go_enter func229,ntmps229;go_wp2_with fail;refine(Aa g).mono ?_;rintro j k ⟨rfl,h⟩;dsimp only;go_wp2;go_ret;exact⟨by rw[Qi,<-Aa f];rfl,h⟩
end
open Classical in noncomputable def eqP(num num':Int)(text text':M1)(A A':M6):Bool:=decide (num=num'/\text=text'/\A=A')
open Classical in theorem Qm(c0 num:Int)(text:M1)(a:M3)(n c:Nat)(A:M6)(c0' num':Int)(text':M1)(a':M3)(n' c':Nat)(A':M6)(w:jD)(h:Am w a n c A)(h':Am w a' n' c' A'):Calls jZ 168 #[jL #[T U c0,T U num,jA text,X a n c],jL #[T U c0',T U num',jA text',X a' n' c']] w λr w'=>r=jN (.bool<|eqP num num' text text' A A')/\Ak w w':=by
 have B0:=(Ar w<|jC #[T U c0,T U num,jA text,X a n c] 146).alloc Oz<|jC #[T U c0',T U num',jA text',X a' n' c'] 146;have R0:=(Ah.new w #[T U c0,T U num,jA text,X a n c] 146).alloc<|jC #[T U c0',T U num',jA text',X a' n' c'] 146;have R1:=Ah.new (jK w<|jC #[T U c0,T U num,jA text,X a n c] 146) #[T U c0',T U num',jA text',X a' n' c'] 146;simp only[K6]at R1;have H0:=h.below B0 NLN;have H1:=h'.below B0 NLN;have s1:n<=9223372036854775807:=P5;have HA:=Ab h.len;have HB:=Ab h'.len;clear h h';by_cases hn:num=num'
 .have en:(num !=num')=jI:=by rw[hn];simp
  by_cases ht:text=text'
  .have et:(text.toList !=text'.toList)=jI:=by rw[ht];simp
   have et2:(text.toList==text'.toList)=jG:=by rw[ht];simp
   by_cases hl:n=n'
   .have el:((n:Int)!=(n':Int))=jI:=by rw[hl];simp
    have HE:=Ab (Qf (A:=A) (B:=A')<|by rw[<-Aa HA,<-Aa HB,hl]);have HQ:=Ab (show eqP num num' text text' A A'=decide (A=A')by simp[eqP,hn,ht]);have Hnm:=Ab hl;clear hn ht hl;go_enter func168,ntmps168;go_wp2_with fail;generalize (jK (jK w (jC #[T U c0,T U num,jA text,X a n c] 146)) (jC #[T U c0',T U num',jA text',X a' n' c'] 146))=W1 at B0 R0 R1 H0 H1|-;go_loopw[31] (λi wr=>∃k:Nat,k<=n/\i=T U k/\Ak W1 wr/\Hid (∀j,j<k->AB A j=AB A' j)) (λi _=>n-(intOf i).toNat);case atStart=>exact⟨0,Oa,rfl,BRN,Ab λj h=>K4 h Oa⟩
    obtain⟨k,hk,rfl,D1,Ha⟩:=hrel;have B1:=B0.trans<|D1.mono B0.size;by_cases hlt:k<n
    .have ilt:(k:Int)<(n:Int):=Oa;have ilm:(k:Int)<(n':Int):=G7<|Aa Hnm;obtain⟨b1,o1,rfl,hl1,c1⟩:=(H0.below D1 NLN).cells k hlt;obtain⟨b2,o2,rfl,hl2,c2⟩:=(H1.below D1 NLN).cells k<|G7<|Aa Hnm;have q3:jE wr ⟨R (Q w)+1,3,V⟩=Z (X (Z<|jB b2 o2 V) n' c'):=(R1.aB D1 NLN).cell 3;have Hno:=Ab (show AB A k≠AB A' k->decide (A=A')=jI from λe=>za λe'=>e<|(Aa HE).1 e' k<|by rw[<-Aa HA];exact hlt);have HN:=Ab (show AB A k=AB A' k->∀j,j<k+1->AB A j=AB A' j from λe j h'=>by
      by_cases ej:j=k
      .subst ej;exact e
      exact Aa Ha j Oa);have Hlt:=Ab hlt;clear Ha hlt;generalize AB A k=x at c1 Hno HN;generalize AB A' k=y at c2 Hno HN;by_cases hxy:x=y
     .have exy:(y.toList==x.toList)=jG:=(Iu y x).2 hxy.symm;have HN2:=Ab<|Aa HN hxy;clear hxy Hno HN;go_wp2;go_roundw;case rel=>exact⟨k+1,Aa Hlt,O0,D1,HN2⟩
      have:=Aa Hlt;simp[intOf];omega
     have exy:(y.toList==x.toList)=jI:=by rw[yD];exact λh=>hxy ((Iu y x).1 h).symm
     have HX:=Ab<|Aa Hno hxy;clear hxy Hno HN;go_wp2;go_ret;exact⟨Ae ((Aa HQ).trans<|Aa HX).symm,B1⟩
    have e:k=n:=Oa;subst e;have HX:=Ab<|show decide (A=A')=jG from zc<|(Aa HE).2 λj hj=>Aa Ha j<|G7<|Aa HA;go_wp2;go_ret;exact⟨Ae ((Aa HQ).trans<|Aa HX).symm,B1⟩
   have el:((n:Int)!=(n':Int))=jG:=zW.2 Oa;have HX:=Ab (show eqP num num' text text' A A'=jI from za λe=>hl<|by rw[Aa HA,Aa HB,e.2.2]);clear hn ht hl;go_enter func168,ntmps168;go_wp2;go_ret;exact⟨Ae (Aa HX).symm,B0⟩
  have et:(text.toList !=text'.toList)=jG:=by rw[bne,yD.2 λk=>ht<|(Iu _ _).1 k];rfl
  have et2:(text.toList==text'.toList)=jI:=yD.2 λk=>ht<|(Iu _ _).1 k;have HX:=Ab<|show eqP num num' text text' A A'=jI from za λe=>ht e.2.1;clear hn ht;go_enter func168,ntmps168;go_wp2;go_ret;exact⟨Ae (Aa HX).symm,B0⟩
 have en:(num !=num')=jG:=zW.2 hn;have HX:=Ab<|show eqP num num' text text' A A'=jI from za λe=>hn e.1;clear hn;go_enter func168,ntmps168;go_wp2;go_ret;exact⟨Ae (Aa HX).symm,B0⟩
def ZS(w:jD)(a:M3)(c:Nat):Prop:=(a=V->c=0)/\∀ad,a=Z ad->∃cs,Ah w (jW ad) cs 9
theorem ZS.below{w':jD}{B:Nat}(h:ZS w a c)(b:Below B w w')(hB:R (Q w)<=B):ZS w' a c:=⟨h.1,λd e=>by obtain⟨cs,f⟩:=h.2 d e;exact⟨cs,f.aB b hB⟩⟩
theorem ZS.setCell{w:jD}{a:M3}{c:Nat}(h:ZS w a c)(b j:Nat)(u:jF):ZS (World.setCell w (jB b j V) u) a c:=⟨h.1,λf e=>by
 obtain⟨cs,d⟩:=h.2 f e;by_cases g:jW f=b
 .rw[g]at d|-;exact⟨_,d.set j u⟩
 exact⟨cs,d.aJ g u⟩⟩
theorem ZS.bB{B:Nat}{x:M3}{n a:Nat}{b:N4}(h:jP w B 9 1 (X x n a) n b):ZS w x a:=by
 obtain⟨q,_⟩|⟨g,cap,c,q,_,hg,_⟩:=h.2
 .grind[ZS]
 simp only[Value.slice.injEq]at q;obtain⟨rfl,_,rfl⟩:=q;exact⟨λe=>(nomatch e),λd e=>⟨c,by cases e;exact⟨hg⟩⟩⟩
def PI(w:jD)(num:Int)(text:M1)(a:M3)(n c:Nat):Vv->Prop|.bool b=>num=(if b then 1 else 0)/\text=⟨#[]⟩/\a=V/\n=0/\c=0|.int k=>(num=k/\Cf k)/\text=⟨#[]⟩/\a=V/\n=0/\c=0|.text s=>num=0/\text=s/\a=V/\n=0/\c=0|.set ss=>num=0/\text=⟨#[]⟩/\Am w a n c ss/\Y ss<=1048576/\ZS w a c
theorem PI.below{w w':jD}{B:Nat}{num:Int}{text:M1}{a:M3}{n c:Nat}{v:Vv}(h:PI w num text a n c v)(d:Below B w w')(hB:R (Q w)<=B):PI w' num text a n c v:=by cases v with|bool b=>exact h|int k=>exact h|text s=>exact h|set ss=>obtain⟨h1,h2,h3,h4,h5⟩:=h;exact⟨h1,h2,h3.below d hB,h4,h5.below d hB⟩
def Vv.aE:Vv->M6|.set ss=>ss|_=>[]
theorem PI.cP{v:Vv}(h:PI w num text a n c v):Am w a n c v.aE/\Y v.aE<=1048576/\(a=V->c=0):=by have nil:Am w V 0 0 []:=⟨rfl,NLN,zH _,λj h=>K4 h Oa,λj h=>K4 h Oa⟩;cases v with|bool b=>obtain⟨_,_,rfl,rfl,rfl⟩:=h;exact⟨nil,zH _,λ_=>rfl⟩|int k=>obtain⟨_,_,rfl,rfl,rfl⟩:=h;exact⟨nil,zH _,λ_=>rfl⟩|text s=>obtain⟨_,_,rfl,rfl,rfl⟩:=h;exact⟨nil,zH _,λ_=>rfl⟩|set ss=>exact⟨h.2.2.1,h.2.2.2.1,h.2.2.2.2.1⟩
open Classical in theorem PI.same  {num':Int}{text':M1}{a':M3}{n':Nat}{v u:Vv}(h:PI w num text a n c v)(h':PI w num' text' a' n' c' u)(ht:v.ty=u.ty):CJ v u=eqP num num' text text' v.aE u.aE:=by rw[CJ,eqP,decide_eq_decide];cases v with|bool b=>obtain⟨d,rfl⟩:=Vv.bC (v:=u) ht.symm;obtain⟨rfl,rfl,_⟩:=h;obtain⟨rfl,rfl,_⟩:=h';cases b<;>cases d<;>simp[Vv.aE]|int k=>obtain⟨d,rfl⟩:=Vv.bI (v:=u) ht.symm;obtain⟨⟨rfl,_⟩,rfl,_⟩:=h;obtain⟨⟨rfl,_⟩,rfl,_⟩:=h';simp[Vv.aE]|text s=>obtain⟨d,rfl⟩:=Vv.cA (v:=u) ht.symm;obtain⟨rfl,rfl,_⟩:=h;obtain⟨rfl,rfl,_⟩:=h';simp[Vv.aE]|set ss=>obtain⟨d,rfl⟩:=Vv.aR (v:=u) ht.symm;obtain⟨rfl,rfl,_⟩:=h;obtain⟨rfl,rfl,_⟩:=h';simp[Vv.aE]
def BY(o:Ev)(w:jD)(r:Ending)(w':jD):Prop:=(∃code num text a n c,r=jN (jL #[T U code,T U num,jA text,X a n c])/\(match o with|.ok v=>code=0/\PI w' num text a n c v|.err e=>code=e/\e≠0))/\Ak w w'
theorem Em(b:Bool)(w:jD):Calls jZ 167 #[.bool b] w<|BY (.ok<|.bool b) w:=by have a:∀cs,Ak w<|jK w<|jC cs 146:=λcs=>Ar w _;cases b with|true=>go_enter func167,ntmps167;go_wp2_with fail;refine K8 (v:=jL #[T U 0,T U 1,jA ⟨#[]⟩,X V 0 0]) (by simp[results,results167,go_sem]) rfl ?_;exact⟨⟨_,_,_,_,_,_,rfl,rfl,rfl,rfl,rfl,rfl,rfl⟩,a _⟩|false=>go_enter func167,ntmps167;go_wp2_with fail;refine K8 (v:=jL #[T U 0,T U 0,jA ⟨#[]⟩,X V 0 0]) (by simp[results,results167,go_sem]) rfl ?_;exact⟨⟨_,_,_,_,_,_,rfl,rfl,rfl,rfl,rfl,rfl,rfl⟩,a _⟩
set_option maxHeartbeats 3200000
theorem Y7(op:Int)(w:jD):Calls jZ 102 #[T U op] w λa w'=>a=jN (.bool<|decide (11<=op/\op<=16))/\w'=w:=by
 by_cases h:11<=op/\op<=16
 .rcases(Oa:op=11\/op=12\/op=13\/op=14\/op=15\/op=16)with rfl|rfl|rfl|rfl|rfl|rfl;all_goals go_enter func102,ntmps102;go_wp2;go_ret;exact⟨rfl,rfl⟩
 have b:=Ab<|za h;have c:(op==11)=jI:=zA.2 Oa;have d:(op==12)=jI:=zA.2 Oa;have f:(op==13)=jI:=zA.2 Oa;have g:(op==14)=jI:=zA.2 Oa;have i:(op==15)=jI:=zA.2 Oa;have j:(op==16)=jI:=zA.2 Oa;clear h;go_enter func102,ntmps102;go_wp2;go_ret;exact⟨by rw[Aa b];rfl,rfl⟩
def Bb(b:Bool)(w:jD)(r:Ending)(w':jD):Prop:=r=jN (.bool b)/\Ak w w'
theorem AhP(T:TypeId)(v:jF)(K:M8)(c:Bool)(z:KdX T v<|K.map Ex.val)(S:Y K<=3)(A:Hid (T≠168/\T≠170/\c=jG)\/(T=168/\∃i op t u,v=jL #[ja U i,ja U op,jJ t u]/\c=!decide (op=8))\/T=170/\∃i op t u B C,v=jL #[ja U i,ja U op,jJ t u,jJ B C]/\c=!decide (11<=op/\op<=16))(F:∀k∈K,∀w,Calls jZ 48 #[k.val] w<|Bb (AD k) w)(w:jD):Calls jZ 48 #[jJ T v] w<|Bb (c&&K.all AD) w:=by
 obtain⟨ah,ai,aj,z,n,d⟩:=z;have G:=Ab<|BL n.1 n.2.1 n.2.2;have d:=Ab d;have W:=Ab F;obtain⟨m,hm⟩:∃m,m=Y K:=⟨_,rfl⟩;unfold KdA at d;rw[zZ,<-hm]at d;have H:=Ab hm;have ak:m<=3:=Oa;have hB:=λo=>Ar w o;have ts:=tas T v;clear hm n F S;obtain A|⟨rfl,i,op,t,u,rfl,rfl⟩|⟨rfl,i,op,t,u,B,C,rfl,rfl⟩:=A;case' inl=>obtain⟨h1,h2,rfl⟩:=Aa A;simp only[NP,K0 h1,K0 h2]at ts;have b:=IQ w
 case' inr.inl=>
  simp only[NP,Nat.reduceEqDiff,reduceIte]at ts;have b:=hB<|jC #[ja U i,ja U op,jJ t u] 168;by_cases h8:op=8
  .subst h8;obtain⟨_,_,_,_,_,_,_,aa,ab,ac⟩:=ts;go_enter func48,ntmps48;go_wp2;go_ret;exact⟨Oz,b⟩
  have e8:(op==8)=jI:=zA.2 h8;rw[za h8];clear h8
 case' inr.inr=>simp only[NP,Nat.reduceEqDiff,reduceIte]at ts;have b:=hB<|jC #[ja U i,ja U op,jJ t u,jJ B C] 170
 all_goals obtain⟨_,_,_,_,_,_,_,aa,ab,ac⟩:=ts;go_enter func48,ntmps48;go_wp2_with fail
 all_goals
  first
   |rw[Aa G,Oper.upon_enter]
   |refine(Y7 op _).mono ?_;rintro p al ⟨rfl,rfl⟩;dsimp only;cases hq:decide (11<=op/\op<=16);case true=>go_wp2;go_ret;exact⟨by rw[hq];rfl,b⟩
    go_wp2_with fail;rw[Aa G,Oper.upon_enter]
  refine(Aa d _).mono ?_;rintro p ad ⟨a,rfl,ae,I⟩;have q:=b.trans<|I.mono b.size;clear b I;dsimp only;go_wp2_with fail;go_loopw[23] (λj wr=>∃k:Nat,k<=m/\j=ja U k/\Hid ((K.take k).all AD=jG)/\Ak ad wr) (λj _=>m-(intOf j).toNat);case atStart=>exact⟨0,zH _,rfl,Ab rfl,BRN⟩
  obtain⟨k,z,rfl,r,s⟩:=hrel;by_cases y:k<m
  .have ao:(k:Int)<(m:Int):=Oa;have f:k<Y K:=by rw[<-Aa H];exact y
   obtain⟨g,rfl,D⟩:=(ae.aV λg cs _ p=>p.aB s NLN).at (k:=k) (by rw[zZ];exact f);have E:=Ab<|Aa W _<|zI f;have J:=zY f;have L:=Ab (show(K.take<|k+1).all AD=AD K[k]by rw[J,List.all_append,Aa r];simp);have M:=Ab<|show AD K[k]=jI->K.all AD=jI from λh=>List.all_eq_false.2 ⟨_,zI f,by simp[h]⟩;have N:=Ab y;rw[List.getElem_map]at D;generalize K[k]=x at D E L M;obtain⟨ap,aq,af⟩:=x.form;rw[af]at D E;clear J y f r;go_wp2_with fail;refine(Aa E _).mono ?_;rintro p ar ⟨rfl,ag⟩;have O:=s.trans<|ag.mono s.size;dsimp only;cases P:AD x
   .have l:=Ab<|Aa M P;go_wp2;go_ret;exact⟨by rw[Aa l,Bool.and_false];rfl,q.trans<|O.mono q.size⟩
   have l:=Ab<|(Aa L).trans P;go_wp2;go_roundw;case rel=>exact⟨k+1,Aa N,O0,l,O⟩
   have:=Aa N;simp[intOf];omega
  have l:=Ab (show K.all AD=jG by have:=Aa r;rw[zh<|by rw[<-Aa H];omega]at this;exact this);obtain rfl:k=m:=Oa;clear y r;go_wp2;go_ret;exact⟨by rw[Aa l];first|rfl|(rw[hq];rfl),q.trans<|s.mono q.size⟩
theorem DI(e:Ex)(w:jD):Calls jZ 48 #[e.val] w<|Bb (AD e) w:=by
 obtain⟨T,v,a,b,_⟩:=e.mth;have f:∀k∈e.aC,∀w,Calls jZ 48 #[k.val] w<|Bb (AD k) w:=λk b=>by have:=e.dJ k b;exact DI k
 have G:=λc g=>AhP T v e.aC c b e.dP g f w;rw[<-a]at G;cases e with|un i op k=>obtain⟨t,u,d⟩:=k.form;rw[Ex.val,d]at a;cases a;simpa[AD,Ex.aC]using G _<|.inr<|.inl ⟨rfl,i,op,t,u,rfl,rfl⟩|bin i op k l=>obtain⟨t,u,d⟩:=k.form;obtain⟨h,j,m⟩:=l.form;rw[Ex.val,d,m]at a;cases a;simpa[AD,Ex.aC]using G _<|.inr<|.inr ⟨rfl,i,op,t,u,h,j,rfl,rfl⟩|_=>cases a;simpa[AD,Ex.aC,Bool.and_assoc]using G jG<|.inl<|Ab ⟨Ob,Ob,rfl⟩termination_by e.aL
end Go.Proofs.YtlcfoihgfcmfeaaGreatDoor
