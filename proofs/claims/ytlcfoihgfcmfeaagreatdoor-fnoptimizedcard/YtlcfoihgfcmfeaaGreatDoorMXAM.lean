import Derived.Test.YtlcfoihgfcmfeaaGreatDoorMXAN
import Derived.Test.YtlcfoihgfcmfeaaGreatDoorMXAJ
import Derived.Test.YtlcfoihgfcmfeaaGreatDoorMXAE
open Option renaming none->V,some->Z
open List renaming length->Y
open Array renaming size->R,size->jh
open Go renaming World->jD,Value->jF,Addr->jH,TypeId->jR
namespace Go.Proofs.YtlcfoihgfcmfeaaGreatDoor
open Proofs.Tryz
open Value renaming int->T,slice->X,string->jA,pointer->jQ
open IntKind renaming i64->U
open World renaming heap->Q,cell?->jE,ownsRow->jP
open Addr renaming mk->jB
open Ending renaming returned->jN
open Proofs.Tryz renaming prog->jZ
set_option linter.unusedVariables false
set_option maxRecDepth 100000
set_option maxHeartbeats 3200000
variable{K M:M6}{zs:M4}{base a c p:Nat}{x:M3}{P:Program}{i:Prop}{w w':jD}
section
open Go.RowKit Go.ChangeShapes
structure Rd(w:jD)(R:Nat)(a:M3)(n c p:Nat):Prop where
 row:Ah w R #[X a n c,T U (p:Int)] 78
 le:p<=n
 aH:n<=1048576
 cells:∀j,j<n->∃b off z,a=Z (jB b off V)/\b<R/\jE w ⟨b,off+j,V⟩=Z (T .u8 z)/\0<=z/\z<=255
end
section
open Go.RowKit
def Ig(k:Nat):M1:=⟨(Lib.decDigits k).toArray⟩
theorem LA{k:Nat}(h:k<10):Ig k=AbQ (48+(k:Int)):=by have e:(48+(k:Int)).toNat=48+k:=Oa;unfold Ig AbQ;rw[Lib.decDigits,dif_pos h,e];rfl
theorem XR{k:Nat}(h:10<=k):Ig k=Ig (k/10)++Ig (k%10):=by apply Og;grind[Go.Lib.decDigits.eq_def,Ig,ByteArray.data_append]
theorem Fa(k:Nat):(Ig k).size<=k+1:=by induction k using Nat.strongRecOn with|_ k a=>
   by_cases h:k<10
   .rw[LA h,P8];omega
   rw[XR Oa,Ge,LA (k:=k%10) Oa,P8];grind
theorem QJ(m:Nat)(x:Int){a:Ending->jD->Prop}(h:Calls jZ 135 #[T U m] w a)(e:x=m):Calls jZ 135 #[T U x] w a:=by grind
theorem Tg(k:Nat)(w:jD)(j:k<=9999999):Calls jZ 135 #[T U k] w λe w'=>e=jN (jA<|Ig k)/\Ak w w':=by induction k using Nat.strongRecOn generalizing w with|_ k c=>
  by_cases h:k<10
  .have d:(k:Int)<10:=Oa;have l:=Amk;go_enter func135,ntmps135;go_wp2;go_ret;exact⟨by rw[Aa<|Ab<|LA h];rfl,BRN.alloc NLN _⟩
  have d:(10:Int)<=(k:Int):=Oa;have f:=Ab<|XR (k:=k) Oa;have z1:=Fa<|k/10;have z2:=Fa<|k%10;have a:Hid<|∀(m:Nat),m<k->∀(w:jD),m<=9999999->Calls jZ 135 #[T U m] w λe w'=>e=jN (jA<|Ig m)/\Ak w w':=c;go_enter func135,ntmps135;go_wp2_with fail;refine(QJ (k/10) _ (Aa a (k/10) Oa w Oa) Oa).mono ?_;rintro e g ⟨rfl,b⟩;go_wp2_with fail;refine(QJ (k%10) _ (Aa a (k%10) Oa g Oa) Oa).mono ?_;rintro e w2 ⟨rfl,i⟩;go_wp2;go_ret;exact⟨by rw[Aa f];rfl,b.trans<|i.mono b.size⟩
theorem Ed(x:Int)(w:jD)(h0:0<=x)(a:x<=9999999):Calls jZ 135 #[T U x] w λe w'=>e=jN (jA<|Ig x.toNat)/\Ak w w':=by obtain⟨k,rfl⟩:=Int.eq_ofNat_of_zero_le h0;grind[Tg]
set_option linter.unusedVariables false
theorem AJ.drewN{lo hi:Nat}(w:jD)(k:Nat):AJ lo hi w<|w.drewN k:=AJ.aU (below_drewN (IQ w) k) NLN
theorem AJ.aI{lo hi B:Nat}{a w2:jD}(t:AJ lo hi w a)(h:Below B a w2)(hB:R (Q w)<=B):AJ lo hi w w2:=⟨h.os.trans t.os,h.tape.trans t.tape,h.output.trans t.output,zB t.size h.size,λk b c=>(h.block k Oa).trans<|t.block k b c⟩
structure AY(w:jD)(base:Nat)(x:M3)(K:M6)(cx:Nat):Prop where
 bG:jP w base 9 1 (X x (Y K) cx) (Y K)<|K.map Value.string
 aH:∀s∈K,s.size<=1000
theorem AY.bE{b:Nat}(h:AY w base x K b):∀j,j<Y K->(AB K j).size<=maxLen:=λj a=>by rw[Dw K j a];have:=h.aH _<|zI a;unfold maxLen;omega
theorem AY.cP(h:AY w base x K a):Am w x (Y K) a K:=Am.bB h.bG h.bE
theorem AY.nil(w:jD)(base:Nat):AY w base V [] 0:=⟨G8,Oz⟩
theorem AY.bM{lo hi a:Nat}(h:AY w base x K a)(t:AJ lo hi w w')(b:hi<=base):AY w' base x K a:=⟨Ff h.bG λy hy=>by subst hy;have:=h.bG.lt _ rfl;exact t.block _ this.2<|.inr Oa,h.aH⟩
theorem AY.below{B a:Nat}(h:AY w base x K a)(b:Below B w w')(hB:R (Q w)<=B):AY w' base x K a:=⟨Ff h.bG λy hy=>by subst hy;have:=h.bG.lt _ rfl;exact b.block _ Oa,h.aH⟩
theorem AY.mono{base' a:Nat}(h:AY w base x K a)(b:base'<=base):AY w base' x K a:=⟨ER h.bG b,h.aH⟩
theorem Mo(h:Bl K M)(hs:∀s∈K,s.size<=1000):∀s∈M,s.size<=1000:=by grind[Bl.mem]
theorem AY.cE{s:M1}(h:jP w base 9 1 (X x (Y K+1) a) (Y K+1)<|K.map Value.string++[jA s])(b:∀u∈K,u.size<=1000)(hs:s.size<=1000):AY w base x (K++[s]) a:=⟨by rw[zN,zC];exact h,λu hu=>by
  obtain hu|hu:=zJ.1 hu
  .exact b u hu
  simp only[zK]at hu;subst hu;exact hs⟩
theorem AY.app{L:M6}(h:jP w base 9 1 (X x (Y K+Y L) a) (Y K+Y L)<|K.map Value.string++L.map Value.string)(b:∀u∈K,u.size<=1000)(c:∀u∈L,u.size<=1000):AY w base x (K++L) a:=⟨by rw[zN,zC];exact h,λu hu=>by
  obtain hu|hu:=zJ.1 hu
  .exact b u hu
  exact c u hu⟩
end
section
open Go.RowKit Go.ChangeShapes
structure DB(w:jD)(a:M3)(n c:Nat)(zs:M4):Prop where
 len:n=Y zs
 cap:n<=c
 aH:c<=maxLen
 cells:∀j,j<n->∃b off,a=Z (jB b off V)/\b<R (Q w)/\jE w ⟨b,off+j,V⟩=Z (T .u8<|zs.getD j 0)/\0<=zs.getD j 0/\zs.getD j 0<=255
theorem DB.below{B:Nat}{a:M3}{n:Nat}(h:DB w a n c zs)(d:Below B w w')(hB:R (Q w)<=B):DB w' a n c zs:=⟨h.len,h.cap,h.aH,λj i=>by obtain⟨b,f,k,g,hc,hz⟩:=h.cells j i;exact⟨b,f,k,zG g d.size,by rw[<-hc];exact d.cell (p:=⟨b,f+j,V⟩)<|zG g hB,hz⟩⟩
theorem DB.dT{i:Type}{enc:jR×jF->i}{o:Bool}{t e:jR}{fuel:Nat}{x:DataW i×List MemPlace}{a:M3}{n:Nat}(ht:P.underlying t=Z (.slice e))(he:P.underlying e=Z (.int .u8))(hc:P.cellsOf e=1)(h:DataW.trod enc P w 0 (λ_=>true) o fuel t [.slice a n c]=Z x):∃zs,DB w a n c zs:=by
 obtain⟨d,_⟩|⟨p,len,cap,zs,d,_,q,hm,hz,_,k,r⟩:=open_ints ht he hc h
 .simp only[List.cons.injEq,Value.slice.injEq,and_true]at d;obtain⟨rfl,rfl,rfl⟩:=d;exact⟨[],rfl,NLN,zH _,λj l=>Oa⟩
 simp only[List.cons.injEq,Value.slice.injEq,and_true]at d;obtain⟨rfl,rfl,rfl⟩:=d;simp only[if_true]at hz;refine⟨zs.take n,Od,q,hm,λj l=>?_⟩;have hg:(zs.take n).getD j 0=zs.getD j 0:=by simp[List.getD,l]
 rw[hg];have hs:=World.cell?_spot<|k 0 Oa;obtain⟨b,f,v⟩:=p;simp only[Addr.add,if_true]at hs;subst hs;have g:=k j Oa;have s:((jB b f V):jH).add j=⟨b,f+j,V⟩:=by by_cases e:j=0<;>simp[Addr.add,e]
 rw[s]at g;have m:=bounds_u8 (r (zs.getD j 0)<|by simp[List.getD,show j<Y zs from Oa]);refine⟨b,f,rfl,?_,g,m.1,m.2⟩;by_cases u:b<R (Q w)
 .exact u
 have:(Q w)[b]?=V:=Array.getElem?_eq_none Oa;simp[jE,this]at g
structure JF(w:jD)(R:Nat)(a:M3)(n c:Nat)(zs:M4)(p:Nat):Prop where
 row:Ah w R #[X a n c,T U (p:Int)] 78
 len:n=Y zs
 le:p<=n
 aH:n<=1048576
 cells:∀j,j<n->∃b off,a=Z (jB b off V)/\b<R/\jE w ⟨b,off+j,V⟩=Z (T .u8<|zs.getD j 0)/\0<=zs.getD j 0/\zs.getD j 0<=255
theorem JF.aB{B R:Nat}{a:M3}{n c:Nat}{p:Nat}(h:JF w R a n c zs p)(d:Below B w w')(hB:R<B):JF w' R a n c zs p:=⟨h.row.below d hB,h.len,h.le,h.aH,λj g=>by obtain⟨b,f,i,k,hc,hz⟩:=h.cells j g;exact⟨b,f,i,k,by rw[<-hc];exact d.cell (p:=⟨b,f+j,V⟩) (Oa:b<B),hz⟩⟩
theorem JF.step{R:Nat}{a:M3}{n:Nat}(h:JF w R a n c zs p)(d:p<n):JF (World.setCell w (jB R 1 V)<|T U ((p+1:Nat):Int)) R a n c zs<|p+1:=⟨by simpa using h.row.set 1<|T U ((p+1:Nat):Int),h.len,d,h.aH,λj f=>by obtain⟨b,g,i,k,hc,hz⟩:=h.cells j f;refine⟨b,g,i,k,?_,hz⟩;rw[<-hc];exact L0<|L2 w (jB R 1 V) b _ (Oa:b≠R)⟩
theorem JF.lt{w:jD}{R:Nat}{a:M3}{n c:Nat}{zs:M4}{p:Nat}(h:JF w R a n c zs p):R<jh (Q w):=h.row.lt
def nx(zs:M4)(p:Nat):Int×Nat:=if p<Y zs then (zs.getD p 0,p+1)else (0,p)
theorem Cq(R:Nat)(a:M3)(n c:Nat)(zs:M4)(p:Nat)(w:jD)(h:JF w R a n c zs p):Calls jZ 37 #[jQ<|Z<|jB R 0 V] w λe w'=>∃(d:Int)(q:Nat),e=jN (T U d)/\Hid (nx zs p=(d,q))/\0<=d/\d<=255/\JF w' R a n c zs q/\AJ R (R+1) w w':=by
 have c0:=h.row.cell 0;have c1:=h.row.cell 1;have l:=h.row.frozen 1;simp at c0 c1;have m:=h.aH;by_cases g:p<n
 .obtain⟨b,o,j,r,hz,i,z1⟩:=h.cells p g;have f:=Ab (show nx zs p=(zs.getD p 0,p+1)by rw[nx,K1 Q5]);generalize zs.getD p 0=z at hz i z1 f;subst j;have k:(p:Int)<(n:Int):=Oa;go_enter func37,ntmps37;go_wp2;go_quiet (fail);go_wp2;go_quiet (fail);go_wp2;go_ret;refine⟨_,p+1,rfl,f,i,z1,?_,?_⟩
  .rw[show((p:Int)+1)=((p+1:Nat):Int)from Oa];exact(h.aB (below_drewN (Below.refl (R+1) w) _) Oa).step g
  exact(AJ.drewN w _).trans (AJ.setCell _ (jB R 1 V) _ (Nat.le_refl R)<|Nat.lt_succ_self R)
 have f:=Ab (show nx zs p=(0,p)by rw[nx,K0 Q5]);have k:(n:Int)<=(p:Int):=Oa;go_enter func37,ntmps37;go_wp2;go_quiet (fail);go_wp2;go_ret;exact⟨_,p,rfl,f,Oa,Oa,h.aB (below_drewN (Below.refl (R+1) w) _) Oa,AJ.drewN w _⟩
def XP(k:Nat):M1:=[⟨#[114,101,97,100]⟩,⟨#[119,114,105,116,101]⟩,⟨#[97,100,109,105,110]⟩,⟨#[109,97,105,108]⟩,⟨#[97]⟩,⟨#[98]⟩,⟨#[99,46,100]⟩,⟨#[122,95,57]⟩].getD k ⟨#[]⟩
theorem AfS(w:jD)(k:Nat)(a:k<8):(XP k).size<=10/\jE (World.alloc w<|.cells #[jA ⟨#[114,101,97,100]⟩,jA ⟨#[119,114,105,116,101]⟩,jA ⟨#[97,100,109,105,110]⟩,jA ⟨#[109,97,105,108]⟩,jA ⟨#[97]⟩,jA ⟨#[98]⟩,jA ⟨#[99,46,100]⟩,jA ⟨#[122,95,57]⟩] 9) ⟨R<|Q w,k,V⟩=Z (jA<|XP k):=by have h:=(Ah.new w #[jA ⟨#[114,101,97,100]⟩,jA ⟨#[119,114,105,116,101]⟩,jA ⟨#[97,100,109,105,110]⟩,jA ⟨#[109,97,105,108]⟩,jA ⟨#[97]⟩,jA ⟨#[98]⟩,jA ⟨#[99,46,100]⟩,jA ⟨#[122,95,57]⟩] 9).cell k;match k,a with|0,_=>exact⟨Ob,h⟩|1,_=>exact⟨Ob,h⟩|2,_=>exact⟨Ob,h⟩|3,_=>exact⟨Ob,h⟩|4,_=>exact⟨Ob,h⟩|5,_=>exact⟨Ob,h⟩|6,_=>exact⟨Ob,h⟩|7,_=>exact⟨Ob,h⟩
def GW(zs:M4)(p:Nat):M1×Nat:=if (nx zs p).1%8=6 then ((((⟨#[115]⟩:M1)++Ig ((nx zs p).1/8).toNat)++⟨#[58]⟩)++Ig (nx zs (nx zs p).2).1.toNat,(nx zs (nx zs p).2).2)else if (nx zs p).1%8=7 then if 240<(nx zs p).1 then (⟨#[97,45,110,97,109,101,45,116,104,97,116,45,105,115,45,116,104,105,114,116,121,45,116,119,111,45,98,121,116,101,115,46]⟩,(nx zs p).2)else ((⟨#[120,46]⟩:M1)++Ig ((nx zs (nx zs p).2).1%90).toNat,(nx zs (nx zs p).2).2)else (XP ((nx zs p).1/8%8).toNat,(nx zs p).2)
def Amv(R:Nat)(a:M3)(n c:Nat)(zs:M4)(p:Nat)(w:jD)(e:Ending)(w':jD):Prop:=∃ (s:M1) (q:Nat),e=jN (jA s)/\Hid (GW zs p=(s,q))/\s.size<=1000/\JF w' R a n c zs q/\AJ R (R+1) w w'
theorem MJ(R:Nat)(a:M3)(n c:Nat)(zs:M4)(p:Nat)(w:jD)(h:JF w R a n c zs p):Calls jZ 126 #[jQ<|Z<|jB R 0 V] w λe w'=>Amv R a n c zs p w e w':=by
 go_enter func126,ntmps126;go_wp2_with fail;refine(Cq R a n c zs p w h).mono ?_;rintro e l ⟨x,i,rfl,X1,E,F,h1,b⟩;by_cases f:x%8=6
 .have o:(x%8==6)=true:=zD.2 f;have j:=Ab f;go_wp2_with fail;refine(Cq R a n c zs i _ h1).mono ?_;rintro e w2 ⟨y,m,rfl,X2,z,A,h2,g⟩;go_wp2_with fail;refine(Ed _ _ Oa Oa).mono ?_;rintro e B ⟨rfl,d⟩;have C:=Fa (x/8).toNat;have G:(⟨#[115]⟩:M1).size=1:=rfl;have H:(⟨#[58]⟩:M1).size=1:=rfl;go_wp2_with fail;refine(Ed _ _ Oa Oa).mono ?_;rintro e I ⟨rfl,q⟩;have J:=Fa y.toNat;have r:=h2.lt;go_wp2;go_ret;refine⟨_,m,rfl,Ab ?_,?_,(h2.aB d r).aB q<|zG r d.size,((b.trans g).aI d<|zB b.size g.size).aI q<|zB (zB b.size g.size) d.size⟩
  .rw[GW,Aa X1,K1<|Aa j,Aa X2]
  rw[Ge,Ge,Ge];omega
 by_cases k:x%8=7
 .have o:(x%8==6)=false:=zA.2 f;have D:(x%8==7)=true:=zD.2 k;have j:=Ab f;have t:=Ab k;by_cases u:240<x
  .go_wp2;go_ret;exact⟨_,i,rfl,Ab<|by rw[GW,Aa X1,K0<|Aa j,K1<|Aa t,K1 u],Ob,h1,b⟩
  have K:¬ (240<x):=u;go_wp2_with fail;refine(Cq R a n c zs i _ h1).mono ?_;rintro e w2 ⟨y,m,rfl,X2,z,A,h2,g⟩;go_wp2_with fail;refine(Ed _ _ Oa Oa).mono ?_;rintro e B ⟨rfl,d⟩;have C:=Fa (y%90).toNat;go_wp2;go_ret;refine⟨_,m,rfl,Ab ?_,?_,h2.aB d h2.lt,(b.trans g).aI d<|zB b.size g.size⟩
  .rw[GW,Aa X1,K0<|Aa j,K1<|Aa t,K0 Oa,Aa X2]
  rw[Ge];have:(⟨#[120,46]⟩:M1).size=2:=rfl;omega
 have o:(x%8==6)=false:=zA.2 f;have D:(x%8==7)=false:=zA.2 k;obtain⟨hs,hc⟩:=AfS l (x/8%8).toNat Oa;have v:=Ab (show GW zs p=(XP (x/8%8).toNat,i)by rw[GW,Aa X1,K0<|Aa<|Ab f,K0<|Aa<|Ab k]);generalize XP (x/8%8).toNat=s at hs hc v;go_wp2;go_ret;exact⟨s,i,rfl,v,Oa,h1.aB (Ar l _) h1.lt,b.aI (Ar l _) b.size⟩
end
section
open Go.RowKit
def Pc(m:Nat)(f:Int):M6:=(List.range m).map λ(i:Nat)=>(⟨#[119]⟩:M1)++Ig (f+(i:Int)).toNat
theorem QI(m:Nat)(f:Int):Pc (m+1) f=Pc m f++[(⟨#[119]⟩:M1)++Ig (f+(m:Int)).toNat]:=by simp[Pc,List.range_succ]
def Akx(w:jD)(m:Nat)(f:Int)(e:Ending)(w':jD):Prop:=∃x cx K,e=jN (X x (Y K) cx)/\Hid (K=Pc m f)/\Y K<=m/\AY w' (R<|Q w) x K cx/\Ak w w'
theorem AfT(m:Nat)(f:Int)(w:jD)(hm:m<=64)(F:0<=f)(G:f<=200):Calls jZ 128 #[T U m,T U f] w λe w'=>Akx w m f e w':=by
 obtain⟨i,hi,q,r,s⟩:=info_parts Gd;go_enter func128,ntmps128;go_wp2_with fail;go_loopw[5,6] (λv b wr=>∃ (k:Nat) (K:M6) (x:M3) (a:Nat),k<=m/\b=T U k/\v=X x (Y K) a/\Hid (K=Pc k f)/\Y K<=k/\AY wr (R<|Q w) x K a/\Ak w wr) (λ_ b _=>m-(intOf b).toNat);case atStart=>exact⟨0,[],V,0,zH _,rfl,rfl,Ab rfl,NLN,AY.nil _ _,BRN⟩
 obtain⟨k,K,x,a,g,rfl,rfl,h,t,j,c⟩:=hrel;by_cases H:k<m
 .have y:(k:Int)<(m:Int):=Oa;go_wp2_with fail;refine(Ed _ _ Oa Oa).mono ?_;rintro e z ⟨rfl,l⟩;have z1:=Fa (f+(k:Int)).toNat;have I:(⟨#[119]⟩:M1).size=1:=rfl;have n:=c.trans<|l.mono c.size;have o:=j.below l NLN;have p:=o.bG;have A:=n.size;go_wp2_with (at_builtin;refine J7 _ rfl _ _ 31 rfl (R<|Q w) 9 i (jA ByteArray.empty) 1 16 underlying31 hi q r s rfl Ob _ _ _ rfl (p.alloc _) ⟨R<|Q z,0,V⟩ 1 1 [jA<|⟨#[119]⟩++Ig (f+(k:Int)).toNat] rfl rfl ?c1 ?c2 ?c3 ?c4 ?c5 ?_);case c1=>exact L4 _ _ _
  case c2=>intro u hu;simp at hu;subst hu;rfl
  case c3=>unfold maxLen;omega
  case c4=>omega
  case c5=>simp;omega
  intro v' w2 d B _;have C:Ak w w2:=(n.alloc A _).grown B Od λk g=>(p.lt k g).1;obtain⟨D,E,hf⟩:=AG d;rw[hf]at d|-;go_wp2;go_roundw;case rel=>exact⟨k+1,K++[⟨#[119]⟩++Ig (f+(k:Int)).toNat],D,E,Oa,O0,by rw[zC];rfl,Ab<|by rw[QI,Aa h],Od,AY.cE d o.aH<|by rw[Ge];omega,C⟩
  simp[intOf]<;>omega
 have y:¬ ((k:Int)<(m:Int)):=Oa;obtain rfl:k=m:=Oa;go_wp2;go_ret;exact⟨x,a,K,rfl,h,t,j,c⟩
theorem Uk(m f:Int)(w:jD)(m0:0<=m)(hm:m<=64)(a:0<=f)(b:f<=200):Calls jZ 128 #[T U m,T U f] w λe w'=>Akx w m.toNat f e w':=by grind[AfT]
def Ea(zs:M4):Nat->Nat->M6×Nat|0,p=>([],p)|k+1,p=>((GW zs p).1::(Ea zs k (GW zs p).2).1,(Ea zs k (GW zs p).2).2)
def XQ(zs:M4)(p:Nat)(K:M6)(q:Nat):Prop:=((nx zs p).1%13=12->Bl (Pc (64-(nx zs p).1/13%3).toNat<|(nx zs (nx zs p).2).1%40) K/\q=(nx zs (nx zs p).2).2)/\((nx zs p).1%13≠12->Bl (Ea zs ((nx zs p).1%13%7).toNat (nx zs p).2).1 K/\q=(Ea zs ((nx zs p).1%13%7).toNat (nx zs p).2).2)
theorem XQ.aM{zs:M4}{p q a:Nat}{K b:M6}(h:XQ zs p K q)(c:XQ zs p b a):K=b/\q=a:=by
 by_cases e:(nx zs p).1%13=12
 .obtain⟨a1,a2⟩:=h.1 e;obtain⟨b1,b2⟩:=c.1 e;exact⟨a1.aM b1,by rw[a2,b2]⟩
 obtain⟨a1,a2⟩:=h.2 e;obtain⟨b1,b2⟩:=c.2 e;exact⟨a1.aM b1,by rw[a2,b2]⟩
def Amw(R:Nat)(a:M3)(n c:Nat)(zs:M4)(S:M6->Nat->Prop)(w:jD)(top:Nat)(e:Ending)(w':jD):Prop:=∃x cx K q,e=jN (X x (Y K) cx)/\Hid (S K q)/\Y K<=top/\AY w' (jh<|Q w) x K cx/\JF w' R a n c zs q/\AJ R (R+1) w w'
theorem VA(R:Nat)(a:M3)(n c:Nat)(zs:M4)(p:Nat)(w:jD)(h:JF w R a n c zs p):Calls jZ 127 #[jQ<|Z<|jB R 0 V] w λe w'=>Amw R a n c zs (XQ zs p) w 64 e w':=by
 obtain⟨i,hi,W,aa,ab⟩:=info_parts Gd;have ac:=h.lt;go_enter func127,ntmps127;go_wp2_with fail;refine(Cq R a n c zs p w h).mono ?_;rintro e ad ⟨x,b,rfl,X1,au,av,h1,H⟩;by_cases j:x%13=12
 .have ae:(x%13==12)=true:=zD.2 j;have o:=Ab j;go_wp2_with fail;refine(Cq R a n c zs b ad h1).mono ?_;rintro e w2 ⟨y,af,rfl,X2,aw,ax,h2,l⟩;have g:=H.trans l;go_wp2_with fail;refine(Uk _ _ _ Oa Oa Oa Oa).mono ?_;rintro e I ⟨x3,c3,ag,rfl,ah,ay,J,b3⟩;have az:Y ag<=64:=Oa;go_wp2_with fail;refine(IU _ _ _ _ _ J.cP Oa).mono ?_;rintro e ai ⟨r,c4,t,rfl,z,b4,f⟩;have L:=b3.trans<|b4.mono b3.size;have aj:=f.len;go_wp2;go_ret;refine⟨r,c4,t,af,rfl,Ab ⟨λ_=>?_,λM=>?_⟩,Oa,⟨ER z<|zB g.size b3.size,Mo f J.aH⟩,h2.aB L h2.lt,g.aI L g.size⟩
  .rw[Aa X1,Aa X2,<-Aa ah];exact⟨f,rfl⟩
  rw[Aa X1]at M;exact K4 (Aa o) M
 have ae:(x%13==12)=false:=zA.2 j;have o:=Ab j;go_wp2_with fail;go_loopw[4,5] (λv A wr=>∃ (k:Int) (K:M6) (y:M3) (B:Nat) (q:Nat),0<=k/\k<=6/\(Y K:Int)+k<=6/\A=T U k/\v=X y (Y K) B/\Hid (K++(Ea zs k.toNat q).1=(Ea zs (x%13%7).toNat b).1/\(Ea zs k.toNat q).2=(Ea zs (x%13%7).toNat b).2)/\AY wr (jh<|Q w) y K B/\JF wr R a n c zs q/\AJ R (R+1) w wr) (λ_ A _=>(intOf A).toNat);case atStart=>exact⟨x%13%7,[],V,0,b,Oa,Oa,Od,rfl,rfl,Ab ⟨rfl,rfl⟩,AY.nil _ _,h1,H⟩
 obtain⟨k,K,y,B,q,k0,aA,aC,rfl,rfl,N,C,D,ht⟩:=hrel;by_cases E:0<k
 .go_wp2_with fail;refine(MJ R a n c zs q wr D).mono ?_;rintro e w2 ⟨s,F,rfl,ak,al,h2,l⟩;have O:=C.bM l Oa;have g:=ht.trans l;have P:=O.bG;have ao:=g.size;have m:=Ab (show(K++[s])++(Ea zs (k-1).toNat F).1=(Ea zs (x%13%7).toNat b).1/\(Ea zs (k-1).toNat F).2=(Ea zs (x%13%7).toNat b).2 by have d:=Aa N;rw[(Oa:k.toNat=(k-1).toNat+1)]at d;simp only[Ea,Aa ak]at d;exact⟨by rw[<-d.1];simp,d.2⟩);go_wp2_with (at_builtin;refine J7 _ rfl _ _ 31 rfl (jh<|Q w) 9 i (jA ByteArray.empty) 1 16 underlying31 hi W aa ab rfl Ob _ _ _ rfl (P.alloc _) ⟨jh<|Q w2,0,V⟩ 1 1 [jA s] rfl rfl ?c1 ?c2 ?c3 ?c4 ?c5 ?_);case c1=>exact L4 _ _ _
  case c2=>intro u hu;simp at hu;subst hu;rfl
  case c3=>unfold maxLen;omega
  case c4=>omega
  case c5=>simp;omega
  intro v' I G ap _;have S:Below (jh<|Q w) w2 I:=((Below.refl (jh<|Q w) w2).alloc ao _).grown ap Od λk E=>(P.lt k E).1;obtain⟨aq,ar,hf⟩:=AG G;rw[hf]at G|-;go_wp2;go_roundw;case rel=>exact⟨k-1,K++[s],aq,ar,F,Oa,Oa,Od,O0,by rw[zC];rfl,m,AY.cE G O.aH al,h2.aB S ac,g.aI S NLN⟩
  simp[intOf]<;>omega
 have aD:¬ (0<k):=E;have aE:Y K<=6:=Oa;have m:=Ab (show K=(Ea zs (x%13%7).toNat b).1/\q=(Ea zs (x%13%7).toNat b).2 by have d:=Aa N;rw[(Oa:k.toNat=0)]at d;simp only[Ea,List.append_nil]at d;exact d);go_wp2_with fail;refine(IU _ _ _ _ _ C.cP Oa).mono ?_;rintro e ai ⟨r,c4,t,rfl,z,b4,f⟩;have aj:=f.len;go_wp2;go_ret;refine⟨r,c4,t,q,rfl,Ab ⟨λhe=>?_,λ_=>?_⟩,Oa,⟨ER z ht.size,Mo f C.aH⟩,D.aB b4 D.lt,ht.aI b4 ht.size⟩
 .rw[Aa X1]at he;exact K4 he<|Aa o
 rw[Aa X1,<-(Aa m).1];exact⟨f,(Aa m).2⟩
structure Anr(p:Prop):Prop where out:p
theorem Ak6{P a:Prop}(h:Anr P->a)(p:P):a:=h ⟨p⟩
theorem Ad6{c:Array Oper}{o:Oper}{a:Act}{K:Act->jD->Prop}{g:Exit->Act->jD->Prop}(j:o.guard=V)(x:Operand)(name:String)(k:Array jR)(l:o.op=.call {callee:=.invoke x name,args:=#[],argTypes:=k})(T:jR)(u:jF)(hx:a.eval x=.iface T u)(F:Nat)(m:P.types.size+Made.depth=F)(f:FuncId)(b:jF)(hm:∀w,(method F T u name).run P w=.ok (f,b) w)(fn:Func)(hf:P.funcs[f]?=Z fn)(n:(fn.name== "runtime.NumGoroutine")=false)(d:fn.body.isNone=false)(R:jF->jD->Prop)(hc:Calls P f #[b] w λe w'=>∃v,e=jN v/\R v w')(h:∀v w',R v w'->K (a.put o.dst v) w'):if Region.wanted o (yielded c a.tmps)=true then Oper.wp P o a w K g else i:=by
 have p:Region.wanted o (yielded c a.tmps)=true:=by simp[Region.wanted,j]
 rw[if_pos p];unfold Oper.wp;have q:(execOp a.eval o).run P w=.ok (.enter f #[b]) w:=by
  have h1:fn.name≠ "runtime.NumGoroutine":=by simpa using n
  have h2:(callFunc f #[b]).run P w=.ok (.enter f #[b]) w:=by
   have h3:fn.body≠V:=λe=>by rw[e]at d;cases d
   simp[callFunc,hf,h1,h3]
  have h4:(callMethod (.iface T u) name #[]).run P w=.ok (.enter f #[b]) w:=by subst m;have:(method (P.types.size+100) T u name).run P w=.ok (f,b) w:=hm w;simpa[callMethod,Result.andThen,go_sem,this]using h2
  generalize a.eval=s at hx|-;simp only[execOp,l,resolve,invoke,Sem.run_bind,Sem.run_pure,Result.andThen_ok,List.map_toArray,List.map_nil,hx];exact h4
 rw[q,Oper.upon_enter];refine hc.mono ?_;rintro e w' ⟨v,rfl,r⟩;exact h v w' r
end
end Go.Proofs.YtlcfoihgfcmfeaaGreatDoor
