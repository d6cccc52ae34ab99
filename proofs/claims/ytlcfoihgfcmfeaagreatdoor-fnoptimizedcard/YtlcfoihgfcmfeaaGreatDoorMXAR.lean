import Derived.Test.YtlcfoihgfcmfeaaGreatDoorMXAL
import Derived.Test.YtlcfoihgfcmfeaaGreatDoorMXAE
import Derived.Deep.AppendLies
import Derived.Deep.RegionLaw
open Option renaming none->V,none->jc,some->Z
open List renaming length->Y
open Array renaming size->R
open Go renaming World->jD,Value->jF,Addr->jH,TypeId->jR
namespace Go.Proofs.YtlcfoihgfcmfeaaGreatDoor
open Proofs.Tryz
open Value renaming int->T,int->ja,slice->X,string->jA,iface->jJ,agg->jL,ownBlock->jO,pointer->jQ,tuple->jS,nilIface->jT
open IntKind renaming i64->U
open World renaming heap->Q,cell?->jE,alloc->jK,setCell->jM,ownsRow->jP,drew->jV
open Addr renaming mk->jB
open Obj renaming cells->jC
open Ending renaming returned->jN
open Proofs.Tryz renaming prog->jZ
open Go.RowKit
set_option linter.unusedVariables false
set_option maxRecDepth 100000
set_option maxHeartbeats 1600000
variable{aT:jH}{t:Int}{ns:M6}{ts tt ks:M4}{vs:N4}{B:Nat}{x:M3}{b lv d i:jF}{w w' c:jD}
def abv(ts:M4)(e:Ex)(ks:M4):N8:=match e with|.int ..=>Z 2|.text ..=>Z 3|.bool ..=>Z 1|.set ..=>Z 4|.name ..=>V|.attr _ n=>Z<|Bc n|.lett _ n=>if 0<=n then ts[n.toNat]?else V|.un _ op _=>nz<|Ba op ks|.bin _ op _ _=>nz<|Ba op ks|.ite ..=>nz<|Ba 27 ks
def Hh(o:N8)(r:Ending):Prop:=(∃t,o=Z t/\r=jN (jS #[T U t,jT]))\/(o=V/\∃z t u,r=jN (jS #[T U z,jJ t u]))
theorem Hh.of_ot{o:N8}{a:Ending}(h:Af0 o aT a):Hh o a:=by cases o with|none=>exact .inr ⟨rfl,_,_,_,h⟩|some t=>exact .inl ⟨t,rfl,h⟩
structure SP(w:jD)(aN aA:jH):Prop where n:8<R (Q w)nc:jE w ⟨8,0,V⟩=Z (jJ 313<|jQ<|Z aN)a:6<R (Q w)ac:jE w ⟨6,0,V⟩=Z (jJ 313<|jQ<|Z aA)
theorem SP.below{c d:jH}(h:SP w c d)(b:Below B w w')(hB:R (Q w)<=B):SP w' c d:=⟨zG h.n b.size,(b.cell (p:=⟨8,0,V⟩)<|zG h.n hB).trans h.nc,zG h.a b.size,(b.cell (p:=⟨6,0,V⟩)<|zG h.a hB).trans h.ac⟩
theorem Tn(g:Nat)(num:Int)(h:M3)(a i:Nat)(ts:M4)(d l:jH)(w:jD)(m:SP w d l)(hc:jE w (jB g 1 V)=Z (X h a i))(f:BN w h a i ts):Calls jZ 179 #[jQ<|Z<|jB g 0 V,T U num] w λn w'=>Hh (if 0<=num then ts[num.toNat]?else V) n/\Ak w w':=by
 have nc:=m.nc;by_cases h0:num<0
 .have c:=Ab<|show(if 0<=num then ts[num.toNat]?else V)=V from K0 Oa;rw[Aa c];go_enter func179,ntmps179;go_wp2_with fail;go_region;all_goals go_wp2;exact K8 (v:=jS #[T U 0,jJ 313<|jQ<|Z d]) (by simp[results,results179,go_sem]) rfl ⟨.inr ⟨rfl,_,_,_,rfl⟩,BRN.drew⟩
 obtain⟨k,rfl⟩:∃k:Nat,num=k:=⟨num.toNat,Oa⟩;by_cases h1:k<a
 .have j:k<Y ts:=by rw[f.len];exact h1
  have c:=Ab (show(if (0:Int)<=(k:Int)then ts[(k:Int).toNat]?else V)=Z ts[k]by rw[K1 Oa,zP,zE j]);obtain⟨b,p,rfl,q,c0⟩:=f.cells k j;have o:(k:Int)<(a:Int):=Oa;rw[Aa c];generalize ts[k]=t at c0;go_enter func179,ntmps179;go_wp2;exact K8 (v:=jS #[T U t,jT]) (by simp[results,results179,go_sem]) rfl ⟨.inl ⟨t,rfl,rfl⟩,BRN⟩
 have c:=Ab (show(if (0:Int)<=(k:Int)then ts[(k:Int).toNat]?else V)=V by rw[K1 Oa,zP,zw<|by rw[f.len];omega]);rw[Aa c];have o:¬ ((k:Int)<(a:Int)):=Oa;go_enter func179,ntmps179;go_wp2_with fail;go_region;all_goals go_wp2;exact K8 (v:=jS #[T U 0,jJ 313<|jQ<|Z d]) (by simp[results,results179,go_sem]) rfl ⟨.inr ⟨rfl,_,_,_,rfl⟩,BRN.drew⟩
theorem I8(f:Nat)(T:jR)(i:Int)(x:jF)(d:Int)(h:(T=195/\d=2/\∃n,x=ja U n)\/(T=198/\d=3/\∃s,x=jA s)\/(T=179/\d=1/\∃b,x=.bool b)\/T=201/\d=4/\∃a n c,x=X a n c)(ka:M3)(kn kc:Nat)(w:jD):Calls jZ 158 #[jQ<|Z<|jB f 0 V,jJ T<|jL #[ja U i,x],X ka kn kc] w λg w'=>Hh (Z d) g/\Ak w w':=by have j:=λo=>Ar w o;have ts:=tas T<|jL #[ja U i,x];obtain⟨rfl,rfl,n,rfl⟩|⟨rfl,rfl,n,rfl⟩|⟨rfl,rfl,n,rfl⟩|⟨rfl,rfl,a,n,c,rfl⟩:=h;all_goals simp only[NP,Nat.reduceEqDiff,reduceIte]at ts;obtain⟨k,l,m,p,q,r,t,u,y,z⟩:=ts;go_enter func158,ntmps158;go_wp2;exact K8 (v:=jS #[ja U _,jT]) P3 rfl ⟨.inl ⟨_,rfl,rfl⟩,j _⟩
theorem AaF(c:Nat)(i n:Int)(ka:M3)(kn kc:Nat)(aT:jH)(w:jD)(b:OQ w aT)(f:0<=n/\n<6):Calls jZ 158 #[jQ<|Z<|jB c 0 V,jJ 202<|jL #[T U i,T U n],X ka kn kc] w λg w'=>Hh (Z<|Bc n) g/\Ak w w':=by have ts:=tas 202<|jL #[T U i,T U n];simp only[NP,Nat.reduceEqDiff,reduceIte]at ts;obtain⟨h,j,k,l,m,o,p,q,r,s⟩:=ts;have d:=Ar w<|jC #[T U i,T U n] 202;have t:=b.a;have c1:jE w ⟨0,1,V⟩=Z (T U<|Bc 0):=b.ac 1;have c3:jE w ⟨0,3,V⟩=Z (T U<|Bc 1):=b.ac 3;have c5:jE w ⟨0,5,V⟩=Z (T U<|Bc 2):=b.ac 5;have c7:jE w ⟨0,7,V⟩=Z (T U<|Bc 3):=b.ac 7;have u:jE w ⟨0,9,V⟩=Z (T U<|Bc 4):=b.ac 9;have c:jE w ⟨0,11,V⟩=Z (T U<|Bc 5):=b.ac 11;rcases(Oa:n=0\/n=1\/n=2\/n=3\/n=4\/n=5)with rfl|rfl|rfl|rfl|rfl|rfl;all_goals clear b f;go_enter func158,ntmps158;go_wp2;exact K8 (v:=jS #[T U<|Bc _,jT]) P3 rfl ⟨.inl ⟨_,rfl,rfl⟩,by first|exact d|exact d.drew⟩
theorem AaG(a:Nat)(i n:Int)(c:M3)(d f:Nat)(ts:M4)(ka:M3)(kn kc:Nat)(g h:jH)(w:jD)(j:SP w g h)(hc:jE w (jB a 1 V)=Z (X c d f))(k:a<R (Q w))(l:BN w c d f ts):Calls jZ 158 #[jQ<|Z<|jB a 0 V,jJ 175<|jL #[T U i,T U n],X ka kn kc] w λm w'=>Hh (if 0<=n then ts[n.toNat]?else V) m/\Ak w w':=by
 have ts:=tas 175<|jL #[T U i,T U n];simp only[NP,Nat.reduceEqDiff,reduceIte]at ts;obtain⟨x,y,A,B,C,D,E,F,G,H⟩:=ts;have b:=Ar w<|jC #[T U i,T U n] 175;have o:=Ab<|Tn a n c d f ts g h _ (j.below b NLN) ((b.cell (p:=(jB a 1 V)) k).trans hc)<|l.below b NLN;generalize (if 0<=n then ts[n.toNat]?else V)=I at o;clear j hc k l;go_enter func158,ntmps158;go_wp2_with fail;refine(Aa o).mono ?_;rintro m w2 ⟨r,s⟩;have q:=b.trans<|s.mono b.size;obtain⟨t,rfl,rfl⟩|⟨rfl,z,t,u,rfl⟩:=r
 .dsimp only;go_wp2;exact K8 (v:=jS #[T U t,jT]) P3 rfl ⟨.inl ⟨t,rfl,rfl⟩,q⟩
 dsimp only;go_wp2;exact K8 (v:=jS #[T U z,jJ t u]) P3 rfl ⟨.inr ⟨rfl,_,_,_,rfl⟩,q⟩
theorem Af6(A:Nat)(i op:Int)(t:jR)(u:jF)(ka:M3)(kn kc:Nat)(a:Int)(aT:jH)(w:jD)(n:OQ w aT)(g:BN w ka kn kc [a])(B:8<=op/\op<=10)(C:1<=a/\a<=4):Calls jZ 158 #[jQ<|Z<|jB A 0 V,jJ 168<|jL #[T U i,T U op,jJ t u],X ka kn kc] w λh w'=>Hh (nz<|Ba op [a]) h/\Ak w w':=by have ts:=tas 168<|jL #[T U i,T U op,jJ t u];simp only[NP,Nat.reduceEqDiff,reduceIte]at ts;obtain⟨K,L,M,N,O,S,W,aa,ab,ac⟩:=ts;obtain⟨b,ok,rfl,o,j⟩:=g.cells 0 Oz;obtain rfl:kn=1:=g.len.symm;simp only[yE,ze]at j;have k:=Ab λD E=>GZ op a 0 aT D E;rw[AkW B a C]at k;generalize nz (Ba op [a])=q at k|-;clear g;go_enter func158,ntmps158;go_wp2_with fail;refine CI (P:=Code.wp _ _ _ _) λc d l=>?_;have r:=(d.cell (p:=(jB b ok V)) o).trans j;have s:jE c ⟨R<|Q w,1,V⟩=Z (T U op):=l.cell 1;have F:=l.lt;have G:b<R (Q c):=zG o d.size;have f:Ak c<|jV c:=BRN.drew;have m:∀w',Ak c w'->jE w' (jB b ok V)=Z (T U a)/\jE w' ⟨R<|Q w,1,V⟩=Z (T U op):=λw' x=>⟨(x.cell (p:=(jB b ok V)) G).trans r,(x.cell (p:=⟨R<|Q w,1,V⟩) F).trans s⟩;have H:=Ab m;have ad:=m _ f;have I:=(n.below d NLN).below f NLN;clear n l m j r s;go_region_held3 (λw'=>jE w' (jB b ok V)=Z (T U a)/\jE w' ⟨R<|Q w,1,V⟩=Z (T U op)) (first|assumption|go_keep)(first|(go_at_call 180;refine(Aa k _ I).mono ?_;rintro h w2 ⟨y,J⟩;change h=_ at y;subst y;have z:=f.trans<|J.mono f.size;have ae:=Aa H _ z));go_wp2;exact K8 (v:=jS #[T U<|q.getD 0,AiR q.isSome aT]) P3 rfl ⟨Hh.of_ot (aT:=aT) rfl,d.trans<|z.mono d.size⟩
theorem AdP(G:Nat)(i op:Int)(t:jR)(u:jF)(r:jR)(s:jF)(ka:M3)(kn kc:Nat)(a b:Int)(aT:jH)(w:jD)(x:OQ w aT)(h:BN w ka kn kc [a,b])(H:11<=op/\op<=26)(I:1<=a/\a<=4)(d:1<=b/\b<=4):Calls jZ 158 #[jQ<|Z<|jB G 0 V,jJ 170<|jL #[T U i,T U op,jJ t u,jJ r s],X ka kn kc] w λk w'=>Hh (nz<|Ba op [a,b]) k/\Ak w w':=by
 have ts:=tas 170<|jL #[T U i,T U op,jJ t u,jJ r s];simp only[NP,Nat.reduceEqDiff,reduceIte]at ts;obtain⟨S,W,aa,ab,ac,ad,ae,af,ag,ah⟩:=ts;obtain⟨c,ok,rfl,l,m⟩:=h.cells 0 Oz;have y:jE w ⟨c,ok+1,V⟩=Z (T U b):=by
  obtain⟨b2,o2,e2,_,c2⟩:=h.cells 1 Oz;obtain⟨rfl,rfl⟩:c=b2/\ok=o2:=by simpa using e2
  simpa using c2
 obtain rfl:kn=2:=h.len.symm;simp only[yE,ze]at m;have n:=Ab λJ K=>GZ op a b aT J K;rw[AiT H a b I d]at n;generalize nz (Ba op [a,b])=z at n|-;clear d;clear h;go_enter func158,ntmps158;go_wp2_with fail;refine CI (P:=Code.wp _ _ _ _) λg f o=>?_;have A:=(f.cell (p:=(jB c ok V)) l).trans m;have B:=(f.cell (p:=⟨c,ok+1,V⟩) l).trans y;have C:jE g ⟨R<|Q w,1,V⟩=Z (T U op):=o.cell 1;have L:=o.lt;have D:c<R (Q g):=zG l f.size;have j:Ak g<|jV g:=BRN.drew;have q:∀w',Ak g w'->jE w' (jB c ok V)=Z (T U a)/\jE w' ⟨c,ok+1,V⟩=Z (T U b)/\jE w' ⟨R<|Q w,1,V⟩=Z (T U op):=λw' d=>⟨(d.cell (p:=(jB c ok V)) D).trans A,(d.cell (p:=⟨c,ok+1,V⟩) D).trans B,(d.cell (p:=⟨R<|Q w,1,V⟩) L).trans C⟩;have M:=Ab q;have ai:=q _ j;have N:=(x.below f NLN).below j NLN;clear x o q m A y B C;go_region_held3 (λw'=>jE w' (jB c ok V)=Z (T U a)/\jE w' ⟨c,ok+1,V⟩=Z (T U b)/\jE w' ⟨R<|Q w,1,V⟩=Z (T U op)) (first|assumption|go_keep)(first|(go_at_call 180;refine(Aa n _ N).mono ?_;rintro k w2 ⟨E,O⟩;change k=_ at E;subst E;have F:=j.trans<|O.mono j.size;have aj:=Aa M _ F));go_wp2;exact K8 (v:=jS #[T U<|z.getD 0,AiR z.isSome aT]) P3 rfl ⟨Hh.of_ot (aT:=aT) rfl,f.trans<|F.mono f.size⟩
theorem AdQ(J:Nat)(i:Int)(t:jR)(u:jF)(r:jR)(s:jF)(x:jR)(y:jF)(ka:M3)(kn kc:Nat)(a b d:Int)(aT:jH)(w:jD)(z:OQ w aT)(h:BN w ka kn kc [a,b,d])(g:1<=b/\b<=4):Calls jZ 158 #[jQ<|Z<|jB J 0 V,jJ 207<|jL #[T U i,jJ t u,jJ r s,jJ x y],X ka kn kc] w λm w'=>Hh (nz<|Ba 27 [a,b,d]) m/\Ak w w':=by
 have ts:=tas 207<|jL #[T U i,jJ t u,jJ r s,jJ x y];simp only[NP,Nat.reduceEqDiff,reduceIte]at ts;obtain⟨W,aa,ab,ac,ad,ae,af,ag,ah,ai⟩:=ts;obtain⟨c,ok,rfl,j,n⟩:=h.cells 0 Oz;have A:jE w ⟨c,ok+1,V⟩=Z (T U b):=by
  obtain⟨b2,o2,e2,_,c2⟩:=h.cells 1 Oz;obtain⟨rfl,rfl⟩:c=b2/\ok=o2:=by simpa using e2
  simpa using c2
 have B:jE w ⟨c,ok+2,V⟩=Z (T U d):=by
  obtain⟨b2,o2,e2,_,c2⟩:=h.cells 2 Oz;obtain⟨rfl,rfl⟩:c=b2/\ok=o2:=by simpa using e2
  simpa using c2
 obtain rfl:kn=3:=h.len.symm;simp only[yE,ze]at n;have C:=Ab λK L=>QW a b d aT K L g;generalize nz (Ba 27 [a,b,d])=D at C|-;clear g;clear h;go_enter func158,ntmps158;go_wp2_with fail;refine CI (P:=Code.wp _ _ _ _) λk f M=>?_;have E:=(f.cell (p:=(jB c ok V)) j).trans n;have F:=(f.cell (p:=⟨c,ok+1,V⟩) j).trans A;have G:=(f.cell (p:=⟨c,ok+2,V⟩) j).trans B;have o:c<R (Q k):=zG j f.size;have l:Ak k<|jV k:=BRN.drew;have q:∀w',Ak k w'->jE w' (jB c ok V)=Z (T U a)/\jE w' ⟨c,ok+1,V⟩=Z (T U b)/\jE w' ⟨c,ok+2,V⟩=Z (T U d):=λw' g=>⟨(g.cell (p:=(jB c ok V)) o).trans E,(g.cell (p:=⟨c,ok+1,V⟩) o).trans F,(g.cell (p:=⟨c,ok+2,V⟩) o).trans G⟩;have N:=Ab q;have aj:=q _ l;have O:=(z.below f NLN).below l NLN;clear z M q n E A F B G;go_region_held3 (λw'=>jE w' (jB c ok V)=Z (T U a)/\jE w' ⟨c,ok+1,V⟩=Z (T U b)/\jE w' ⟨c,ok+2,V⟩=Z (T U d)) (first|assumption|go_keep)(first|(go_at_call 181;refine(Aa C _ O).mono ?_;rintro m w2 ⟨H,S⟩;change m=_ at H;subst H;have I:=l.trans<|S.mono l.size;have ak:=Aa N _ I));go_wp2;exact K8 (v:=jS #[T U<|D.getD 0,AiR D.isSome aT]) P3 rfl ⟨Hh.of_ot (aT:=aT) rfl,f.trans<|I.mono f.size⟩
structure Ac7(w:jD)(lo:Nat)(v:jF)(N:M7)(P:Ex->Prop)(Es:M8):Prop where
 bG:jP w lo 86 1 v (Y Es)<|Es.map Ex.val
 dN:∀j,(h:j<Y Es)->Be N j Es[j]dX:∀e∈Es,P e
theorem Ac7.trs{lo:Nat}{v:jF}{N:M7}{P:Ex->Prop}{Es:M8}(h:Ac7 w lo v N P Es)(hs:Y Es<=1048576):∃a c,v=X a (Y Es) c/\Trs w a (Y Es) c Es:=by obtain⟨a,c,rfl,b⟩:=Af h.bG;refine⟨a,c,rfl,rfl,hs,λj d=>?_⟩;obtain⟨g,rfl,hg,f⟩:=b Oa;refine⟨g,0,rfl,(h.bG.lt g rfl).2,?_⟩;have:=f j Es[j].val (by simp[d]);simpa using this
theorem AhC:(jZ.info? 86).map (λi=>(i.zero,i.size,i.bytes))=Z (Z jT,1,16):=Ok
def AbZ(w0:jD)(N:M7)(P:Ex->Prop):Prop:=∀(k:Nat) (x:Nd) (an:M3) (nn cn:Nat) (Es:M8),N[k]?=Z x->Y Es=k->(∀j,(h:j<Y Es)->Be N j Es[j])->(∀e∈Es,P e)->Am w0 an nn cn x.aE->∃e,MkT Es k x an nn cn e/\Be N k e/\P e
theorem Y5(a:M3)(n c:Nat)(N:M7)(s w:jD)(h:GN s a n c N)(H:Ak s w)(P:Ex->Prop)(I:AbZ s N P):Calls jZ 44 #[X a n c] w λJ w'=>(∃v Es,J=jN v/\Y Es=n/\Ac7 w' (R<|Q w) v N P Es)/\Ak w w':=by
 have aE:=h.aH;have ak:=Ab h.len;have al:=Ab I;clear I;obtain⟨ao,ap,aq,ar,au⟩:=info_parts AhC;go_enter func44,ntmps44;go_wp2_with fail;go_loopw[3,8] (λv i wr=>∃ (k:Nat) (Es:M8),k<=n/\i=T U k/\Hid (Y Es=k)/\Ac7 wr (R<|Q w) v N P Es/\Ak w wr) (λ_ i _=>n-(intOf i).toNat);case atStart=>exact⟨0,[],Oa,rfl,rfl,⟨G8,λj y=>K4 y Oz,λe he=>(by cases he)⟩,BRN⟩
 obtain⟨k,Es,aF,rfl,l,d,r⟩:=hrel;by_cases z:k<n
 .have aG:(k:Int)<(n:Int):=Oa;have A:k<Y N:=by rw[Aa ak];exact z
  have g:=H.trans<|r.mono H.size;obtain⟨b,o,rfl,m,an,nn,cn,B,C,D,K,d1,d2,d3,d4,L,M⟩:=h.cells k A;have c0:=(g.cell (p:=⟨b,o+k*5,V⟩) m).trans K;have c1:=(g.cell (p:=⟨b,o+k*5+1,V⟩) m).trans d1;have c2:=(g.cell (p:=⟨b,o+k*5+2,V⟩) m).trans d2;have c3:=(g.cell (p:=⟨b,o+k*5+3,V⟩) m).trans d3;have c4:=(g.cell (p:=⟨b,o+k*5+4,V⟩) m).trans d4;have E:=M.below g NLN;clear K d1 d2 d3 d4 M g;have hx:N[k]?=Z N[k]:=zE A;obtain⟨e,hm,ht,O⟩:=Aa al k _ an nn cn Es hx (Aa l) d.dN d.dX L;have S:=Ab z;have av:Y Es<=1048576:=by rw[Aa l];omega
  obtain⟨aw,ax,rfl,W⟩:=d.trs av;have ay:=Ab (λj (y:j<Y (Es++[e]))=>show Be N j (Es++[e])[j]by
   by_cases aa:j<Y Es
   .rw[zg aa];exact d.dN j aa
   have:j=Y Es:=by simp at y;omega
   subst this;simp only[List.getElem_concat_length];rw[Aa l];exact ht);have az:=Ab (λf (hf:f∈Es++[e])=>show P f by
   obtain hf|hf:=zJ.1 hf
   .exact d.dX f hf
   simp at hf;subst hf;exact O);have ab:=d.bG;generalize N[k]=x at c0 c1 c2 c3 c4 E hm;have ac:=r.alloc r.size<|CW x.op x.num x.text an nn cn B C D;have ad:=Ar wr<|CW x.op x.num x.text an nn cn B C D;have ae:=ab.alloc<|CW x.op x.num x.text an nn cn B C D;have af:=Ab<|Abt hm (E.below ad NLN)<|W.below ad NLN;obtain⟨t,u,F⟩:=e.form;rw[F]at af;have aA:=Ab F;have aB:=l;clear E L hm ht O W ab d hx A z F m l;go_wp2_with fail;refine(Aa af).mono ?_;rintro J ag ⟨rfl,ah⟩;have ai:jP ag (R<|Q w) 86 1 (X aw (Y Es) ax) (Y Es)<|Es.map Ex.val:=Ac ae λq hq=>ah.block q (ae.lt q hq).2;have G:=ac.trans<|ah.mono ac.size;have aI:=G.size;dsimp only;go_wp2_with (at_builtin;refine J7 _ rfl _ _ 91 rfl (R<|Q w) 86 ao jT 1 16 underlying91 ap aq ar au rfl Ob _ _ _ rfl (K7 ai _) ⟨R<|Q ag,0,V⟩ 1 1 [jJ t u] rfl rfl ?d1 ?d2 ?d3 ?d4 ?d5 ?_);case d1=>exact A6 _ _ _ _ Oz
  case d2=>intro u hu;simp at hu;subst hu;rfl
  case d3=>unfold maxLen;omega
  case d4=>omega
  case d5=>simp;omega
  intro v' aJ aC aj _;have aD:=(G.alloc G.size<|jC #[jJ t u] 86).grown aj Od λq hq=>(ai.lt q hq).1;clear aj;go_wp2;go_roundw;case rel=>exact⟨k+1,Es++[e],Aa S,O0,Ab<|by simp[Aa aB],⟨by rw[zN,zC];simp only[List.map_cons,List.map_nil,Aa aA];exact aC,Aa ay,Aa az⟩,aD⟩
  have:=Aa S;simp[intOf];omega
 have e:k=n:=Oa;subst e;go_wp2;go_ret;exact⟨⟨_,Es,rfl,Aa l,d⟩,r⟩
structure Ck(B cb:Nat)(ts tt:M4)(mv lv tv:jF)(w:jD):Prop where
 row:Ah w cb #[mv,lv,tv] 64
 aQ:jP w B 3 1 lv (Y ts)<|Ap ts
 types:jP w B 3 1 tv (Y tt)<|Ap tt
 aP:B<=cb
 bH:∀q,jO lv=Z q->jO tv≠Z q
structure Kt(B cb:Nat)(tv:jF)(w:jD)(tv':jF)(w':jD):Prop where
 aP:Below B w w'
 aV:∀k,k<R (Q w)->k≠cb->Z k≠jO tv->(Q w')[k]?=(Q w)[k]?new:∀q,jO tv'=Z q->jO tv=Z q\/R (Q w)<=q
theorem Kt.trans{B a:Nat}{c b d:jF}{w f w2:jD}(h:Kt B a c w b f)(k:Kt B a b f d w2):Kt B a c w d w2:=⟨h.aP.trans k.aP,λq h1 h2 h3=>by
  have g:Z q≠jO b:=λe=>by
   obtain e2|e2:=h.new q e.symm
   .exact h3 e2.symm
   omega
  exact(k.aV q (zG h1 h.aP.size) h2 g).trans (h.aV q h1 h2 h3),λq hq=>by
  obtain e|e:=k.new q hq
  .exact h.new q e
  exact .inr (zB h.aP.size e)⟩
theorem Kt.bK{b:Nat}{a:jF}(h:Ak w w')(hB:B<=R (Q w)):Kt B b a w a w':=⟨h.mono hB,λk c _ _=>h.block k c,λq hq=>.inl hq⟩
theorem Ck.below{b:Nat}{c:jF}(h:Ck B b ts tt c lv d w)(a:Ak w w'):Ck B b ts tt c lv d w':=⟨h.row.aB a NLN,Ac h.aQ λq hq=>a.block q (h.aQ.lt q hq).2,Ac h.types λq hq=>a.block q (h.types.lt q hq).2,h.aP,h.bH⟩
theorem Kt.row{a:Nat}{c:jF}(h:Kt B a b w c w'){g:Nat}{cs:Array jF}{t:jR}(R:Ah w g cs t)(hg:g≠a)(d:jO b≠Z g):Ah w' g cs t:=⟨(h.aV g R.lt hg λe=>d e.symm).trans R.out⟩
theorem Ck.push{a:Nat}{d c:jF}{b:jD}{o:Obj}{g cap:Nat}(h:Ck B a ts tt d lv c w)(hB:B<=R (Q w))(j:jP b B 3 1 (X (Z<|jB g 0 V) (Y tt+1) cap) (Y tt+1)<|Ap tt++[T U t])(f:(jK w o).grownBy b<|jO c)(hat:jO c=Z g\/g=R (Q w)+1):Ah b a #[d,lv,c] 64/\Ck B a ts (tt++[t]) d lv (X (Z<|jB g 0 V) (Y tt+1) cap) (jM b (jB a 2 V)<|X (Z<|jB g 0 V) (Y tt+1) cap)/\Kt B a c w (X (Z<|jB g 0 V) (Y tt+1) cap) (jM b (jB a 2 V)<|X (Z<|jB g 0 V) (Y tt+1) cap):=by
 have n:=Ad h.row h.aQ Ob;have n2:=Ad h.row h.types Ob;have i:=(h.row.alloc o).grown f λe=>n2 e.symm;have n3:=Ad i j Ob;have r:g≠a:=λe=>n3 G1;have l:R (Q<|jK w o)=R (Q w)+1:=Oz;have m:∀k,k<R (Q w)->k≠a->Z k≠jO c->(Q<|jM b (jB a 2 V)<|X (Z<|jB g 0 V) (Y tt+1) cap)[k]?=(Q w)[k]?:=λk h1 h2 h3=>(L2 b (jB a 2 V) k _ h2).trans ((f.block k (by rw[l];omega) h3).trans<|Below.heap_alloc w o k h1);refine⟨i,⟨i.set 2<|X (Z<|jB g 0 V) (Y tt+1) cap,Ac h.aQ λq hq=>m q (h.aQ.lt q hq).2 (λe=>n<|e ▸ hq) λe=>h.bH q hq e.symm,?_,h.aP,λq hq e=>?_⟩,⟨?_,m,λq hq=>?_⟩⟩
 .rw[Ap,zN,zC];refine Ag j (jB a 2 V) _ λq hq=>?_;have:g=q:=P1;subst this;exact r
 .have:g=q:=by simpa[jO]using e
  subst this;obtain hat|hat:=hat
  .exact h.bH g hq hat
  have:=(h.aQ.lt g hq).2;omega
 .exact(((Below.refl B w).alloc hB o).grown f (by rw[l];omega) λq hq=>(h.types.lt q hq).1).setCell (p:=(jB a 2 V)) h.aP _
 have:g=q:=P1;subst this;obtain hat|hat:=hat
 .exact .inl hat
 right;omega
def TyO(B cb:Nat)(ts tt:M4)(mv lv tv:jF)(o:N8)(ys:M4)(w:jD)(r:Ending)(w':jD):Prop:=(∃t tv',o=Z t/\r=jN (jS #[T U t,jT])/\Ck B cb ts (tt++ys) mv lv tv' w'/\Kt B cb tv w tv' w')\/(o=V/\(∃z t u,r=jN (jS #[T U z,jJ t u]))/\Below B w w')
def TyV(B cb:Nat)(ts:M4)(mv lv:jF)(w0:jD)(v:jF)(o:N8)(ys:M4):Prop:=∀(tt:M4) (tv:jF) (w:jD),Below B w0 w->Ck B cb ts tt mv lv tv w->Y tt+Y ys<=4000->Calls jZ 114 #[jQ<|Z<|jB cb 0 V,v] w (TyO B cb ts tt mv lv tv o ys w)
theorem FO(i:Int)(t:jR)(u:jF)(w:jD):Calls jZ 116 #[T U i,jJ t u] w λa w'=>(∃b c,a=jN (jJ b c))/\Ak w w':=by go_enter func116,ntmps116;go_wp2;go_ret;exact⟨⟨_,_,rfl⟩,BRN.alloc NLN _⟩
set_option maxHeartbeats 3200000
theorem Ck.cW{a:Nat}{f b:jF}{c:jD}{o:Obj}{row:Wa}(h:Ck B a ts tt f lv b w)(g:(jK w o).grownBy c row)(h1:row≠Z a)(h2:∀q,jO lv=Z q->row≠Z q)(h3:∀q,jO b=Z q->row≠Z q):Ck B a ts tt f lv b c:=by have i:R (Q<|jK w o)=R (Q w)+1:=Oz;have d:∀k,k<R (Q w)->row≠Z k->(Q c)[k]?=(Q w)[k]?:=λk j l=>(g.block k (by rw[i];omega) λe=>l e.symm).trans<|Below.heap_alloc w o k j;exact⟨⟨(d a h.row.lt h1).trans h.row.out⟩,Ac h.aQ λq hq=>d q (h.aQ.lt q hq).2<|h2 q hq,Ac h.types λq hq=>d q (h.types.lt q hq).2<|h3 q hq,h.aP,h.bH⟩
theorem Kt.cW{a:Nat}{c:jF}{w2 d:jD}{o:Obj}{row:Wa}(K:Kt B a b w c w2)(f:(jK w2 o).grownBy d row)(hB:B<=R (Q w))(g:∀q,row=Z q->R (Q w)<=q):Kt B a b w c d:=by have h:R (Q<|jK w2 o)=R (Q w2)+1:=Oz;have zs:=K.aP.size;refine⟨(K.aP.alloc (zB hB zs) o).grown f (by rw[h];omega) λq hq=>zB hB<|g q hq,λk h1 h2 h3=>?_,K.new⟩;grind[Go.World.grownBy.block,Go.RowKit.Below.heap_alloc,Kt.aV]
def AdS(o:N8):Prop:=∀a,o=Z a->1<=a/\a<=4
structure Kj where
 v:jF
 o:N8
 ys:M4
def QX:List Kj->M2 M4|[]=>Z []|k::K=>k.o.bind λa=>(QX K).bind λs=>Z<|a::s
def ysJ:List Kj->M4|[]=>[]|k::K=>k.ys++ysJ K
theorem VD:∀(A B:List Kj),QX (A++B)=(QX A).bind (λa=>(QX B).bind λb=>Z<|a++b)/\ysJ (A++B)=ysJ A++ysJ B|[],B=>⟨by cases h:QX B<;>simp[QX,Option.bind,h],rfl⟩|k::A,B=>by obtain⟨h1,h2⟩:=VD A B;refine⟨?_,by simp[ysJ,h2]⟩;rw[List.cons_append,QX,QX,h1];cases k.o<;>cases QX A<;>cases QX B<;>simp[Option.bind]
structure Kz(B cb:Nat)(a:M3)(w:jD)(tv:jF)(ts tt:M4)(mv lv tv1 kv:jF)(ks:M4)(vs:N4)(w2:jD):Prop where
 C:Ck B cb ts tt mv lv tv1 w2
 K:Kt B cb tv w tv1 w2
 Rr:KdR (R<|Q w) w2 a vs
 O:jP w2 B 3 1 kv (Y ks)<|Ap ks
 hB:B<=R (Q w)cbw:cb<R (Q w)lvw:∀q,jO lv=Z q->q<R (Q w)k0:∀q,jO kv=Z q->R (Q w)<=q/\jO tv1≠Z q
theorem Kz.call{b:Nat}{a:M3}{w2 d:jD}{k m f lv n:jF}{ys ks:M4}(h:Kz B b a w k ts tt i lv m n ks vs w2)(r:Ck B b ts (tt++ys) i lv f d)(c:Kt B b m w2 f d):Kz B b a w k ts (tt++ys) i lv f n ks vs d:=by
 have s:=h.cbw;refine⟨r,h.K.trans c,h.Rr.aV λg cs l o=>c.row o Oa<|Ad o h.C.types Ob,Ac h.O λq hq=>?_,h.hB,s,h.lvw,λq hq=>?_⟩
 .obtain⟨p,j⟩:=h.k0 q hq;exact c.aV q (h.O.lt q hq).2 Oa λe=>j e.symm
 obtain⟨p,j⟩:=h.k0 q hq;refine⟨p,λe=>?_⟩;obtain e2|e2:=c.new q e
 .exact j e2
 have:=(h.O.lt q hq).2;omega
theorem Kz.app{b:Nat}{w2:jD}{i j k lv d:jF}{o:Obj}{a:Int}{gk cap:Nat}(h:Kz B b x w i ts tt k lv j d ks vs w2)(n:jP c B 3 1 (X (Z<|jB gk 0 V) (Y ks+1) cap) (Y ks+1)<|Ap ks++[T U a])(f:(jK w2 o).grownBy c<|jO d)(hat:jO d=Z gk\/gk=R (Q w2)+1):Kz B b x w i ts tt k lv j (X (Z<|jB gk 0 V) (Y ks+1) cap) (ks++[a]) vs c:=by
 have p:=h.cbw;have zs:=h.K.aP.size;refine⟨h.C.cW f (λe=>?_) (λq hq e=>?_) λq hq e=>?_,h.K.cW f h.hB λq hq=>(h.k0 q hq).1,h.Rr.aV λg cs l m=>(m.alloc o).grown f λe=>Ad m h.O Ob e.symm,?_,h.hB,p,h.lvw,λq hq=>?_⟩
 .have:=(h.k0 b e).1;omega
 .have:=(h.k0 q e).1;have:=h.lvw q hq;omega
 .exact(h.k0 q e).2 hq
 .rw[Ap,zN,zC];exact n
 obtain rfl:gk=q:=P1;obtain e|e:=hat
 .exact h.k0 gk e
 refine⟨Oa,λe2=>?_⟩;have:=(h.C.types.lt gk e2).2;omega
theorem AdT(B c:Nat)(ts:M4)(A lv:jF)(S:jD)(T:jR)(v:jF)(i:Int)(f:M4->N8)(K:List Kj)(W:KdX T v<|K.map Kj.v)(al:PlX T v i)(aS:Y K<=3)(aT:Hid<|∀k∈K,(∃t u,k.v=jJ t u)/\AdS k.o/\TyV B c ts A lv S k.v k.o k.ys)(aU:Hid<|∀tt n w ka kc s,Below B S w->Ck B c ts tt A lv n w->BN w ka (Y s) kc s->Y s=Y K->(∀a∈s,1<=a/\a<=4)->Calls jZ 158 #[jQ<|Z<|jB c 0 jc,jJ T v,X ka (Y s) kc] w λp w'=>Hh (f s) p/\Ak w w'):TyV B c ts A lv S (jJ T v) ((QX K).bind f) (ysJ K++[((QX K).bind f).getD 0]):=by
 intro tt n w ao r hz;obtain⟨bm,bn,bo,W,H,D⟩:=W;obtain⟨bp,bq,br,al,I,aa⟩:=al;have aV:=Ab<|BL H.1 H.2.1 H.2.2;have aW:=Ab<|BL I.1 I.2.1 I.2.2;have D:=Ab D;have aa:=Ab aa;have ap:=Ab ao;have aX:=r.row.lt;have J:B<=R (Q w):=G7 r.aP;have x:=r.types.lt;have aq:=r.aQ.lt;simp only[zC,List.length_cons,List.length_nil]at hz;obtain⟨ar,au,av,aw,ax⟩:=info_parts GS;obtain⟨m,hm⟩:∃m,m=Y K:=⟨_,rfl⟩;have ay:Y (K.map Kj.v)=m:=by rw[zZ,hm]
 unfold KdA at D;rw[ay]at D;have bs:m<=3:=Oa;have ab:=Ab hm;clear ao hm H I ay aS;go_enter func114,ntmps114;go_wp2_with fail;rw[Aa aV,Oper.upon_enter];refine(Aa D _).mono ?_;rintro p aY ⟨a,rfl,az,ac⟩;have aZ:Kz B c a w n ts (tt++[]) A lv n (X jc 0 0) [] (K.map Kj.v) aY:=⟨by rw[List.append_nil];exact r.below ac,Kt.bK ac J,az,G8,J,aX,λq hq=>(aq q hq).2,λq hq=>by cases hq⟩;clear ac az x aq r;dsimp only;go_wp2_with fail;go_loopw[6,16] (λa0 j wr=>∃ (k:Nat) (L:jF) (l ks:M4),k<=m/\j=ja U k/\Hid (QX (K.take k)=Z ks/\l=ysJ (K.take k)/\Y ks=k/\∀a∈ks,1<=a/\a<=4)/\Kz B c a w n ts (tt++l) A lv L a0 ks (K.map Kj.v) wr) (λ_ j _=>m-(intOf j).toNat);case atStart=>exact⟨0,n,[],[],zH _,rfl,Ab ⟨rfl,rfl,rfl,λa h=>K4 h Oz⟩,aZ⟩
 obtain⟨k,L,l,ks,W,rfl,M,X1⟩:=hrel;by_cases x:k<m
 .have bt:(k:Int)<(m:Int):=Oa;have N:k<Y K:=by rw[<-Aa ab];exact x
  obtain⟨⟨t,u,ad⟩,aA,V⟩:=Aa aT _<|zI N;obtain⟨g,rfl,aB⟩:=X1.Rr.at (k:=k) (by rw[zZ];exact N);rw[List.getElem_map,ad]at aB;rw[ad]at V;obtain⟨e1,e2,e3,e4⟩:=Aa M;have aC:=zY N;obtain⟨z1,z2⟩:=VD (K.take k) [K[k]];obtain⟨ae,af⟩:=VD (K.take<|k+1)<|K.drop<|k+1;rw[<-aC]at z1 z2;rw[Z3]at ae af;have hy:Y l+Y K[k].ys<=Y (ysJ K):=by rw[af,z2,<-e2];simp[ysJ]
  have aD:=Ab (show ∀b,K[k].o=Z b->QX (K.take<|k+1)=Z (ks++[b])from λb ag=>by rw[z1,e1];simp[QX,ag,Option.bind]);have aE:=Ab (show K[k].o=jc->QX K=jc from λhe=>by rw[ae,z1,e1];simp[QX,he,Option.bind]);have aF:=Ab (show l++K[k].ys=ysJ (K.take<|k+1)by rw[z2,<-e2];simp[ysJ]);have ah:=Ab<|L7 e3<|L7 e4 aA;have aG:=Ab x;obtain⟨bu,o2,eo,_⟩:=Af X1.O;have ai:=Ab V;clear e1 e2 e3 e4 z1 z2 ae af aC M x aA V ad;generalize K[k].ys=a2 at ai hy aF;generalize K[k].o=bv at ai aD aE ah;clear N;subst eo;have bw:Y ks<=3:=G7<|(Aa ah).1;have a3:Y (tt++l)+Y a2<=4000:=by rw[zC];omega
  go_wp2_with fail;refine(Aa ai _ _ _ ((Aa ap).trans X1.K.aP) X1.C a3).mono ?_;rintro p aj (⟨a1,a4,E,rfl,aH,Kz⟩|⟨E,⟨z,t,u,rfl⟩,a5⟩)
  .have F:=X1.call aH Kz;have d:=Ab E;have zl:B<=R (Q aj):=zB J F.K.aP.size;rw[zd]at F;clear aH Kz X1 aB E;dsimp only;go_wp2_with (at_builtin;refine J6 _ rfl _ _ 25 rfl B 3 ar (ja U 0) 1 8 underlying25 au av aw ax rfl Ob _ _ _ rfl (K7 F.O _) ⟨R<|Q aj,0,jc⟩ 1 1 [ja U a1] rfl rfl ?c1 ?c2 Ob ?c3 ?c4 ?c5 (R (Q aj)+1) Oz ?_);case c1=>exact A6 _ _ _ _ Oz
   case c2=>intro u hu;simp at hu;subst hu;rfl
   case c3=>unfold maxLen;omega
   case c4=>omega
   case c5=>simp;omega
   intro bx bz bA aI aJ aK a6;have X2:=F.app aI aJ aK;clear F aI aJ aK a6;go_wp2;go_roundw;case rel=>obtain⟨a7,i2,a8⟩:=Aa ah;exact⟨k+1,a4,_,_,Aa aG,O0,Ab ⟨Aa aD _<|Aa d,Aa aF,by simp[a7],λb ag=>(zJ.1 ag).elim (i2 b) λh=>by rw[zK.1 h];exact a8 _<|Aa d⟩,X2⟩
   have:=Aa aG;simp[intOf];omega
  have d:=Ab E;clear E;dsimp only;go_wp2;exact K8 (v:=jS #[ja U 0,jJ t u]) (by simp[results,results114,go_sem]) rfl (.inr ⟨by rw[Aa aE<|Aa d];rfl,⟨_,_,_,rfl⟩,X1.K.aP.trans a5⟩)
 obtain rfl:k=m:=Oa;obtain⟨e1,e2,e3,e4⟩:=Aa M;rw[Aa ab,zq]at e1 e2;have a9:Y (tt++l)<=3999:=by rw[zC,e2];omega
 have ak:=Ab<|L7 e1 e2;have ba:=Ab (show Y ks=Y K by rw[e3];exact Aa ab);have bb:=Ab e4;have h3:Y ks<=3:=Oa;obtain⟨ka,kc,rfl,_⟩:=Af X1.O;clear e1 e2 e3 e4 M x;go_wp2_with fail;refine(Aa aU _ _ _ _ _ ks ((Aa ap).trans X1.K.aP) X1.C (Dd X1.O Oa) (Aa ba)<|Aa bb).mono ?_;rintro p w2 ⟨bc,y⟩;have G:=X1.C.below y;generalize aL:tt++l=bB at G a9;have bd:=Ab aL;have P:B<=R (Q wr):=zB J X1.K.aP.size;have aM:Kt B c n w L w2:=X1.K.trans<|Kt.bK y P;clear aL;obtain⟨t,hf,rfl⟩|⟨hf,z,t,u,rfl⟩:=bc
 .have c2:jE w2 (jB c 2 jc)=Z L:=G.row.cell 2;have d:=Ab (show(QX K).bind f=Z t by rw[(Aa ak).1];exact hf);clear hf;obtain⟨bC,bD,rfl,_⟩:=Af G.types;dsimp only;go_wp2_with (at_builtin;refine J6 _ rfl _ _ 25 rfl B 3 ar (ja U 0) 1 8 underlying25 au av aw ax rfl Ob _ _ _ rfl (K7 G.types _) ⟨R<|Q w2,0,jc⟩ 1 1 [ja U t] rfl rfl ?c1 ?c2 Ob ?c3 ?c4 ?c5 (R (Q w2)+1) Oz ?_);case c1=>exact A6 _ _ _ _ Oz
  case c2=>intro u hu;simp at hu;subst hu;rfl
  case c3=>unfold maxLen;omega
  case c4=>omega
  case c5=>have:=y.size;simp;omega
  intro bE bF aN bf bg hat bG;obtain⟨aO,bh,bi⟩:=G.push (zB P y.size) bf bg hat;have d2:jE aN (jB c 2 jc)=Z _:=aO.cell 2;have bH:=aO.frozen 2;go_wp2_with fail;refine K8 (v:=jS #[ja U t,jT]) (by simp[results,results114,go_sem]) rfl (.inl ⟨t,_,Aa d,rfl,?_,aM.trans bi⟩);rw[Aa d,<-(Aa ak).2,<-zd,Aa bd];exact bh
 have d:=Ab (show(QX K).bind f=jc by rw[(Aa ak).1];exact hf);clear hf;dsimp only;go_wp2_with fail;rw[Aa aW,Oper.upon_enter];refine(Aa aa _).mono ?_;rintro p aN ⟨rfl,aR⟩;dsimp only;go_wp2_with fail;refine(FO i t u _).mono ?_;rintro p bI ⟨⟨bj,bk,rfl⟩,bl⟩;dsimp only;go_wp2;exact K8 (v:=jS #[ja U 0,jJ bj bk]) (by simp[results,results114,go_sem]) rfl (.inr ⟨Aa d,⟨_,_,_,rfl⟩,(aM.aP.trans<|aR.mono<|zB P y.size).trans<|bl.mono<|zB (zB P y.size) aR.size⟩)
theorem Xt(op a:Int):AdS<|nz<|Ba op [a]:=λt h=>by
 obtain⟨h1,h2⟩:=DO h;rw[Ba]at h1;repeat' split at h1
 all_goals omega
theorem Xu(op a b:Int):AdS<|nz<|Ba op [a,b]:=λt h=>by
 obtain⟨h1,h2⟩:=DO h;rw[Ba]at h1;clear h;repeat' split at h1
 all_goals subst h1;first|decide|exact K4 rfl h2
theorem Xv(a b c:Int)(d:1<=b/\b<=4):AdS<|nz<|Ba 27 [a,b,c]:=λt h=>by
 obtain⟨h1,h2⟩:=DO h;rw[Ba]at h1;repeat' split at h1
 all_goals omega
theorem AkZ(ts:M4)(i op:Int)(k:Ex):An ts (.un i op k)=(An ts k).bind λa1=>nz<|Ba op [a1]:=by grind[An]
theorem AiW(ts:M4)(i op:Int)(k l:Ex):An ts (.bin i op k l)=(An ts k).bind λa1=>(An ts l).bind λa2=>nz<|Ba op [a1,a2]:=by grind[An]
theorem AiX(ts:M4)(i:Int)(k l m:Ex):An ts (.ite i k l m)=(An ts k).bind λa1=>(An ts l).bind λa2=>(An ts m).bind λa3=>nz<|Ba 27 [a1,a2,a3]:=by grind[An]
theorem AaB{ts:M4}(h:∀t∈ts,1<=t/\t<=4):∀(e:Ex),AdS (An ts e)
 |.int ..,a,k=>Gs|.text ..,a,k=>Gs|.bool ..,a,k=>Gs|.set ..,a,k=>Gs|.name ..,a,k=>by cases k|.attr _ n,a,k=>by cases k;exact Qt n|.lett _ n,a,k=>by
  rw[An]at k;split at k
  .exact h a (zX k)
  cases k|.un i op e,a,k=>by rw[AkZ]at k;cases he:An ts e with|none=>grind|some b=>rw[he]at k;exact Xt op b a k
 |.bin i op e f,a,k=>by rw[AiW]at k;cases he:An ts e with|none=>grind|some b=>rw[he]at k;cases hf:An ts f with|none=>grind|some c=>rw[hf]at k;exact Xu op b c a k
 |.ite i e f g,a,k=>by rw[AiX]at k;cases he:An ts e with|none=>grind|some b=>rw[he]at k;cases hf:An ts f with|none=>grind|some c=>rw[hf]at k;cases hg:An ts g with|none=>grind|some d=>rw[hg]at k;exact Xv b c d (AaB h f c hf) a k
def Ex.kj(ts:M4)(e:Ex):Kj:=⟨e.val,An ts e,Cv ts e⟩
theorem Af7(ts:M4)(e:Ex):An ts e=(QX<|e.aC.map<|Ex.kj ts).bind (abv ts e)/\Cv ts e=ysJ (e.aC.map<|Ex.kj ts)++[(An ts e).getD 0]:=by cases e with|un i op k=>exact⟨by cases h1:An ts k<;>simp[An,QX,Ex.aC,Ex.kj,abv,h1],by simp[Cv,ysJ,Ex.aC,Ex.kj]⟩|bin i op k l=>exact⟨by cases h1:An ts k<;>cases h2:An ts l<;>simp[An,QX,Ex.aC,Ex.kj,abv,h1,h2],by simp[Cv,ysJ,Ex.aC,Ex.kj]⟩|ite i k l m=>exact⟨by cases h1:An ts k<;>cases h2:An ts l<;>cases h3:An ts m<;>simp[An,QX,Ex.aC,Ex.kj,abv,h1,h2,h3],by simp[Cv,ysJ,Ex.aC,Ex.kj]⟩|_=>exact⟨rfl,rfl⟩
theorem Ex.dY{e:Ex}(h:e.bA):∀k∈e.aC,k.bA:=by cases e<;>simp[Ex.aC]<;>simp_all[Ex.bA]
theorem Ak0(aT B C:jH)(f:Nat)(ts:M4)(o:M3)(p q:Nat)(e:Ex)(he:e.bA)(w:jD)(h:OQ w aT)(D:SP w B C)(ka:M3)(kc:Nat)(s:M4)(r:BN w ka (Y s) kc s)(v:Y s=Y e.aC)(j:∀a∈s,1<=a/\a<=4)(hc:jE w (jB f 1 V)=Z (X o p q))(E:f<R (Q w))(F:BN w o p q ts):Calls jZ 158 #[jQ<|Z<|jB f 0 V,e.val,X ka (Y s) kc] w λG w'=>Hh (abv ts e s) G/\Ak w w':=by cases e with|int i n=>exact I8 f _ i _ 2 (.inl ⟨rfl,rfl,_,rfl⟩) ka _ kc w|text i n=>exact I8 f _ i _ 3 (.inr<|.inl ⟨rfl,rfl,_,rfl⟩) ka _ kc w|bool i n=>exact I8 f _ i _ 1 (.inr<|.inr<|.inl ⟨rfl,rfl,_,rfl⟩) ka _ kc w|set i a n c ss=>exact I8 f _ i _ 4 (.inr<|.inr<|.inr ⟨rfl,rfl,_,_,_,rfl⟩) ka _ kc w|name=>exact K4 he id|attr i n=>exact AaF f i n ka _ kc aT w h he|lett i n=>exact AaG f i n o p q ts ka _ kc B C w D hc E F|un i op k=>obtain⟨a,rfl⟩:=List.length_eq_one_iff.1 v;obtain⟨t,u,g⟩:=k.form;rw[Ex.val,g];exact Af6 f i op t u ka _ kc a aT w h r he.1<|j a Oz|bin i op k l=>obtain _|⟨a,_|⟨b,_|⟨x,s⟩⟩⟩:=s<;>simp[Ex.aC]at v;obtain⟨t,u,g⟩:=k.form;obtain⟨y,z,A⟩:=l.form;rw[Ex.val,g,A];exact AdP f i op t u y z ka _ kc a b aT w h r he.1 (j a Oz)<|j b Oz|ite i k l m=>obtain _|⟨a,_|⟨b,_|⟨d,_|⟨x,s⟩⟩⟩⟩:=s<;>simp[Ex.aC]at v;obtain⟨t,u,g⟩:=k.form;obtain⟨y,z,A⟩:=l.form;obtain⟨H,I,J⟩:=m.form;rw[Ex.val,g,A,J];exact AdQ f i t u y z H I ka _ kc a b d aT w h r<|j b Oz
theorem LB(B b:Nat)(ts:M4)(d lv:jF)(a:jD)(aT g h:jH)(j:OQ a aT)(l:SP a g h)(hB:R (Q a)<=B)(m:∀t∈ts,1<=t/\t<=4)(n:Y ts<=1048576)(e:Ex)(he:e.bA):TyV B b ts d lv a e.val (An ts e)<|Cv ts e:=by
 obtain⟨T,v,p,i,r⟩:=e.mth;have y:∀k∈e.aC.map (Ex.kj ts),(∃t u,k.v=jJ t u)/\AdS k.o/\TyV B b ts d lv a k.v k.o k.ys:=λk i=>by obtain⟨x,hx,rfl⟩:=zU.1 i;have:=e.dJ x hx;exact⟨x.form,AaB m x,LB B b ts d lv a aT g h j l hB m n x<|Ex.dY he x hx⟩
 have:=AdT B b ts d lv a T v e.pos (abv ts e) (e.aC.map<|Ex.kj ts) (by rw[z6];exact i) r (by rw[zZ];exact e.dP) (Ab y) (Ab λtt C w ka kc s q f z hs A=>by obtain⟨x,c,rfl,_⟩:=Af f.aQ;rw[<-p];exact Ak0 aT g h b ts x (Y ts) c e he w (j.below q hB) (l.below q hB) ka kc s z (by rw[hs,zZ]) A (f.row.cell 1) f.row.lt<|Dd f.aQ n);rw[<-p,<-(Af7 ts e).1,<-(Af7 ts e).2]at this;exact this;termination_by e.aL
def MN(w:jD)(mb:Nat)(ns:M6):Prop:=∃ (es:Array MapEntry) (cl:Nat),(Q w)[mb]?=Z (.map es cl)/\es.toList.map (·.key)=ns.map Value.string/\∀m∈es.toList,∃b n t,m.val=jL #[.bool b,T U n,T U t]
theorem MN.aV{a:Nat}(h:MN w a ns)(b:(Q w')[a]?=(Q w)[a]?):MN w' a ns:=by obtain⟨c,cl,h1,h2,h3⟩:=h;exact⟨c,cl,b.trans h1,h2,h3⟩
theorem MN.lt{a:Nat}(h:MN w a ns):a<R (Q w):=by obtain⟨b,cl,h1,_⟩:=h;grind
theorem MQ{a:Array MapEntry}(h:a.toList.map (·.key)=ns.map Value.string):∀x∈a.toList,∃s∈ns,x.key=jA s:=λx hx=>by have:x.key∈a.toList.map (·.key):=zU.2 ⟨x,hx,rfl⟩;rw[h]at this;obtain⟨s,hs,e⟩:=zU.1 this;exact⟨s,hs,e.symm⟩
theorem Af4(w:jD)(g:Nat)(ns:M6)(s:M1)(h:MN w g ns)(hs:s∈ns):∃b n t,(Instr.lookup 62 (.map<|Z g) (jA s) true).run jZ w=.ok (jS #[jL #[.bool b,T U n,T U t],.bool true]) w:=by
 obtain⟨a,cl,h1,h2,h3⟩:=h;have i:∀x∈a.toList,MapKept.IsKey .string x.key:=λx hx=>by obtain⟨s,_,e⟩:=MQ h2 x hx;rw[e];trivial
 obtain⟨c,f⟩|⟨j,e,c,f,m⟩:=MapKept.findNow_spec (d:=.string) (k:=jA s) trivial a.toList 0 i
 .exfalso;have:Value.string s∈a.toList.map (·.key):=by rw[h2];exact zU.2 ⟨s,hs,rfl⟩
  obtain⟨x,hx,ex⟩:=zU.1 this;exact f x hx ex
 have hm:e∈a.toList:=zX f;obtain⟨b,n,t,l⟩:=h3 e hm;refine⟨b,n,t,?_⟩;rw[l]at c;simp[Instr.lookup,run_underlying underlying62,MapKept.run_getObj_map h1,MapKept.run_checkKey underlying9 (k:=.string s) trivial,MapKept.run_findKey underlying9 c]
theorem AiU(w:jD)(c:Nat)(ns:M6)(s:M1)(h:MN w c ns)(hs:s ∉ ns):∃b n t,(Instr.lookup 62 (.map<|Z c) (jA s) true).run jZ w=.ok (jS #[jL #[.bool b,T U n,T U t],.bool false]) w:=by
 obtain⟨a,cl,h1,h2,h3⟩:=h;have l:∀x∈a.toList,MapKept.IsKey .string x.key:=λx hx=>by obtain⟨s,_,e⟩:=MQ h2 x hx;rw[e];trivial
 obtain⟨f,g⟩|⟨j,e,f,g,m⟩:=MapKept.findNow_spec (d:=.string) (k:=jA s) trivial a.toList 0 l
 .refine⟨false,0,0,?_⟩;simp[Instr.lookup,run_underlying underlying62,MapKept.run_getObj_map h1,MapKept.run_checkKey underlying9 (k:=.string s) trivial,MapKept.run_findKey underlying9 f,zeroValue131]
 exfalso;have hm:e∈a.toList:=zX g;obtain⟨p,o,i⟩:=MQ h2 e hm;rw[m]at i;cases i;exact hs o
theorem Acn(w:jD)(a:Nat)(ns:M6)(s:M1)(b:Bool)(n t:Int)(h:MN w a ns)(hs:s ∉ ns):∃w',(Instr.mapUpdate 62 (.map<|Z a) (jA s)<|jL #[.bool b,T U n,T U t]).run jZ w=.ok () w'/\MN w' a (ns++[s])/\(∀k,k≠a->(Q w')[k]?=(Q w)[k]?)/\R (Q w')=R (Q w)/\∀B,B<=a->Below B w w':=by
 obtain⟨c,cl,h1,h2,h3⟩:=h;have f:∀x∈c.toList,MapKept.IsKey .string x.key:=λx hx=>by obtain⟨s,_,e⟩:=MQ h2 x hx;rw[e];trivial
 obtain⟨g,i⟩|⟨j,e,g,i,o⟩:=MapKept.findNow_spec (d:=.string) (k:=jA s) trivial c.toList 0 f
 .obtain⟨g1,g2⟩:=MapKept.heap_set (o':=.map (c.push ⟨jA s,jL #[.bool b,T U n,T U t],cl⟩) (cl+1)) h1;refine⟨{w with heap:=(Q w).setIfInBounds a (.map (c.push ⟨jA s,jL #[.bool b,T U n,T U t],cl⟩)<|cl+1)},?_,⟨_,_,g1,?_,?_⟩,g2,Oz,λB hB=>⟨rfl,rfl,rfl,Oz,λk f=>g2 k Oa⟩⟩
  .simp[Instr.mapUpdate,run_underlying underlying62,MapKept.run_getObj_map h1,MapKept.run_checkKey underlying9 (k:=.string s) trivial,MapKept.run_findKey underlying9 g,MapKept.run_setObj_map _ h1]
  .simp[h2]
  intro m hm;simp at hm;obtain hm|rfl:=hm
  .exact h3 m (by simpa using hm)
  exact⟨_,_,_,rfl⟩
 exfalso;have hm:e∈c.toList:=zX i;obtain⟨q,p,l⟩:=MQ h2 e hm;rw[o]at l;cases l;exact hs p
set_option maxHeartbeats 1600000
def AE:M6:=[⟨#[99,108,105,101,110,116]⟩,⟨#[117,115,101,114]⟩,⟨#[108,101,118,101,108]⟩,⟨#[110,111,119]⟩,⟨#[97,115,107,101,100]⟩,⟨#[97,103,114,101,101,100]⟩]
theorem Af1(w:jD)(o:Obj):(Q<|jK w o)[R<|Q w]?=Z o:=by show((Q w).push o)[R<|Q w]?=Z o;exact Array.getElem?_push_size
theorem Af2:∀k,k<6->AfZ.extract (k*2) (k*2+2)=#[jA<|AE.getD k ⟨#[]⟩,T U<|Bc k]|0,_=>rfl|1,_=>rfl|2,_=>rfl|3,_=>rfl|4,_=>rfl|5,_=>rfl|n+6,h=>K4 h Oa
theorem Af3:∀k,k<6->AE.getD k ⟨#[]⟩∉ AE.take k|0,_=>Oz|1,_=>by simp[AE]|2,_=>by simp[AE]|3,_=>by simp[AE]|4,_=>by simp[AE]|5,_=>by simp[AE]|n+6,h=>K4 h Oa
theorem AdK:∀k,k<6->AE.take (k+1)=AE.take k++[AE.getD k ⟨#[]⟩]|0,_=>rfl|1,_=>rfl|2,_=>rfl|3,_=>rfl|4,_=>rfl|5,_=>rfl|n+6,h=>K4 h Oa
theorem JY(aT:jH)(w:jD)(d:OQ w aT):Calls jZ 24 #[] w λy w'=>∃s f,y=jN (jQ<|Z<|jB s 0 V)/\R (Q w)<=f/\Ck (R<|Q w) s [] [] (.map<|Z f) (X V 0 0) (X V 0 0) w'/\MN w' f AE/\Ak w w':=by
 have I:=@run_makeMap jZ;have g:=(Ar w<|.map #[] 0).alloc Oz<|jC #[.map<|Z<|R<|Q w,X V 0 0,X V 0 0] 64;have h:=Ah.new (jK w<|.map #[] 0) #[.map<|Z<|R<|Q w,X V 0 0,X V 0 0] 64;simp only[K6]at h;have t:MN (jK (jK w<|.map #[] 0)<|jC #[.map<|Z<|R<|Q w,X V 0 0,X V 0 0] 64) (R<|Q w) []:=by refine⟨#[],0,?_,rfl,λm hm=>by simp at hm⟩;rw[Below.heap_alloc _ _ _ Oz];exact Af1 w _
 have u:=Ab λj=>(g.cell (p:=⟨0,j,V⟩) d.a).trans<|d.ac j;clear d;go_enter func24,ntmps24;go_wp2_with (refine EF rfl 129 _ rfl 0 rfl AfZ _ (Aa u) underlying129 rfl Ok ?_);clear u;go_loopw[8] (λi wr=>∃k:Nat,k<=6/\i=T U k/\MN wr (R<|Q w) (AE.take k)/\Ah wr (R (Q w)+1) #[.map<|Z<|R<|Q w,X V 0 0,X V 0 0] 64/\Ak w wr) (λi _=>6-(intOf i).toNat);case atStart=>exact⟨0,Oa,rfl,t,h,g⟩
 clear t h g;obtain⟨k,J,rfl,l,c,n⟩:=hrel;by_cases b:k<6
 .have K:(k:Int)<6:=Oa;have o:=Ab<|Af2 k b;have v:=Ab<|Af3 k b;have x:=Ab<|AdK k b;have r:=Ab b;generalize AE.getD k ⟨#[]⟩=nm at o v x;generalize Bc (k:Int)=ty at o;have c0:jE wr ⟨R (Q w)+1,0,V⟩=Z (.map<|Z<|R<|Q w):=c.cell 0;have zl:=c.lt;have z:=l.lt;have A:MN (jV<|jK wr<|jC #[jA nm,T U ty] 128) (R<|Q w)<|AE.take k:=l.aV<|Below.heap_alloc _ _ _ z;have B:=c.alloc<|jC #[jA nm,T U ty] 128;have C:=n.alloc n.size<|jC #[jA nm,T U ty] 128;clear b;go_wp2_with (refine BT rfl 129 _ _ rfl AfZ rfl k rfl 6 128 underlying129 (Aa r) _ underlying128 rfl 2 Ok _ (Aa o) ?_);obtain⟨D,L,E,F,M,bel⟩:=Acn _ (R<|Q w) (AE.take k) nm false k ty A<|Aa v;have G:Ah D (R (Q w)+1) #[.map<|Z<|R<|Q w,X V 0 0,X V 0 0] 64:=⟨(F _ Oa).trans B.out⟩;have H:=C.drew.trans<|bel _ NLN;go_region;all_goals
   go_wp2;go_roundw;case rel=>exact⟨k+1,Aa r,O0,by rw[Aa x];exact E,G,H⟩
   have:=Aa r;simp[intOf];omega
 have e:k=6:=Oa;subst e;go_wp2;go_ret;exact⟨_,_,rfl,NLN,⟨c,G8,G8,zQ _,λq hq=>by cases hq⟩,l,n⟩
open Classical in noncomputable def AH(s:M1):M6->Int->Int|[],_=>-1|x::r,k=>if x=s then k else AH s r (k+1)
theorem Eo(s:M1):∀(L:M6)(k:Int),0<=k->(0<=AH s L k↔s∈L):=by intro L;induction L<;>intros<;>grind[AH]
theorem Zt{s:M1}{L:M6}{k:Nat}(h:k<Y L):AH s (L.drop k) k=if L[k]=s then(k:Int)else AH s (L.drop<|k+1) ((k+1:Nat):Int):=by rw[Z7 h,AH];rfl
theorem Iu(x s:M1):(x.toList==s.toList)=true↔x=s:=by
 rw[zD];constructor
 .intro h;rw[z9,z9]at h;cases x;cases s;simp_all
 grind
def Nms(w:jD)(a:M3)(L:M6):Prop:=∀j,(h:j<Y L)->∃b off,a=Z (jB b off V)/\b<R (Q w)/\jE w ⟨b,off+j,V⟩=Z (jA L[j])
theorem Nms.below{a:M3}{L:M6}(h:Nms w a L)(c:Below B w w')(hB:R (Q w)<=B):Nms w' a L:=λj f=>by obtain⟨b,d,g,i,c0⟩:=h j f;exact⟨b,d,g,zG i c.size,(c.cell (p:=⟨b,d+j,V⟩) (Oa:b<B)).trans c0⟩
theorem Akl(w:jD)(t:jR)(L:M6):Nms (jK w<|jC (L.map Value.string).toArray t) (Z ⟨R<|Q w,0,V⟩) L:=λj a=>by refine⟨R<|Q w,0,rfl,Oz,?_⟩;rw[zT,(Ah.new w (L.map Value.string).toArray t).cell j];simp[a]
theorem Gl(s:M1)(w:jD):Calls jZ 59 #[jA s] w λo w'=>o=jN (T U<|AH s AE 0)/\Ak w w':=by
 have d:=Ar w<|jC (AE.map Value.string).toArray 9;have f:=Akl w 9 AE;have g:=Ab<|show Y AE=6 from rfl;have p:=Ab<|show jK w (jC (AE.map Value.string).toArray 9)=jK w (jC #[jA ⟨#[99,108,105,101,110,116]⟩,jA ⟨#[117,115,101,114]⟩,jA ⟨#[108,101,118,101,108]⟩,jA ⟨#[110,111,119]⟩,jA ⟨#[97,115,107,101,100]⟩,jA ⟨#[97,103,114,101,101,100]⟩] 9)from rfl;go_enter func59,ntmps59;go_wp2_with fail;rw[<-Aa p];generalize jK w (jC (AE.map Value.string).toArray 9)=q at d f|-;go_loopw[7] (λi wr=>∃k:Nat,k<=6/\i=T U k/\Ak w wr/\Ak q wr/\Hid (AH s AE 0=AH s ((AE:M6).drop k) k)) (λi _=>6-(intOf i).toNat);case atStart=>exact⟨0,Oa,rfl,d,BRN,Ab rfl⟩
 obtain⟨k,x,rfl,a,j,l⟩:=hrel;by_cases m:k<6
 .have y:(k:Int)<(6:Int):=Oa;have h1:k<Y (AE:M6):=by rw[Aa g];exact m
  obtain⟨b1,r,t,z,c0⟩:=(f.below j NLN) k h1;obtain⟨rfl,rfl⟩:b1=R (Q w)/\r=0:=by simpa[eq_comm]using t
  simp only[zT]at c0;have b:=Ab<|(Aa l).trans<|Zt h1;have n:=Ab m;generalize (AE:M6)[k]=u at c0 b;by_cases hu:u=s
  .have v:(u.toList==s.toList)=true:=(Iu u s).2 hu;go_wp2;go_ret;exact⟨by rw[Aa<|Ab<|(Aa b).trans<|K1 hu];rfl,a⟩
  have v:(u.toList==s.toList)=false:=by rw[yD];exact λh=>hu ((Iu u s).1 h)
  have c:=Ab<|(Aa b).trans<|K0 hu;go_wp2;go_roundw;case rel=>exact⟨k+1,Aa n,O0,a,j,c⟩
  have:=Aa n;simp[intOf];omega
 have e:k=6:=Oa;subst e;have c:=Ab (show AH s AE 0=-1 by rw[Aa l,List.drop_of_length_le<|by rw[Aa g];omega];rfl);go_wp2;go_ret;exact⟨by rw[Aa c];rfl,a⟩
theorem MF(lb:Nat)(a:M3)(n c:Nat)(L:M6)(s:M1)(w:jD)(h0:jE w (jB lb 0 V)=Z (X a n c))(B:lb<R (Q w))(r:Y L=n)(C:n<=1048576)(t:Nms w a L):Calls jZ 60 #[jQ<|Z<|jB lb 0 V,jA s] w λv w'=>v=jN (T U<|AH s L 0)/\Ak w w':=by
 have l:=Ab r;obtain⟨b,d⟩:∃b,b=w:=⟨_,rfl⟩;have x:Ak w b:=by rw[d];exact BRN
 have y:Nms b a L:=by rw[d];exact t
 go_enter func60,ntmps60;go_wp2_with fail;rw[<-Aa<|Ab d];go_loopw[12] (λi wr=>∃k:Nat,k<=n/\i=T U k/\Ak w wr/\Ak b wr/\Hid (AH s L 0=AH s ((L:M6).drop k) k)) (λi _=>n-(intOf i).toNat);case atStart=>exact⟨0,Oa,rfl,x,BRN,Ab rfl⟩
 obtain⟨k,D,rfl,f,m,o⟩:=hrel;by_cases p:k<n
 .have E:(k:Int)<(n:Int):=Oa;have h1:k<Y (L:M6):=by rw[Aa l];exact p
  obtain⟨b1,F,z,G,c0⟩:=(y.below m NLN) k h1;subst z;have g:=Ab<|(Aa o).trans<|Zt h1;have q:=Ab p;generalize (L:M6)[k]=u at c0 g;by_cases hu:u=s
  .have A:(u.toList==s.toList)=true:=(Iu u s).2 hu;go_wp2;go_ret;exact⟨by rw[Aa<|Ab<|(Aa g).trans<|K1 hu];rfl,f⟩
  have A:(u.toList==s.toList)=false:=by rw[yD];exact λh=>hu ((Iu u s).1 h)
  have j:=Ab<|(Aa g).trans<|K0 hu;go_wp2;go_roundw;case rel=>exact⟨k+1,Aa q,O0,f,m,j⟩
  have:=Aa q;simp[intOf];omega
 have e:k=n:=Oa;subst e;have j:=Ab (show AH s L 0=-1 by rw[Aa o,List.drop_of_length_le<|by rw[Aa l];omega];rfl);go_wp2;go_ret;exact⟨by rw[Aa j];rfl,f⟩
theorem Vm{ss:M6}{j:Nat}(h:j<Y ss):AB ss j=ss[j]:=by simp[AB,h]
theorem Qf{A B:M6}(a:Y A=Y B):A=B↔∀j,j<Y A->AB A j=AB B j:=by grind[List.ext_getElem,Vm]
end Go.Proofs.YtlcfoihgfcmfeaaGreatDoor
