import Derived.Test.YtlcfoihgfcmfeaaGreatDoorMXAC
import Derived.Test.YtlcfoihgfcmfeaaGreatDoorMXAN
open Option renaming none->V,none->jc,some->Z
open List renaming length->Y
open Array renaming size->R
open Go renaming World->jD
open Bool renaming true->jG,false->jI
namespace Go.Proofs.YtlcfoihgfcmfeaaGreatDoor
open Proofs.Tryz
open Value renaming int->T,slice->X,agg->jL,tuple->jS
open IntKind renaming i64->U,u64->jU
open World renaming heap->Q,cell?->jE,alloc->jK,drew->jV
open Obj renaming cells->jC
open Ending renaming returned->jN
open Proofs.Tryz renaming prog->jZ
open Go.RowKit
set_option linter.unusedVariables false
set_option maxRecDepth 100000
set_option maxHeartbeats 6400000
variable{x y c:Int}{f:Int×Int}
def Fu(op:Int):M4×Int:=if op=1 then ([],2)else if op=2 then ([],3)else if op=3 then ([],1)else if op=4 then ([],4)else if op=8 then ([2],2)else if op=9 then ([1],1)else if op=10 then ([4],2)else if op=11 then ([2,2],2)else if op=12 then ([2,2],2)else if op=13 then ([2,2],2)else if op=14 then ([2,2],2)else if op=15 then ([2,2],2)else if op=16 then ([4,4],4)else if op=17 then ([4,4],4)else if op=18 then ([4,4],4)else if op=19 then ([0,0],1)else if op=20 then ([0,0],1)else if op=21 then ([2,2],1)else if op=22 then ([2,2],1)else if op=23 then ([3,4],1)else if op=24 then ([4,4],1)else if op=25 then ([1,1],1)else if op=26 then ([1,1],1)else if op=27 then ([1,0,0],0)else ([1,0,0],0)
theorem Ah1(w:jD)(t:TypeId)(L:M4)(a:Y L<=1048576):BN (jK w<|jC (L.map<|Value.int U).toArray t) (Z ⟨R<|Q w,0,V⟩) (Y L) (Y L) L:=by refine⟨rfl,a,λj b=>⟨R<|Q w,0,rfl,Oz,?_⟩⟩;rw[zT,(Ah.new w (L.map<|Value.int U).toArray t).cell j];simp[b]
theorem AeP(w:jD):BN w V 0 0 []:=⟨rfl,Oa,λj h=>K4 h Oz⟩
def Jw(op:Int):Prop:=(1<=op/\op<=4)\/(8<=op/\op<=27)
def Ah2(op:Int)(w:jD)(r:Ending)(w':jD):Prop:=(∃x n c,r=jN (jS #[X x n c,T U (Fu op).2])/\BN w' x n c (Fu op).1)/\Ak w w'
theorem Al1{fn:Func}{a:Array Value}{w:jD}{t:TypeId}(op:Int)(b:∀V:jD,(results fn a).run jZ V=.ok (jS #[X (Z ⟨R<|Q w,0,jc⟩) (Y (Fu op).1)<|Y (Fu op).1,T U (Fu op).2]) V)(c:Y (Fu op).1<=3):bodyPost jZ fn (Ah2 op w) Exit.ret {tmps:=a,defers:=[]}<|jK w<|jC ((Fu op).1.map<|Value.int U).toArray t:=K8 (b _) rfl ⟨⟨_,_,_,rfl,Ah1 w t _ Oa⟩,Ar w _⟩
theorem AeQ(op:Int)(h:Jw op)(w:jD):Calls jZ 176 #[T U op] w<|Ah2 op w:=by
 have h:op=1\/op=2\/op=3\/op=4\/op=8\/op=9\/op=10\/op=11\/op=12\/op=13\/op=14\/op=15\/op=16\/op=17\/op=18\/op=19\/op=20\/op=21\/op=22\/op=23\/op=24\/op=25\/op=26\/op=27:=by unfold Jw at h;omega
 obtain rfl|rfl|rfl|rfl|h:=h;case' inr.inr.inr.inr=>obtain rfl|rfl|rfl|rfl|rfl|rfl|rfl|rfl|rfl|rfl|rfl|rfl|rfl|rfl|rfl|rfl|rfl|rfl|rfl|rfl:=h;all_goals go_enter func176,ntmps176;go_wp2_with fail;exact Al1 _ (λV=>by simp[results,results176,go_sem,Fu]) Ob
 all_goals go_enter func176,ntmps176;go_wp2;exact K8 (v:=jS #[X jc 0 0,T U (Fu _).2]) (by simp[results,results176,go_sem,Fu]) rfl ⟨⟨_,_,_,rfl,AeP w⟩,BRN⟩
set_option maxHeartbeats 1600000
theorem JT(n:Int)(w:jD):Calls jZ 150 #[T U n] w λb w'=>b=jN (T U<|Bc n)/\w'=w:=by
 by_cases h1:n<2
 .have a:=Ab (show Bc n=3 by rw[Bc,K1 h1]);go_enter func150,ntmps150;go_wp2;go_ret;exact⟨by rw[Aa a];rfl,rfl⟩
 by_cases h2:n<4
 .have a:=Ab (show Bc n=2 by rw[Bc,K0 h1,K1 h2]);go_enter func150,ntmps150;go_wp2;go_ret;exact⟨by rw[Aa a];rfl,rfl⟩
 have a:=Ab (show Bc n=4 by rw[Bc,K0 h1,K0 h2]);go_enter func150,ntmps150;go_wp2;go_ret;exact⟨by rw[Aa a];rfl,rfl⟩
def Jo:Int->M4->M4->N8|any,[],_=>Z any|any,w::ws,ks=>match ks with|[]=>V|k::ks=>if w=0 then(if any=0 then Jo k ws ks else if k=any then Jo any ws ks else V)else if k=w then Jo any ws ks else V
def Ec(op:Int)(K:M4):Int:=match Jo 0 (Fu op).1 K with|none=>0|some any=>if (Fu op).2=0 then any else (Fu op).2
theorem Adc{a K:M4}{k:Nat}(h1:k<Y a)(h2:k<Y K):Jo x (a.drop k) (K.drop k)=if a[k]=0 then(if x=0 then Jo K[k] (a.drop<|k+1) (K.drop<|k+1)else if K[k]=x then Jo x (a.drop<|k+1) (K.drop<|k+1)else V)else if K[k]=a[k]then Jo x (a.drop<|k+1) (K.drop<|k+1)else V:=by grind[Jo,Z7]
theorem Aap(op:Int)(h:Jw op)(a:M2 Addr)(n c:Nat)(K:M4)(w:jD)(t:BN w a n c K)(y:Y (Fu op).1<=n):Calls jZ 151 #[T U op,X a n c] w λH w'=>H=jN (T U<|Ec op K)/\Ak w w':=by
 have z:=Ab<|AeQ op h w;obtain⟨d,s⟩:∃d,d=(Fu op).1:=⟨_,rfl⟩;obtain⟨o,A⟩:∃o,o=(Fu op).2:=⟨_,rfl⟩;have B:=Ab (show Ec op K=match Jo 0 d K with|none=>0|some any=>if o=0 then any else o by rw[s,A];rfl);unfold Ah2 at z;rw[<-s,<-A]at z;rw[<-s]at y;have L:=Ab y;have I:=Ab t.len;have P:=t.aH;clear s A y h;go_enter func151,ntmps151;go_wp2_with fail;refine(Aa z).mono ?_;rintro H M ⟨⟨x,m,c1,rfl,C⟩,j⟩;have J:=Ab C.len;have N:=t.below j NLN;have hm:=C.aH;dsimp only;go_wp2_with fail;go_loopw[7,17] (λv i wr=>∃ (k:Nat) (any:Int),k<=m/\v=T U any/\i=T U k/\Ak M wr/\Hid (Jo 0 d K=Jo any (d.drop k) (K.drop k))) (λ_ i _=>m-(intOf i).toNat);case atStart=>exact⟨0,0,Oa,rfl,rfl,BRN,Ab rfl⟩
 obtain⟨k,any,S,rfl,rfl,l,D⟩:=hrel;by_cases E:k<m
 .have W:(k:Int)<(m:Int):=Oa;have h1:k<Y d:=by rw[Aa J];exact E
  have h2:k<Y K:=by have:=Aa L;rw[Aa I];omega
  have i2:(k:Int)<(n:Int):=G7<|Aa I;obtain⟨b1,aa,rfl,ab,c0⟩:=(C.below l NLN).cells k h1;obtain⟨b2,o2,rfl,ac,c2⟩:=(N.below l NLN).cells k h2;have g:=Ab<|(Aa D).trans<|Adc h1 h2;have p:=Ab (show(if d[k]=0 then (if any=0 then Jo K[k] (d.drop<|k+1) (K.drop<|k+1)else if K[k]=any then Jo any (d.drop<|k+1) (K.drop<|k+1)else V)else if K[k]=d[k]then Jo any (d.drop<|k+1) (K.drop<|k+1)else V)=V->Ec op K=0 from λe=>by rw[Aa B,Aa D,Adc h1 h2,e]);have q:=Ab E;generalize Jo 0 d K=F at g B;generalize d[k]=u at c0 g p;generalize K[k]=v at c2 g p;clear E h1 h2;by_cases hu:u=0
  .subst hu;by_cases r:any=0
   .subst r;have b:=Ab ((Aa g).trans<|by rw[K1 rfl,K1 rfl]);clear g p;go_wp2;go_roundw;case rel=>exact⟨k+1,v,Aa q,rfl,O0,l,b⟩
    have:=Aa q;simp[intOf];omega
   have ad:(any==0)=jI:=zA.2 r;by_cases f:v=any
   .have G:(v !=any)=jI:=by simp[f]
    have b:=Ab ((Aa g).trans<|by rw[K1 rfl,K0 r,K1 f]);clear g p r f;go_wp2;go_roundw;case rel=>exact⟨k+1,any,Aa q,rfl,O0,l,b⟩
    have:=Aa q;simp[intOf];omega
   have G:(v !=any)=jG:=zW.2 f;have b:=Ab (Aa p<|by rw[K1 rfl,K0 r,K0 f]);clear g p r f;go_wp2;go_ret;exact⟨by rw[Aa b];rfl,j.trans<|l.mono j.size⟩
  have ae:(u==0)=jI:=zA.2 hu;by_cases f:v=u
  .have G:(v !=u)=jI:=by simp[f]
   have b:=Ab ((Aa g).trans<|by rw[K0 hu,K1 f]);clear g p hu f;go_wp2;go_roundw;case rel=>exact⟨k+1,any,Aa q,rfl,O0,l,b⟩
   have:=Aa q;simp[intOf];omega
  have G:(v !=u)=jG:=zW.2 f;have b:=Ab (Aa p<|by rw[K0 hu,K0 f]);clear g p hu f;go_wp2;go_ret;exact⟨by rw[Aa b];rfl,j.trans<|l.mono j.size⟩
 have e:k=m:=Oa;subst e;have b:=Ab (show Ec op K=if o=0 then any else o by rw[Aa B,Aa D,List.drop_of_length_le<|by rw[Aa J];omega];rfl);by_cases h0:o=0
 .subst h0;have b:=Ab<|(Aa b).trans<|K1 rfl;go_wp2;go_ret;exact⟨by rw[Aa b];rfl,j.trans<|l.mono j.size⟩
 have af:(o==0)=jI:=zA.2 h0;have O:=Ab h0;clear h0;go_wp2;go_ret;exact⟨by rw[Aa b,K0<|Aa O];rfl,j.trans<|l.mono j.size⟩
structure Dc where
 name:M1
 isLet:Bool
 num:Int
 dA:Int
abbrev N7:=List Dc
def JE(K:N7)(s:M1):M2 Dc:=K.find? λd=>d.name=s
abbrev Rs:=Except (Int×Int) Int
def ofO(f:Int×Int):N8->Rs|some t=>.ok t|none=>.error f
def gX:Rs->Int|.ok t=>t|.error _=>0
def ltT(K:N7)(n:Int):N8:=if 0<=n then ((K.drop 6)[n.toNat]?).map Dc.dA else V
def BH(K:N7):Ex->Rs|.int ..=>.ok 2|.text ..=>.ok 3|.bool ..=>.ok 1|.set ..=>.ok 4|.name i s=>ofO (7,i)<|(JE K s).map Dc.dA|.attr _ n=>.ok (Bc n)|.lett i n=>ofO (7,i)<|ltT K n|.un i op k=>(BH K k).bind λa=>ofO (9,i)<|nz<|Ba op [a]|.bin i op l r=>(BH K l).bind λa=>(BH K r).bind λb=>ofO (9,i)<|nz<|Ba op [a,b]|.ite i c t e=>(BH K c).bind λa=>(BH K t).bind λb=>(BH K e).bind λd=>ofO (9,i)<|nz<|Ba 27 [a,b,d]
def Du(K:N7):Ex->M4|.un i op k=>Du K k++[gX<|BH K<|.un i op k]|.bin i op l r=>Du K l++Du K r++[gX<|BH K<|.bin i op l r]|.ite i c t e=>Du K c++Du K t++Du K e++[gX<|BH K<|.ite i c t e]|e=>[gX<|BH K e]
theorem Mz(K:N7):∀(e:Ex),Y (Du K e)=e.aL:=by intro e;induction e<;>intros<;>grind[Ex.aL,Du]
def inX(o:Rs):Prop:=∀a,o=.ok a->1<=a/\a<=4
theorem AiJ{K:N7}{s:M1}{d:Dc}(h:JE K s=Z d):d∈K/\d.name=s:=by have h1:=List.mem_of_find?_eq_some h;have h2:=List.find?_some h;grind
theorem Qr{o:N8}(h:∀a,o=Z a->1<=a/\a<=4):inX<|ofO f o:=λa e=>by cases o with|none=>cases e|some t=>cases e;exact h _ rfl
section
theorem WI(h1:0<=x)(h2:x<18446744073709551616):IntKind.u64.wrap x=x:=by rw[IntKind.wrap_u64];omega
theorem AbR(x:Int):IntKind.u64.wrap x=x%18446744073709551616:=IntKind.wrap_u64 x
theorem AkP(h t:Int)(h0:0<=h)(h1:h<4611686018427387904)(a:0<=t)(b:t<2):bits .or jU (h*2) t=h*2+t:=by rw[u64_or (h*2) t Oa Oa Oa Oa];have e:(h*2).toNat=2^1*h.toNat:=Oa;rw[e,<-Nat.two_pow_add_eq_or_of_lt Oa];omega
theorem Adh(a:Int)(k:Nat)(b:1<=k):a/2^k=(a/2^(k-1))/2:=by obtain⟨m,rfl⟩:∃m,k=m+1:=⟨k-1,Oa⟩;rw[show m+1-1=m from Oa,Int.pow_succ,Int.ediv_ediv_of_nonneg<|Int.le_of_lt<|Int.pow_pos Oa]
theorem JG{a b hi lo:Int}{k:Nat}(g:1<=k)(d:0<=a/\a<=9223372036854775808)(c:0<=b/\b<=9223372036854775808)(h1:0<=hi)(h2:hi<18446744073709551616)(h3:0<=lo)(h4:lo<18446744073709551616)(h:hi*18446744073709551616+lo=(a/2^k)*b):∃V t A:Int,A=a/2^(k-1)/\0<=A/\A<18446744073709551616/\t=A%2/\0<=V/\V<170141183460469231731687303715884105728/\A*b=V+t*b/\bits .or jU (IntKind.u64.wrap<|hi*2) (lo/9223372036854775808)=V/18446744073709551616/\IntKind.u64.wrap (lo*2)=V%18446744073709551616:=by
 have i:=Adh a k g;generalize f:a/2^(k-1)=A at*;have m:(0:Int)<2^(k-1):=Int.pow_pos Oa;have j:0<=A:=by rw[<-f];exact Int.ediv_nonneg d.1 Oa
 have n:A<=a:=by rw[<-f];exact Int.ediv_le_self _ d.1
 rw[i]at h;have o:(A/2)*b<=4611686018427387904*9223372036854775808:=Int.mul_le_mul Oa c.2 c.1 Oa;have p:0<=(A/2)*b:=Int.mul_nonneg Oa c.1;have l:A*b=2*((A/2)*b)+(A%2)*b:=by grind
 generalize (A/2)*b=P at*;have q:hi<=2305843009213693952:=Oa;refine⟨2*P,A%2,A,rfl,j,Oa,rfl,Oa,Oa,l,?_,?_⟩
 .rw[WI Oa Oa,AkP hi (lo/9223372036854775808) h1 Oa Oa Oa];omega
 rw[AbR];omega
variable{a b hi lo:Int}{k:Nat}
theorem Adi(f:1<=k)(g:0<=a/\a<=9223372036854775808)(h:0<=b/\b<=9223372036854775808)(h1:0<=hi)(h2:hi<18446744073709551616)(h3:0<=lo)(h4:lo<18446744073709551616)(i:hi*18446744073709551616+lo=(a/2^k)*b)(j:(bits BinOp.and IntKind.u64 (a/2^(k-1)) 1==1)=jG)(hc:IntKind.u64.wrap (IntKind.u64.wrap (lo*2)+b)<IntKind.u64.wrap (lo*2)):∃c d:Int,c=IntKind.u64.wrap (bits BinOp.or IntKind.u64 (IntKind.u64.wrap<|hi*2) (lo/9223372036854775808)+1)/\d=IntKind.u64.wrap (IntKind.u64.wrap (lo*2)+b)/\0<=c/\c<18446744073709551616/\0<=d/\d<18446744073709551616/\c*18446744073709551616+d=(a/2^(k-1))*b:=by obtain⟨V,t,A,l,m,n,ht,o,p,q,r,s⟩:=JG f g h h1 h2 h3 h4 i;grind[AbR,Go.and_one_u64]
theorem Adj(f:1<=k)(g:0<=a/\a<=9223372036854775808)(h:0<=b/\b<=9223372036854775808)(h1:0<=hi)(h2:hi<18446744073709551616)(h3:0<=lo)(h4:lo<18446744073709551616)(i:hi*18446744073709551616+lo=(a/2^k)*b)(j:(bits BinOp.and IntKind.u64 (a/2^(k-1)) 1==1)=jG)(hc:IntKind.u64.wrap (lo*2)<=IntKind.u64.wrap (IntKind.u64.wrap (lo*2)+b)):∃c d:Int,c=bits BinOp.or IntKind.u64 (IntKind.u64.wrap<|hi*2) (lo/9223372036854775808)/\d=IntKind.u64.wrap (IntKind.u64.wrap (lo*2)+b)/\0<=c/\c<18446744073709551616/\0<=d/\d<18446744073709551616/\c*18446744073709551616+d=(a/2^(k-1))*b:=by obtain⟨V,t,A,l,m,n,ht,o,p,q,r,s⟩:=JG f g h h1 h2 h3 h4 i;grind[AbR,Go.and_one_u64]
theorem WJ(f:1<=k)(g:0<=a/\a<=9223372036854775808)(h:0<=b/\b<=9223372036854775808)(h1:0<=hi)(h2:hi<18446744073709551616)(h3:0<=lo)(h4:lo<18446744073709551616)(i:hi*18446744073709551616+lo=(a/2^k)*b)(j:(bits BinOp.and IntKind.u64 (a/2^(k-1)) 1==1)=jI):∃c d:Int,c=bits BinOp.or IntKind.u64 (IntKind.u64.wrap<|hi*2) (lo/9223372036854775808)/\d=IntKind.u64.wrap (lo*2)/\0<=c/\c<18446744073709551616/\0<=d/\d<18446744073709551616/\c*18446744073709551616+d=(a/2^(k-1))*b:=by obtain⟨V,t,A,l,m,n,ht,o,p,q,r,s⟩:=JG f g h h1 h2 h3 h4 i;grind[Go.and_one_u64]
end
theorem WM(a:Int)(w:jD)(b:Cf a)(h0:a<0):Calls jZ 187 #[T U a] w λe w'=>e=jN (jL #[.bool jG,T jU 0,T jU<|-a])/\Ak w w':=by obtain⟨c,d⟩:=b;go_enter func187,ntmps187;go_wp2;rw[show-(a+1)+1=-a from Oa];exact K8 (v:=jL #[.bool jG,T jU 0,T jU<|-a]) (by simp[results,results187,go_sem]) rfl ⟨rfl,BRN.alloc NLN _⟩
theorem WN(a:Int)(w:jD)(b:Cf a)(h0:0<=a):Calls jZ 187 #[T U a] w λe w'=>e=jN (jL #[.bool jI,T jU 0,T jU a])/\Ak w w':=by obtain⟨c,d⟩:=b;have f:¬ a<0:=Oa;go_enter func187,ntmps187;go_wp2;exact K8 (v:=jL #[.bool jI,T jU 0,T jU a]) (by simp[results,results187,go_sem]) rfl ⟨rfl,BRN.alloc NLN _⟩
theorem AX(a:Int)(w:jD)(b:Cf a):Calls jZ 187 #[T U a] w λe w'=>e=jN (jL #[.bool<|decide (a<0),T jU 0,T jU (a.natAbs:Int)])/\Ak w w':=by grind[WM,WN]
theorem NO(h:x=y):Value.int IntKind.u64 x=T jU y:=by rw[h]
theorem WO(a b:Int)(w:jD)(f:0<=a/\a<=9223372036854775808)(g:0<=b/\b<=9223372036854775808):Calls jZ 190 #[T jU a,T jU b] w λe w'=>(∃hi lo:Int,e=jN (jS #[T jU hi,T jU lo])/\0<=hi/\hi<18446744073709551616/\0<=lo/\lo<18446744073709551616/\hi*18446744073709551616+lo=a*b)/\w'=w:=by
 go_enter func190,ntmps190;go_wp2;go_loop[6,7,8,9] (λh l i _=>∃ (hi lo:Int) (k:Nat),h=T jU hi/\l=T jU lo/\i=T U ((k:Int)-1)/\k<=64/\0<=hi/\hi<18446744073709551616/\0<=lo/\lo<18446744073709551616/\hi*18446744073709551616+lo=(a/2^k)*b) (λ_ _ i _=>(intOf i+1).toNat);case atStart=>exact⟨0,0,64,rfl,rfl,rfl,Oa,Oa,Oa,Oa,Oa,by rw[show a/2^64=0 from Int.ediv_eq_zero_of_lt f.1 Oa];omega⟩
 obtain⟨hi,lo,k,rfl,rfl,rfl,o,h1,h2,h3,h4,m⟩:=hrel;by_cases n:k=0
 .subst n;go_wp2;go_ret2;exact⟨⟨hi,lo,rfl,h1,h2,h3,h4,by rw[Aa<|Ab m];simp⟩,rfl⟩
 have p:(0:Int)<=(k:Int)-1:=Oa;have j:=Ab m;go_wp2
 .obtain⟨c,d,e1,e2,q⟩:=Adi Oa f g h1 h2 h3 h4 (Aa j) P0 P0;exact⟨⟨c,d,k-1,NO e1.symm,NO e2.symm,by rw[show(((k-1:Nat):Int))=(k:Int)-1 from Oa],Oa,q⟩,by simp[intOf];omega⟩
 .obtain⟨c,d,e1,e2,q⟩:=Adj Oa f g h1 h2 h3 h4 (Aa j) P0 P0;exact⟨⟨c,d,k-1,NO e1.symm,NO e2.symm,by rw[show(((k-1:Nat):Int))=(k:Int)-1 from Oa],Oa,q⟩,by simp[intOf];omega⟩
 obtain⟨c,d,e1,e2,q⟩:=WJ Oa f g h1 h2 h3 h4 (Aa j) P0;exact⟨⟨c,d,k-1,NO e1.symm,NO e2.symm,by rw[show(((k-1:Nat):Int))=(k:Int)-1 from Oa],Oa,q⟩,by simp[intOf];omega⟩
def Di(n:Bool)(hi lo:Int):Int:=if n then-(hi*18446744073709551616+lo)else hi*18446744073709551616+lo
theorem Ir{v x:Int}(h:GO v=(x,c)):jN (jS #[T U x,T U c])=jN (jS #[T U (GO v).1,T U (GO v).2]):=by rw[h]
theorem Fo(n:Bool)(hi lo:Int)(w:jD)(h1:0<=hi)(h2:hi<18446744073709551616)(h3:0<=lo)(h4:lo<18446744073709551616):Calls jZ 188 #[jL #[.bool n,T jU hi,T jU lo]] w λe w'=>e=jN (jS #[T U (GO<|Di n hi lo).1,T U (GO<|Di n hi lo).2])/\Ak w w':=by
 have B:=Ar w<|jC #[.bool n,T jU hi,T jU lo] 295;by_cases b:hi=0
 .subst b;by_cases e1:9223372036854775808<lo
  .have a:=Ab (show GO (Di n 0 lo)=(0,1)from JH<|by cases n<;>simp[Di]<;>omega);go_enter func188,ntmps188;go_wp2;go_ret2;exact⟨Ir<|Aa a,B⟩
  by_cases e2:lo=9223372036854775808
  .subst e2;cases n
   .have a:=Ab (show GO (Di jI 0 9223372036854775808)=(0,1)from JH<|by simp[Di]);go_enter func188,ntmps188;go_wp2;go_ret2;exact⟨Ir<|Aa a,B⟩
   have a:=Ab (show GO (Di jG 0 9223372036854775808)=(-9223372036854775808,0)from DM (by simp[Di])<|by simp[Di]);go_enter func188,ntmps188;go_wp2;go_ret2;exact⟨Ir<|Aa a,B⟩
  have c:lo<=9223372036854775807:=Oa;have d:lo<=9223372036854775808:=Oa;have f:(lo==9223372036854775808)=jI:=zA.2 e2;cases n
  .have a:=Ab (show GO (Di jI 0 lo)=(lo,0)by rw[show Di jI 0 lo=lo by simp[Di]];exact DM Oa Oa);go_enter func188,ntmps188;go_wp2;go_ret2;exact⟨Ir<|Aa a,B⟩
  have a:=Ab (show GO (Di jG 0 lo)=(-lo,0)by rw[show Di jG 0 lo=-lo by simp[Di]];exact DM Oa Oa);go_enter func188,ntmps188;go_wp2;go_ret2;exact⟨Ir<|Aa a,B⟩
 have g:(hi !=0)=jG:=G6;go_enter func188,ntmps188;go_wp2;go_ret2;exact⟨Ir (Aa<|Ab<|show GO (Di n hi lo)=(0,1)from JH<|by cases n<;>simp[Di]<;>omega),B⟩
def Amm(v:Value)(s:Int):Prop:=∃ (q:Bool) (hi lo:Int),v=jL #[.bool q,T jU hi,T jU lo]/\0<=hi/\hi<18446744073709551616/\0<=lo/\lo<18446744073709551616/\Di q hi lo=s
theorem TG(n:Bool)(x:Int)(m:Bool)(y:Int)(w:jD)(h1:0<=x)(h2:x<=9223372036854775808)(h3:0<=y)(h4:y<=9223372036854775808):Calls jZ 189 #[jL #[.bool n,T jU 0,T jU x],jL #[.bool m,T jU 0,T jU y]] w λe w'=>∃v,e=jN v/\Amm v (Di n 0 x+Di m 0 y)/\Ak w w':=by
 cases a:(n==m)
 .have hm:m=!n:=by cases n<;>cases m<;>simp at a|-
  subst hm;by_cases c:y<=x
  .go_enter func189,ntmps189;go_wp2;refine K8 (v:=jL #[.bool n,T jU 0,T jU<|x-y]) Hl rfl ⟨_,rfl,⟨n,0,x-y,rfl,Oa,Oa,Oa,Oa,by cases n<;>simp[Di]<;>omega⟩,?_⟩;exact((BRN.alloc NLN _).alloc Oz _).alloc Od _
  have d:x<y:=Oa;go_enter func189,ntmps189;go_wp2;refine K8 (v:=jL #[.bool !n,T jU 0,T jU<|y-x]) Hl rfl ⟨_,rfl,⟨!n,0,y-x,rfl,Oa,Oa,Oa,Oa,by cases n<;>simp[Di]<;>omega⟩,?_⟩;exact((BRN.alloc NLN _).alloc Oz _).alloc Od _
 have hm:m=n:=by cases n<;>cases m<;>simp at a|-
 subst hm;by_cases hc:x=9223372036854775808/\y=9223372036854775808
 .have f:IntKind.u64.wrap (x+y)=0:=by rw[AbR];omega
  have g:0<x:=Oa;have b:=Ab hc;clear hc;go_enter func189,ntmps189;go_wp2;refine K8 (v:=jL #[.bool m,T jU 1,T jU 0]) Hl rfl ⟨_,rfl,⟨m,1,0,rfl,Oa,Oa,Oa,Oa,by have hc:=Aa b;cases m<;>simp[Di]<;>omega⟩,?_⟩;exact((BRN.alloc NLN _).alloc Oz _).alloc Od _
 have hs:x+y<=18446744073709551615:=Oa;have h:¬ (x+y<x):=Oa;clear hc;go_enter func189,ntmps189;go_wp2;refine K8 (v:=jL #[.bool m,T jU 0,T jU<|x+y]) Hl rfl ⟨_,rfl,⟨m,0,x+y,rfl,Oa,Oa,Oa,Oa,by cases m<;>simp[Di]<;>omega⟩,?_⟩;exact((BRN.alloc NLN _).alloc Oz _).alloc Od _
section
theorem Vk(a:Int):Di (decide (a<0)) 0 (a.natAbs:Int)=a:=by grind[Di]
theorem Ain(n:Bool)(x:Int):Di (!n) 0 x=-Di n 0 x:=by grind[Di]
theorem Is{p q:Int×Int}(h:p=q):jN (jS #[T U p.1,T U p.2])=jN (jS #[T U q.1,T U q.2]):=by rw[h]
theorem Lt{c:Int}{q:Int×Int}(h:q=(x,c)):jN (jS #[T U x,T U c])=jN (jS #[T U q.1,T U q.2]):=by rw[h]
theorem Ae8(a b hi lo:Int)(h:hi*18446744073709551616+lo=(a.natAbs:Int)*(b.natAbs:Int)):Di (!(decide (a<0)==decide (b<0))) hi lo=a*b:=by grind[Di]
theorem Ae9(a b:Int):Di (!(decide (a<0)==decide (b<0))) 0 ((a.natAbs:Int)/(b.natAbs:Int))=a.tdiv b:=by
 by_cases h1:a<0<;>by_cases h2:b<0
 .have e1:(a.natAbs:Int)=-a:=Oa;have e2:(b.natAbs:Int)=-b:=Oa;have:a.tdiv b=(-a).tdiv (-b):=by rw[Int.neg_tdiv,Int.tdiv_neg,Int.neg_neg]
  grind[Di]
 .have e1:(a.natAbs:Int)=-a:=Oa;have e2:(b.natAbs:Int)=b:=Oa;have:a.tdiv b=-((-a).tdiv b):=by rw[Int.neg_tdiv,Int.neg_neg]
  grind[Di]
 .have e1:(a.natAbs:Int)=a:=Oa;have e2:(b.natAbs:Int)=-b:=Oa;have:a.tdiv b=-(a.tdiv<|-b):=by rw[Int.tdiv_neg,Int.neg_neg]
  grind[Di]
 grind[Di]
theorem Afa(a b:Int):Di (decide (a<0)) 0 ((a.natAbs:Int)%(b.natAbs:Int))=a.tmod b:=by
 have c:∀x:Int,x.tmod b=x.tmod (b.natAbs:Int):=λx=>by
  by_cases h2:b<0
  .have e2:(b.natAbs:Int)=-b:=Oa;rw[e2,Int.tmod_neg]
  grind
 rw[c];by_cases h1:a<0
 .have e1:(a.natAbs:Int)=-a:=Oa;have:a.tmod (b.natAbs:Int)=-((-a).tmod (b.natAbs:Int)):=by rw[Int.neg_tmod,Int.neg_neg]
  grind[Di]
 grind[Di]
variable{a b:Int}{w:jD}
theorem Aio(d:Cf a)(g:Cf b):Calls jZ 163 #[T U 1,T U a,T U b] w λe w'=>e=jN (jS #[T U (AW 1 a b).1,T U (AW 1 a b).2])/\Ak w w':=by
 have hx:(a.natAbs:Int)<=9223372036854775808:=by have:=d.lo;have:=d.hi;omega
 have hy:(b.natAbs:Int)<=9223372036854775808:=by have:=g.lo;have:=g.hi;omega
 go_enter func163,ntmps163;go_wp2_with fail;refine(AX a w d).mono ?_;rintro e m ⟨rfl,j⟩;have h:=j.alloc j.size<|jC #[.bool<|decide (a<0),T jU 0,T jU (a.natAbs:Int)] 295;have n:=Ah.new m #[.bool<|decide (a<0),T jU 0,T jU (a.natAbs:Int)] 295;go_wp2_with fail;refine(AX b _ g).mono ?_;rintro e w2 ⟨rfl,c⟩;have k:=(h.trans<|c.mono h.size).alloc (zB h.size c.size)<|jC #[.bool<|decide (b<0),T jU 0,T jU (b.natAbs:Int)] 295;have i:=(n.aB c NLN).alloc<|jC #[.bool<|decide (b<0),T jU 0,T jU (b.natAbs:Int)] 295;have z2:=c.size;simp only[K6]at z2;have c0:=i.cell 0;have c1:=i.cell 1;have c2:=i.cell 2;simp at c0 c1 c2;go_wp2_with fail;refine(TG _ _ _ _ _ Oa hx Oa hy).mono ?_;rintro e y ⟨v,rfl,o,p⟩;obtain⟨q,hi,lo,rfl,r,s,t,u,hq⟩:=o;have l:=k.trans<|p.mono k.size;rw[Vk,Vk]at hq;go_wp2_with fail;refine(Fo q hi lo _ r s t u).mono ?_;rintro e z ⟨rfl,x⟩;rw[Aa<|Ab hq];generalize hf:GO (a+b)=f;go_wp2;go_ret2;exact⟨Is<|by rw[<-Aa<|Ab hf];rfl,l.trans<|x.mono l.size⟩
theorem Aip(d:Cf a)(g:Cf b):Calls jZ 163 #[T U 2,T U a,T U b] w λe w'=>e=jN (jS #[T U (AW 2 a b).1,T U (AW 2 a b).2])/\Ak w w':=by
 have hx:(a.natAbs:Int)<=9223372036854775808:=by have:=d.lo;have:=d.hi;omega
 have hy:(b.natAbs:Int)<=9223372036854775808:=by have:=g.lo;have:=g.hi;omega
 go_enter func163,ntmps163;go_wp2_with fail;refine(AX a w d).mono ?_;rintro e m ⟨rfl,j⟩;have h:=j.alloc j.size<|jC #[.bool<|decide (a<0),T jU 0,T jU (a.natAbs:Int)] 295;have n:=Ah.new m #[.bool<|decide (a<0),T jU 0,T jU (a.natAbs:Int)] 295;go_wp2_with fail;refine(AX b _ g).mono ?_;rintro e w2 ⟨rfl,c⟩;have k:=(h.trans<|c.mono h.size).alloc (zB h.size c.size)<|jC #[.bool<|!decide (b<0),T jU 0,T jU (b.natAbs:Int)] 295;have i:=(n.aB c NLN).alloc<|jC #[.bool<|!decide (b<0),T jU 0,T jU (b.natAbs:Int)] 295;have z2:=c.size;simp only[K6]at z2;have c0:=i.cell 0;have c1:=i.cell 1;have c2:=i.cell 2;simp at c0 c1 c2;go_wp2_with fail;refine(TG _ _ _ _ _ Oa hx Oa hy).mono ?_;rintro e y ⟨v,rfl,o,p⟩;obtain⟨q,hi,lo,rfl,r,s,t,u,hq⟩:=o;have l:=k.trans<|p.mono k.size;rw[Ain,Vk,Vk]at hq;go_wp2_with fail;refine(Fo q hi lo _ r s t u).mono ?_;rintro e z ⟨rfl,x⟩;rw[Aa<|Ab hq];generalize hf:GO (a+-b)=f;go_wp2;go_ret2;exact⟨Is<|by rw[<-Aa<|Ab hf,<-Int.sub_eq_add_neg];rfl,l.trans<|x.mono l.size⟩
theorem Aiq(d:Cf a)(g:Cf b):Calls jZ 163 #[T U 3,T U a,T U b] w λe w'=>e=jN (jS #[T U (AW 3 a b).1,T U (AW 3 a b).2])/\Ak w w':=by
 have hx:(a.natAbs:Int)<=9223372036854775808:=by have:=d.lo;have:=d.hi;omega
 have hy:(b.natAbs:Int)<=9223372036854775808:=by have:=g.lo;have:=g.hi;omega
 go_enter func163,ntmps163;go_wp2_with fail;refine(AX a w d).mono ?_;rintro e l ⟨rfl,j⟩;have h:=j.alloc j.size<|jC #[.bool<|decide (a<0),T jU 0,T jU (a.natAbs:Int)] 295;have m:=Ah.new l #[.bool<|decide (a<0),T jU 0,T jU (a.natAbs:Int)] 295;go_wp2_with fail;refine(AX b _ g).mono ?_;rintro e w2 ⟨rfl,c⟩;have k:=(h.trans<|c.mono h.size).alloc (zB h.size c.size)<|jC #[.bool<|decide (b<0),T jU 0,T jU (b.natAbs:Int)] 295;have i:=(m.aB c NLN).alloc<|jC #[.bool<|decide (b<0),T jU 0,T jU (b.natAbs:Int)] 295;have z2:=c.size;simp only[K6]at z2;have c0:=i.cell 0;have c1:=i.cell 1;have c2:=i.cell 2;simp at c0 c1 c2;go_wp2_with fail;refine(WO _ _ _ ⟨Oa,hx⟩ ⟨Oa,hy⟩).mono ?_;rintro e s ⟨⟨hi,lo,rfl,n,o,p,q,hq⟩,rfl⟩;go_wp2_with fail;refine(Fo _ hi lo _ n o p q).mono ?_;rintro e t ⟨rfl,r⟩;rw[Aa<|Ab<|Ae8 a b hi lo hq];generalize hf:GO (a*b)=f;go_wp2;go_ret2;exact⟨Is<|by rw[<-Aa<|Ab hf];rfl,k.trans<|r.mono k.size⟩
end
section
variable{a b:Int}{w:jD}
theorem Air(h:Cf a)(i:Cf b)(op:Int)(h1:op≠1)(h2:op≠2)(h3:op≠3)(h4:op≠4)(h5:op≠5):Calls jZ 163 #[T U op,T U a,T U b] w λe w'=>e=jN (jS #[T U (AW op a b).1,T U (AW op a b).2])/\Ak w w':=by have e1:(op==1)=jI:=zA.2 h1;have e2:(op==2)=jI:=zA.2 h2;have e3:(op==3)=jI:=zA.2 h3;have e4:(op==4)=jI:=zA.2 h4;have e5:(op==5)=jI:=zA.2 h5;have j:=Ab (show AW op a b=(0,4)by rw[AW,K0 h1,K0 h2,K0 h3,K0 h4,K0 h5]);go_enter func163,ntmps163;go_wp2_with fail;refine(AX a w h).mono ?_;rintro e k ⟨rfl,g⟩;have d:=g.alloc g.size<|jC #[.bool<|decide (a<0),T jU 0,T jU (a.natAbs:Int)] 295;have l:=Ah.new k #[.bool<|decide (a<0),T jU 0,T jU (a.natAbs:Int)] 295;go_wp2_with fail;refine(AX b _ i).mono ?_;rintro e w2 ⟨rfl,c⟩;have m:=(d.trans<|c.mono d.size).alloc (zB d.size c.size)<|jC #[.bool<|decide (b<0),T jU 0,T jU (b.natAbs:Int)] 295;have f:=(l.aB c NLN).alloc<|jC #[.bool<|decide (b<0),T jU 0,T jU (b.natAbs:Int)] 295;have z2:=c.size;simp only[K6]at z2;have c0:=f.cell 0;have c1:=f.cell 1;have c2:=f.cell 2;simp at c0 c1 c2;go_wp2;go_ret2;exact⟨Lt<|Aa j,m⟩
theorem Afb(j:Cf a)(f:Cf b)(h0:b=0):Calls jZ 163 #[T U 4,T U a,T U b] w λe w'=>e=jN (jS #[T U (AW 4 a b).1,T U (AW 4 a b).2])/\Ak w w':=by
 have hy:(b.natAbs:Int)<=9223372036854775808:=by have:=f.lo;have:=f.hi;omega
 have k:=Ab (show AW 4 a b=(0,2)by subst h0;rfl);have n:(b==0)=jG:=zD.2 h0;clear h0;go_enter func163,ntmps163;go_wp2_with fail;refine(AX a w j).mono ?_;rintro e l ⟨rfl,g⟩;have d:=g.alloc g.size<|jC #[.bool<|decide (a<0),T jU 0,T jU (a.natAbs:Int)] 295;have i:=Ah.new l #[.bool<|decide (a<0),T jU 0,T jU (a.natAbs:Int)] 295;go_wp2_with fail;refine(AX b _ f).mono ?_;rintro e w2 ⟨rfl,c⟩;have m:=(d.trans<|c.mono d.size).alloc (zB d.size c.size)<|jC #[.bool<|decide (b<0),T jU 0,T jU (b.natAbs:Int)] 295;have h:=(i.aB c NLN).alloc<|jC #[.bool<|decide (b<0),T jU 0,T jU (b.natAbs:Int)] 295;have z2:=c.size;simp only[K6]at z2;clear i d g c z2;have c0:=h.cell 0;have c1:=h.cell 1;have c2:=h.cell 2;simp at c0 c1 c2;go_wp2;go_ret2;exact⟨Lt<|Aa k,m⟩
theorem Afc(j:Cf a)(f:Cf b)(h0:b=0):Calls jZ 163 #[T U 5,T U a,T U b] w λe w'=>e=jN (jS #[T U (AW 5 a b).1,T U (AW 5 a b).2])/\Ak w w':=by
 have hy:(b.natAbs:Int)<=9223372036854775808:=by have:=f.lo;have:=f.hi;omega
 have k:=Ab (show AW 5 a b=(0,2)by subst h0;rfl);have n:(b==0)=jG:=zD.2 h0;clear h0;go_enter func163,ntmps163;go_wp2_with fail;refine(AX a w j).mono ?_;rintro e l ⟨rfl,g⟩;have d:=g.alloc g.size<|jC #[.bool<|decide (a<0),T jU 0,T jU (a.natAbs:Int)] 295;have i:=Ah.new l #[.bool<|decide (a<0),T jU 0,T jU (a.natAbs:Int)] 295;go_wp2_with fail;refine(AX b _ f).mono ?_;rintro e w2 ⟨rfl,c⟩;have m:=(d.trans<|c.mono d.size).alloc (zB d.size c.size)<|jC #[.bool<|decide (b<0),T jU 0,T jU (b.natAbs:Int)] 295;have h:=(i.aB c NLN).alloc<|jC #[.bool<|decide (b<0),T jU 0,T jU (b.natAbs:Int)] 295;have z2:=c.size;simp only[K6]at z2;clear i d g c z2;have c0:=h.cell 0;have c1:=h.cell 1;have c2:=h.cell 2;simp at c0 c1 c2;go_wp2;go_ret2;exact⟨Lt<|Aa k,m⟩
end
section
variable{a b:Int}{w:jD}
theorem Ais(j:Cf a)(k:Cf b)(h0:b≠0):Calls jZ 163 #[T U 4,T U a,T U b] w λe w'=>e=jN (jS #[T U (AW 4 a b).1,T U (AW 4 a b).2])/\Ak w w':=by
 have hx:(a.natAbs:Int)<=9223372036854775808:=by have:=j.lo;have:=j.hi;omega
 have hy:(b.natAbs:Int)<=9223372036854775808:=by have:=k.lo;have:=k.hi;omega
 have y:(b==0)=jI:=zA.2 h0;have z:(0:Int)<(b.natAbs:Int):=Oa;have p:=Ab<|Ae9 a b;have h3:0<=(a.natAbs:Int)/(b.natAbs:Int):=Int.ediv_nonneg Oa Oa;have h4:(a.natAbs:Int)/(b.natAbs:Int)<18446744073709551616:=by have:=Int.ediv_le_self (b.natAbs:Int) (Oa:0<=(a.natAbs:Int));omega
 have q:=Ab<|WI h3 h4;go_enter func163,ntmps163;go_wp2_with fail;refine(AX a w j).mono ?_;rintro e l ⟨rfl,n⟩;have m:=n.alloc n.size<|jC #[.bool<|decide (a<0),T jU 0,T jU (a.natAbs:Int)] 295;have r:=Ah.new l #[.bool<|decide (a<0),T jU 0,T jU (a.natAbs:Int)] 295;go_wp2_with fail;refine(AX b _ k).mono ?_;rintro e w2 ⟨rfl,h⟩;have o:=(m.trans<|h.mono m.size).alloc (zB m.size h.size)<|jC #[.bool<|decide (b<0),T jU 0,T jU (b.natAbs:Int)] 295;have c:=(r.aB h NLN).alloc<|jC #[.bool<|decide (b<0),T jU 0,T jU (b.natAbs:Int)] 295;have d:=Ah.new w2 #[.bool<|decide (b<0),T jU 0,T jU (b.natAbs:Int)] 295;have z2:=h.size;simp only[K6]at z2;have c0:=c.cell 0;have c1:=c.cell 1;have c2:=c.cell 2;simp at c0 c1 c2;generalize A:jK w2 (jC #[.bool (decide (b<0)),T jU 0,T jU (b.natAbs:Int)] 295)=i at*;have s:=d.cell 0;have d1:=d.cell 1;have d2:=d.cell 2;simp at s d1 d2;go_wp2_with fail;go_region_held3 (λw'=>jE w' ⟨R<|Q l,0,V⟩=Z (.bool<|decide (a<0))/\jE w' ⟨R<|Q l,2,V⟩=Z (T jU (a.natAbs:Int))/\jE w' ⟨R<|Q w2,0,V⟩=Z (.bool<|decide (b<0))/\jE w' ⟨R<|Q w2,2,V⟩=Z (T jU (b.natAbs:Int))) (go_keep)((go_at_call 188;rw[Aa q];refine(Fo _ _ _ _ ?_ ?_ ?_ ?_).mono ?_;omega;omega;exact h3;exact h4;rintro e B ⟨rfl,g⟩;have t:=(Ah.aB (w:=jV i) ⟨c.out⟩ g NLN).cell 0;have u:=(Ah.aB (w:=jV i) ⟨c.out⟩ g NLN).cell 2;have v:=(Ah.aB (w:=jV i) ⟨d.out⟩ g NLN).cell 0;have x:=(Ah.aB (w:=jV i) ⟨d.out⟩ g NLN).cell 2;simp at t u v x));all_goals rw[Aa p];generalize hf:GO (a.tdiv b)=f;go_wp2;go_ret2;exact⟨Is (Aa<|Ab<|show AW 4 a b=f by rw[<-hf,AW];simp[WL,h0]).symm,o.drew.trans<|g.mono o.size⟩
theorem Ait(o:Cf a)(j:Cf b)(h0:b≠0):Calls jZ 163 #[T U 5,T U a,T U b] w λe w'=>e=jN (jS #[T U (AW 5 a b).1,T U (AW 5 a b).2])/\Ak w w':=by
 have hy:(b.natAbs:Int)<=9223372036854775808:=by have:=j.lo;have:=j.hi;omega
 have z:(b==0)=jI:=zA.2 h0;have p:(0:Int)<(b.natAbs:Int):=Oa;have q:=Ab<|Afa a b;have h3:0<=(a.natAbs:Int)%(b.natAbs:Int):=Int.emod_nonneg _ Oa;have h4:(a.natAbs:Int)%(b.natAbs:Int)<18446744073709551616:=by have:=Int.emod_lt_of_pos (a.natAbs:Int) p;omega
 have r:=Ab<|Int.tmod_eq_emod_of_nonneg (b:=(b.natAbs:Int)) (Oa:0<=(a.natAbs:Int));go_enter func163,ntmps163;go_wp2_with fail;refine(AX a w o).mono ?_;rintro e k ⟨rfl,m⟩;have l:=m.alloc m.size<|jC #[.bool<|decide (a<0),T jU 0,T jU (a.natAbs:Int)] 295;have s:=Ah.new k #[.bool<|decide (a<0),T jU 0,T jU (a.natAbs:Int)] 295;go_wp2_with fail;refine(AX b _ j).mono ?_;rintro e w2 ⟨rfl,h⟩;have n:=(l.trans<|h.mono l.size).alloc (zB l.size h.size)<|jC #[.bool<|decide (b<0),T jU 0,T jU (b.natAbs:Int)] 295;have c:=(s.aB h NLN).alloc<|jC #[.bool<|decide (b<0),T jU 0,T jU (b.natAbs:Int)] 295;have d:=Ah.new w2 #[.bool<|decide (b<0),T jU 0,T jU (b.natAbs:Int)] 295;have z2:=h.size;simp only[K6]at z2;have c0:=c.cell 0;have c1:=c.cell 1;have c2:=c.cell 2;simp at c0 c1 c2;generalize A:jK w2 (jC #[.bool (decide (b<0)),T jU 0,T jU (b.natAbs:Int)] 295)=i at*;have t:=d.cell 0;have d1:=d.cell 1;have d2:=d.cell 2;simp at t d1 d2;go_wp2_with fail;go_region_held3 (λw'=>jE w' ⟨R<|Q k,0,V⟩=Z (.bool<|decide (a<0))/\jE w' ⟨R<|Q k,2,V⟩=Z (T jU (a.natAbs:Int))/\jE w' ⟨R<|Q w2,0,V⟩=Z (.bool<|decide (b<0))/\jE w' ⟨R<|Q w2,2,V⟩=Z (T jU (b.natAbs:Int))) (go_keep)((go_at_call 188;rw[Aa r];refine(Fo _ _ _ _ ?_ ?_ ?_ ?_).mono ?_;omega;omega;exact h3;exact h4;rintro e B ⟨rfl,g⟩;have u:=(Ah.aB (w:=jV i) ⟨c.out⟩ g NLN).cell 0;have v:=(Ah.aB (w:=jV i) ⟨c.out⟩ g NLN).cell 2;have x:=(Ah.aB (w:=jV i) ⟨d.out⟩ g NLN).cell 0;have y:=(Ah.aB (w:=jV i) ⟨d.out⟩ g NLN).cell 2;simp at u v x y));all_goals rw[Aa q];generalize hf:GO (a.tmod b)=f;go_wp2;go_ret2;exact⟨Is (Aa<|Ab<|show AW 5 a b=f by rw[<-hf,AW];simp[Vj,h0]).symm,n.drew.trans<|g.mono n.size⟩
theorem FW(op:Int)(c:Cf a)(d:Cf b):Calls jZ 163 #[T U op,T U a,T U b] w λe w'=>e=jN (jS #[T U (AW op a b).1,T U (AW op a b).2])/\Ak w w':=by grind[Ait,Aio,Air,Afb,Aiq,Afc,Aip,Ais]
end
end Go.Proofs.YtlcfoihgfcmfeaaGreatDoor
