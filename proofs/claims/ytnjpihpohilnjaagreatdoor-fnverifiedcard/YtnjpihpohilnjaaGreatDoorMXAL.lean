import Derived.Test.YtnjpihpohilnjaaGreatDoorMXAT
open List renaming length->T
open Option renaming none->U,some->Q
open Array renaming size->R,size->jh
open Go renaming World->jB,Value->jF,Addr->jG
open Bool renaming true->jD,false->jE
namespace Go.Proofs.YtnjpihpohilnjaaGreatDoor
open Proofs.Tryz
open Value renaming int->V,slice->Y,string->jC,ownBlock->jL,agg->jM,pointer->jP,tuple->jQ,iface->jU,nilIface->jX
open IntKind renaming i64->X,i64->jd,u64->jS
open World renaming heap->Z,cell?->jI,setCell->jJ,alloc->jK,ownsRow->jO,drew->jR
open Addr renaming mk->jA,block->jT
open Obj renaming cells->jH
open Ending renaming returned->jN
open Proofs.Tryz renaming prog->jZ
open Go.RowKit
set_option linter.unusedVariables false
set_option maxRecDepth 100000
set_option maxHeartbeats 6400000
variable{r:Ending}{o:Ev}{x y at' f:Int}{p:Int×Int}{l:L7}{n c:Nat}{d:L3}{pv:jF}{v:Vv}
section
theorem V8 (a: 0<=x)(b:x<18446744073709551616):IntKind.u64.wrap x=x:=by rw[IntKind.wrap_u64];omega
theorem Aaw (x:Int):IntKind.u64.wrap x=x % 18446744073709551616:=IntKind.wrap_u64 x
theorem AiI (h t:Int)(h0: 0<=h)(a:h<4611686018427387904)(b: 0<=t)(c:t<2):bits .or jS (h*2) t=h*2+t:=by
 rw[u64_or (h*2) t Oa Oa Oa Oa];have e:(h*2).toNat=2 ^ 1*h.toNat:=Oa;rw[e,<-Nat.two_pow_add_eq_or_of_lt Oa];omega
theorem AbL (a:Int)(k:Nat)(b: 1<=k):a / 2 ^ k=(a / 2 ^ (k-1)) / 2:=by
 obtain⟨m,rfl⟩:∃m,k=m+1:=⟨k-1,Oa⟩
 rw[show m+1-1=m from Oa,Int.pow_succ,Int.ediv_ediv_of_nonneg<|Int.le_of_lt<|Int.pow_pos Oa]
theorem J4 {a b hi lo:Int}{k:Nat}(g: 1<=k)(d: 0<=a/\a<=9223372036854775808)(c: 0<=b/\b<=9223372036854775808)(h: 0<=hi)(m:hi<18446744073709551616)(h3: 0<=lo)(n:lo<18446744073709551616)
  (hv:hi*18446744073709551616+lo=(a / 2 ^ k)*b):
  ∃V t A:Int,A=a / 2 ^ (k-1)/\0<=A/\A<18446744073709551616/\t=A % 2/\0<=V/\V<170141183460469231731687303715884105728/\A*b=V+t*b/\
   bits .or jS (IntKind.u64.wrap<|hi*2) (lo / 9223372036854775808)=V / 18446744073709551616/\IntKind.u64.wrap (lo*2)=V % 18446744073709551616:=by
 have i:=AbL a k g;generalize f:a / 2 ^ (k-1)=A at*;have o:(0 :Int)<2 ^ (k-1):=Int.pow_pos Oa;have j: 0<=A:=by rw[<-f];exact Int.ediv_nonneg d.1 Oa
 have p:A<=a:=by rw[<-f];exact Int.ediv_le_self _ d.1
 rw[i]at hv;have q:(A / 2)*b<=4611686018427387904*9223372036854775808:=Int.mul_le_mul Oa c.2 c.1 Oa;have r: 0<=(A / 2)*b:=Int.mul_nonneg Oa c.1;have l:A*b=2*((A / 2)*b)+(A % 2)*b:=S4;generalize (A / 2)*b=P at*;have s:hi<=2305843009213693952:=Oa;refine⟨2*P,A % 2,A,rfl,j,Oa,rfl,Oa,Oa,l,?_,?_⟩
 .rw[V8 Oa Oa,AiI hi (lo / 9223372036854775808) h Oa Oa Oa];omega
 .rw[Aaw];omega
variable{a b hi lo:Int}{k:Nat}
theorem AbM (c: 1<=k)(d: 0<=a/\a<=9223372036854775808)(f: 0<=b/\b<=9223372036854775808)(g: 0<=hi)(h:hi<18446744073709551616)(h3: 0<=lo)(i:lo<18446744073709551616)
  (hv:hi*18446744073709551616+lo=(a / 2 ^ k)*b)(j:(bits BinOp.and IntKind.u64 (a / 2 ^ (k-1)) 1==1)=jD)(hc:IntKind.u64.wrap (IntKind.u64.wrap (lo*2)+b)<IntKind.u64.wrap (lo*2)):
  ∃hi' lo':Int,hi'=IntKind.u64.wrap (bits BinOp.or IntKind.u64 (IntKind.u64.wrap<|hi*2) (lo / 9223372036854775808)+1)/\lo'=IntKind.u64.wrap (IntKind.u64.wrap (lo*2)+b)/\
   0<=hi'/\hi'<18446744073709551616/\0<=lo'/\lo'<18446744073709551616/\hi'*18446744073709551616+lo'=(a / 2 ^ (k-1))*b:=by
 obtain⟨V,t,A,l,m,n,ht,o,p,q,r,s⟩:=J4 c d f g h h3 i hv
 grind [Aaw,Go.and_one_u64]
theorem AbN (c: 1<=k)(d: 0<=a/\a<=9223372036854775808)(f: 0<=b/\b<=9223372036854775808)(g: 0<=hi)(h:hi<18446744073709551616)(h3: 0<=lo)(i:lo<18446744073709551616)
  (hv:hi*18446744073709551616+lo=(a / 2 ^ k)*b)(j:(bits BinOp.and IntKind.u64 (a / 2 ^ (k-1)) 1==1)=jD)(hc:IntKind.u64.wrap (lo*2)<=IntKind.u64.wrap (IntKind.u64.wrap (lo*2)+b)):
  ∃hi' lo':Int,hi'=bits BinOp.or IntKind.u64 (IntKind.u64.wrap<|hi*2) (lo / 9223372036854775808)/\lo'=IntKind.u64.wrap (IntKind.u64.wrap (lo*2)+b)/\
   0<=hi'/\hi'<18446744073709551616/\0<=lo'/\lo'<18446744073709551616/\hi'*18446744073709551616+lo'=(a / 2 ^ (k-1))*b:=by
 obtain⟨V,t,A,l,m,n,ht,o,p,q,r,s⟩:=J4 c d f g h h3 i hv
 grind [Aaw,Go.and_one_u64]
theorem Wa (c: 1<=k)(d: 0<=a/\a<=9223372036854775808)(f: 0<=b/\b<=9223372036854775808)(g: 0<=hi)(h:hi<18446744073709551616)(h3: 0<=lo)(i:lo<18446744073709551616)
  (hv:hi*18446744073709551616+lo=(a / 2 ^ k)*b)(j:(bits BinOp.and IntKind.u64 (a / 2 ^ (k-1)) 1==1)=jE):
  ∃hi' lo':Int,hi'=bits BinOp.or IntKind.u64 (IntKind.u64.wrap<|hi*2) (lo / 9223372036854775808)/\lo'=IntKind.u64.wrap (lo*2)/\
   0<=hi'/\hi'<18446744073709551616/\0<=lo'/\lo'<18446744073709551616/\hi'*18446744073709551616+lo'=(a / 2 ^ (k-1))*b:=by
 obtain⟨V,t,A,l,m,n,ht,o,p,q,r,s⟩:=J4 c d f g h h3 i hv
 grind [Go.and_one_u64]
end
theorem Wc (a:Int)(w:jB)(b:Cu a)(h0:a<0):
  Calls jZ 172 #[V X a] w λe w'=>e=jN (jM #[.bool jD,V jS 0,V jS<|-a])/\Ai w w':=by
 obtain⟨c,d⟩:=b;go_enter func172,ntmps172
 go_wp2
 rw[show -(a+1)+1= -a from Oa];exact G2 (v:= jM #[.bool jD,V jS 0,V jS<|-a]) (by simp[results,results172,go_sem]) rfl ⟨rfl,BRN.alloc NLN _⟩
theorem We (a:Int)(w:jB)(b:Cu a)(h0: 0<=a):
  Calls jZ 172 #[V X a] w λe w'=>e=jN (jM #[.bool jE,V jS 0,V jS a])/\Ai w w':=by
 obtain⟨c,d⟩:=b;have f: ¬ a<0:=Oa;go_enter func172,ntmps172
 go_wp2
 exact G2 (v:= jM #[.bool jE,V jS 0,V jS a]) (by simp[results,results172,go_sem]) rfl ⟨rfl,BRN.alloc NLN _⟩
theorem AW (a:Int)(w:jB)(b:Cu a):
  Calls jZ 172 #[V X a] w λe w'=>e=jN (jM #[.bool<|decide (a<0),V jS 0,V jS (a.natAbs:Int)])/\Ai w w':=by grind [Wc,We]
theorem Nz (h:x=y):Value.int IntKind.u64 x=V jS y:=by rw[h]
theorem Wf (a b:Int)(w:jB)(c: 0<=a/\a<=9223372036854775808)(j: 0<=b/\b<=9223372036854775808):
  Calls jZ 175 #[V jS a,V jS b] w λe w'=>(∃hi lo:Int,e=jN (jQ #[V jS hi,V jS lo])/\0<=hi/\hi<18446744073709551616/\0<=lo/\lo<18446744073709551616/\hi*18446744073709551616+lo=a*b)/\w'=w:=by
 go_enter func175,ntmps175
 go_wp2
 go_loop [6,7,8,9] (λh l i _=>∃ (hi lo:Int) (k:Nat),h=V jS hi/\l=V jS lo/\i=V X ((k:Int)-1)/\k<=64/\0<=hi/\hi<18446744073709551616/\0<=lo/\lo<18446744073709551616/\hi*18446744073709551616+lo=(a / 2 ^ k)*b) (λ_ _ i _=>(intOf i+1).toNat)
 case atStart=>exact⟨0,0,64,rfl,rfl,rfl,Oa,Oa,Oa,Oa,Oa,by rw[show a / 2 ^ 64=0 from Int.ediv_eq_zero_of_lt c.1 Oa];omega⟩
 case round=>
  obtain⟨hi,lo,k,rfl,rfl,rfl,o,d,f,h3,g,hv⟩:=hrel;by_cases n:k=0
  .subst n;go_wp2
   go_ret2
   exact⟨⟨hi,lo,rfl,d,f,h3,g,by rw[Aa<|Ab hv];simp⟩,rfl⟩
  .have p:(0 :Int)<=(k:Int)-1:=Oa;have m:=Ab hv;go_wp2
   .obtain⟨hi',lo',e1,e2,q⟩:=AbM Oa c j d f h3 g (Aa m) Q4 Q4;exact⟨⟨hi',lo',k-1,Nz e1.symm,Nz e2.symm,by rw[show(((k-1 :Nat):Int))=(k:Int)-1 from Oa],Oa,q⟩,by simp[intOf];omega⟩
   .obtain⟨hi',lo',e1,e2,q⟩:=AbN Oa c j d f h3 g (Aa m) Q4 Q4;exact⟨⟨hi',lo',k-1,Nz e1.symm,Nz e2.symm,by rw[show(((k-1 :Nat):Int))=(k:Int)-1 from Oa],Oa,q⟩,by simp[intOf];omega⟩
   .obtain⟨hi',lo',e1,e2,q⟩:=Wa Oa c j d f h3 g (Aa m) Q4;exact⟨⟨hi',lo',k-1,Nz e1.symm,Nz e2.symm,by rw[show(((k-1 :Nat):Int))=(k:Int)-1 from Oa],Oa,q⟩,by simp[intOf];omega⟩
def Dh (n:Bool) (hi lo:Int):Int:=if n then -(hi*18446744073709551616+lo)else hi*18446744073709551616+lo
theorem IR {v x c:Int}(h:JV v=(x,c)):jN (jQ #[V X x,V X c])=jN (jQ #[V X (JV v).1,V X (JV v).2]):=by rw[h]
theorem FJ (n:Bool)(hi lo:Int)(w:jB)(b: 0<=hi)(c:hi<18446744073709551616)(h3: 0<=lo)(d:lo<18446744073709551616):
  Calls jZ 173 #[jM #[.bool n,V jS hi,V jS lo]] w λe w'=>e=jN (jQ #[V X (JV<|Dh n hi lo).1,V X (JV<|Dh n hi lo).2])/\Ai w w':=by
 have B:=AE w<|jH #[.bool n,V jS hi,V jS lo] 263;by_cases e0:hi=0
 .subst e0;by_cases e1: 9223372036854775808<lo
  .have a:=Ab (show JV (Dh n 0 lo)=(0,1)from J6<|by cases n<;>simp[Dh]<;>omega);go_enter func173,ntmps173
   go_wp2
   go_ret2
   exact⟨IR<|Aa a,B⟩
  .by_cases e2:lo=9223372036854775808
   .subst e2;cases n
    .have a:=Ab (show JV (Dh jE 0 9223372036854775808)=(0,1)from J6<|by simp[Dh]);go_enter func173,ntmps173
     go_wp2
     go_ret2
     exact⟨IR<|Aa a,B⟩
    .have a:=Ab (show JV (Dh jD 0 9223372036854775808)=(-9223372036854775808,0)from Ew (by simp[Dh])<|by simp[Dh]);go_enter func173,ntmps173
     go_wp2
     go_ret2
     exact⟨IR<|Aa a,B⟩
   .have f:lo<=9223372036854775807:=Oa;have g:lo<=9223372036854775808:=Oa;have h:(lo==9223372036854775808)=jE:=zA.2 e2;cases n
    .have a:=Ab (show JV (Dh jE 0 lo)=(lo,0) by rw[show Dh jE 0 lo=lo by simp[Dh]];exact Ew Oa Oa);go_enter func173,ntmps173
     go_wp2
     go_ret2
     exact⟨IR<|Aa a,B⟩
    .have a:=Ab (show JV (Dh jD 0 lo)=(-lo,0) by rw[show Dh jD 0 lo= -lo by simp[Dh]];exact Ew Oa Oa);go_enter func173,ntmps173
     go_wp2
     go_ret2
     exact⟨IR<|Aa a,B⟩
 .have i:(hi !=0)=jD:=by simpa using e0
  go_enter func173,ntmps173
  go_wp2
  go_ret2
  exact⟨IR (Aa<|Ab<|show JV (Dh n hi lo)=(0,1)from J6<|by cases n<;>simp[Dh]<;>omega),B⟩
def Akd (v:jF) (s:Int):Prop:=∃ (q:Bool) (hi lo:Int),v=jM #[.bool q,V jS hi,V jS lo]/\0<=hi/\hi<18446744073709551616/\0<=lo/\lo<18446744073709551616/\Dh q hi lo=s
theorem Tv (n:Bool)(x:Int)(m:Bool)(y:Int)(w:jB)(c: 0<=x)(d:x<=9223372036854775808)(h3: 0<=y)(f:y<=9223372036854775808):
  Calls jZ 174 #[jM #[.bool n,V jS 0,V jS x],jM #[.bool m,V jS 0,V jS y]] w λe w'=>
   ∃v,e=jN v/\Akd v (Dh n 0 x+Dh m 0 y)/\Ai w w':=by
 cases a:(n==m)
 .have hm:m= !n:=by cases n<;>cases m<;>simp at a|-
  subst hm;by_cases g:y<=x
  .go_enter func174,ntmps174
   go_wp2
   refine G2 (v:= jM #[.bool n,V jS 0,V jS<|x-y]) D5 rfl ⟨_,rfl,⟨n,0,x-y,rfl,Oa,Oa,Oa,Oa,by cases n<;>simp[Dh]<;>omega⟩,?_⟩;exact((BRN.alloc NLN _).alloc Ox _).alloc O0 _
  .have h:x<y:=Oa;go_enter func174,ntmps174
   go_wp2
   refine G2 (v:= jM #[.bool !n,V jS 0,V jS<|y-x]) D5 rfl ⟨_,rfl,⟨!n,0,y-x,rfl,Oa,Oa,Oa,Oa,by cases n<;>simp[Dh]<;>omega⟩,?_⟩;exact((BRN.alloc NLN _).alloc Ox _).alloc O0 _
 .have hm:m=n:=by cases n<;>cases m<;>simp at a|-
  subst hm;by_cases hc:x=9223372036854775808/\y=9223372036854775808
  .have i:IntKind.u64.wrap (x+y)=0:=by rw[Aaw];omega
   have j: 0<x:=Oa;have b:=Ab hc;clear hc;go_enter func174,ntmps174
   go_wp2
   refine G2 (v:= jM #[.bool m,V jS 1,V jS 0]) D5 rfl ⟨_,rfl,⟨m,1,0,rfl,Oa,Oa,Oa,Oa,by have hc:=Aa b;cases m<;>simp[Dh]<;>omega⟩,?_⟩;exact((BRN.alloc NLN _).alloc Ox _).alloc O0 _
  .have hs:x+y<=18446744073709551615:=Oa;have k: ¬ (x+y<x):=Oa;clear hc;go_enter func174,ntmps174
   go_wp2
   refine G2 (v:= jM #[.bool m,V jS 0,V jS<|x+y]) D5 rfl ⟨_,rfl,⟨m,0,x+y,rfl,Oa,Oa,Oa,Oa,by cases m<;>simp[Dh]<;>omega⟩,?_⟩;exact((BRN.alloc NLN _).alloc Ox _).alloc O0 _
section
theorem UM (a:Int):Dh (decide (a<0)) 0 (a.natAbs:Int)=a:=by grind [Dh]
theorem AgF (n:Bool)(x:Int):Dh (!n) 0 x= -Dh n 0 x:=by grind [Dh]
theorem IU {q:Int×Int}(h:p=q):jN (jQ #[V X p.1,V X p.2])=jN (jQ #[V X q.1,V X q.2]):=by rw[h]
theorem LI {c:Int}{q:Int×Int}(h:q=(x,c)):jN (jQ #[V X x,V X c])=jN (jQ #[V X q.1,V X q.2]):=by rw[h]
theorem AdS (a b hi lo:Int)(h:hi*18446744073709551616+lo=(a.natAbs:Int)*(b.natAbs:Int)):Dh (!(decide (a<0)==decide (b<0))) hi lo=a*b:=by grind [Dh]
theorem AdT (a b:Int):Dh (!(decide (a<0)==decide (b<0))) 0 ((a.natAbs:Int) / (b.natAbs:Int))=a.tdiv b:=by
 by_cases c:a<0<;>by_cases d:b<0
 .have e1:(a.natAbs:Int)= -a:=Oa;have e2:(b.natAbs:Int)= -b:=Oa;have:a.tdiv b=(-a).tdiv (-b):=by rw[Int.neg_tdiv,Int.tdiv_neg,Int.neg_neg]
  grind [Dh]
 .have e1:(a.natAbs:Int)= -a:=Oa;have e2:(b.natAbs:Int)=b:=Oa;have:a.tdiv b= -((-a).tdiv b):=by rw[Int.neg_tdiv,Int.neg_neg]
  grind [Dh]
 .have e1:(a.natAbs:Int)=a:=Oa;have e2:(b.natAbs:Int)= -b:=Oa;have:a.tdiv b= -(a.tdiv<|-b):=by rw[Int.tdiv_neg,Int.neg_neg]
  grind [Dh]
 grind [Dh]
theorem AdU (a b:Int):Dh (decide (a<0)) 0 ((a.natAbs:Int) % (b.natAbs:Int))=a.tmod b:=by
 have c:∀x:Int,x.tmod b=x.tmod (b.natAbs:Int):=λx=>by
  by_cases d:b<0
  .have e2:(b.natAbs:Int)= -b:=Oa;rw[e2,Int.tmod_neg]
  grind
 rw[c];by_cases f:a<0
 .have e1:(a.natAbs:Int)= -a:=Oa;have:a.tmod (b.natAbs:Int)= -((-a).tmod (b.natAbs:Int)):=by rw[Int.neg_tmod,Int.neg_neg]
  grind [Dh]
 grind [Dh]
variable{a b:Int}{w:jB}
theorem AgG (d:Cu a)(g:Cu b):
  Calls jZ 155 #[V X 1,V X a,V X b] w λe w'=>e=jN (jQ #[V X (AV 1 a b).1,V X (AV 1 a b).2])/\Ai w w':=by
 have hx:(a.natAbs:Int)<=9223372036854775808:=by have:=d.lo;have:=d.hi;omega
 have hy:(b.natAbs:Int)<=9223372036854775808:=by have:=g.lo;have:=g.hi;omega
 go_enter func155,ntmps155
 go_wp2_with fail
 refine(AW a w d).mono ?_;rintro e m ⟨rfl,j⟩;have h:=j.alloc j.size<|jH #[.bool<|decide (a<0),V jS 0,V jS (a.natAbs:Int)] 263;have n:=Ag.new m #[.bool<|decide (a<0),V jS 0,V jS (a.natAbs:Int)] 263;go_wp2_with fail
 refine(AW b _ g).mono ?_;rintro e w2 ⟨rfl,c⟩;have k:=(h.trans<|c.mono h.size).alloc (zB h.size c.size)<|jH #[.bool<|decide (b<0),V jS 0,V jS (b.natAbs:Int)] 263;have i:=(n.aA c NLN).alloc<|jH #[.bool<|decide (b<0),V jS 0,V jS (b.natAbs:Int)] 263;have o:=c.size;simp only[G0]at o;have c0:=i.cell 0;have c1:=i.cell 1;have c2:=i.cell 2;simp at c0 c1 c2;go_wp2_with fail
 refine(Tv _ _ _ _ _ Oa hx Oa hy).mono ?_;rintro e u ⟨v,rfl,hv,hb3⟩;obtain⟨q,hi,lo,rfl,q1,q2,p,r,hq⟩:=hv;have l:=k.trans<|hb3.mono k.size;rw[UM,UM]at hq;go_wp2_with fail
 refine(FJ q hi lo _ q1 q2 p r).mono ?_;rintro e x ⟨rfl,s⟩;rw[Aa<|Ab hq];generalize t:JV (a+b)=f;go_wp2
 go_ret2
 exact⟨IU<|by rw[<-Aa<|Ab t];rfl,l.trans<|s.mono l.size⟩
theorem AgH (d:Cu a)(g:Cu b):
  Calls jZ 155 #[V X 2,V X a,V X b] w λe w'=>e=jN (jQ #[V X (AV 2 a b).1,V X (AV 2 a b).2])/\Ai w w':=by
 have hx:(a.natAbs:Int)<=9223372036854775808:=by have:=d.lo;have:=d.hi;omega
 have hy:(b.natAbs:Int)<=9223372036854775808:=by have:=g.lo;have:=g.hi;omega
 go_enter func155,ntmps155
 go_wp2_with fail
 refine(AW a w d).mono ?_;rintro e m ⟨rfl,j⟩;have h:=j.alloc j.size<|jH #[.bool<|decide (a<0),V jS 0,V jS (a.natAbs:Int)] 263;have n:=Ag.new m #[.bool<|decide (a<0),V jS 0,V jS (a.natAbs:Int)] 263;go_wp2_with fail
 refine(AW b _ g).mono ?_;rintro e w2 ⟨rfl,c⟩;have k:=(h.trans<|c.mono h.size).alloc (zB h.size c.size)<|jH #[.bool<|!decide (b<0),V jS 0,V jS (b.natAbs:Int)] 263;have i:=(n.aA c NLN).alloc<|jH #[.bool<|!decide (b<0),V jS 0,V jS (b.natAbs:Int)] 263;have o:=c.size;simp only[G0]at o;have c0:=i.cell 0;have c1:=i.cell 1;have c2:=i.cell 2;simp at c0 c1 c2;go_wp2_with fail
 refine(Tv _ _ _ _ _ Oa hx Oa hy).mono ?_;rintro e u ⟨v,rfl,hv,hb3⟩;obtain⟨q,hi,lo,rfl,q1,q2,p,r,hq⟩:=hv;have l:=k.trans<|hb3.mono k.size;rw[AgF,UM,UM]at hq;go_wp2_with fail
 refine(FJ q hi lo _ q1 q2 p r).mono ?_;rintro e x ⟨rfl,s⟩;rw[Aa<|Ab hq];generalize t:JV (a+ -b)=f;go_wp2
 go_ret2
 exact⟨IU<|by rw[<-Aa<|Ab t,<-Int.sub_eq_add_neg];rfl,l.trans<|s.mono l.size⟩
theorem AgI (d:Cu a)(g:Cu b):
  Calls jZ 155 #[V X 3,V X a,V X b] w λe w'=>e=jN (jQ #[V X (AV 3 a b).1,V X (AV 3 a b).2])/\Ai w w':=by
 have hx:(a.natAbs:Int)<=9223372036854775808:=by have:=d.lo;have:=d.hi;omega
 have hy:(b.natAbs:Int)<=9223372036854775808:=by have:=g.lo;have:=g.hi;omega
 go_enter func155,ntmps155
 go_wp2_with fail
 refine(AW a w d).mono ?_;rintro e l ⟨rfl,j⟩;have h:=j.alloc j.size<|jH #[.bool<|decide (a<0),V jS 0,V jS (a.natAbs:Int)] 263;have m:=Ag.new l #[.bool<|decide (a<0),V jS 0,V jS (a.natAbs:Int)] 263;go_wp2_with fail
 refine(AW b _ g).mono ?_;rintro e w2 ⟨rfl,c⟩;have k:=(h.trans<|c.mono h.size).alloc (zB h.size c.size)<|jH #[.bool<|decide (b<0),V jS 0,V jS (b.natAbs:Int)] 263;have i:=(m.aA c NLN).alloc<|jH #[.bool<|decide (b<0),V jS 0,V jS (b.natAbs:Int)] 263;have n:=c.size;simp only[G0]at n;have c0:=i.cell 0;have c1:=i.cell 1;have c2:=i.cell 2;simp at c0 c1 c2;go_wp2_with fail
 refine(Wf _ _ _ ⟨Oa,hx⟩ ⟨Oa,hy⟩).mono ?_;rintro e s ⟨⟨hi,lo,rfl,q1,q2,o,p,hq⟩,rfl⟩;go_wp2_with fail
 refine(FJ _ hi lo _ q1 q2 o p).mono ?_;rintro e t ⟨rfl,q⟩;rw[Aa<|Ab<|AdS a b hi lo hq];generalize r:JV (a*b)=f;go_wp2
 go_ret2
 exact⟨IU<|by rw[<-Aa<|Ab r];rfl,k.trans<|q.mono k.size⟩
end
section
variable{aS aO aZ aW:jG}{G:Nat->Prop}
theorem Pp.bE {w w':jB}(h:Pp G aS aO aZ aW o w r w'):∃x e,r=jN (jQ #[x,e])/\Pp G aS aO aZ aW o w (jN<|jQ #[x,e]) w':=by
 obtain⟨a,b⟩:=h;cases o with
 |ok v=>obtain⟨x,rfl,h3⟩:=a;exact⟨_,_,rfl,⟨_,rfl,h3⟩,b⟩
 |err c=>obtain⟨x,rfl,h3⟩:=a;exact⟨_,_,rfl,⟨_,rfl,h3⟩,b⟩
theorem Pp.undrew {w w':jB}(h:Pp G aS aO aZ aW o (jR w) r w'):Pp G aS aO aZ aW o w r w':=⟨h.1,BRN.drew.trans h.2⟩
theorem Ad2 (op:Int)(x y:jF)(v u:Vv)(t:Int)(w:jB)(hs:FV w aS aO aZ aW)(hx:JO G w x v)(hy:JO G w y u)(ht:nz (By op [v.ty,u.ty])=Q t)(hc:op≠25/\op≠26)(M:∀b,R (Z w)<=b->G b):
  Calls jZ 137 #[V X op,x,y] w (Pp G aS aO aZ aW (Cc op v u) w):=by
 have N:=AdZ;have O:=YX;have P:=AgN;have I:((11<=op/\op<=15\/op=21\/op=22)/\v.ty=2/\u.ty=2)\/((op=16\/op=17\/op=18\/op=24)/\v.ty=4/\u.ty=4)\/((op=19\/op=20)/\v.ty=u.ty)\/(op=23/\v.ty=3/\u.ty=4):=by
  obtain h|h|h|h|h|h|h:=Ch ht<;>omega
 have f:=(SH w).drew;obtain⟨g,hv,i⟩|⟨g,hv,i⟩|⟨g,hv⟩|⟨rfl,hv,i⟩:=I
 .obtain⟨a,rfl⟩:=Vv.bI hv;obtain⟨b,rfl⟩:=Vv.bI i;obtain⟨rfl,J⟩:x=jU 192 (V X a)/\Cu a:=hx;obtain⟨rfl,K⟩:y=jU 192 (V X b)/\Cu b:=hy;have c:=Ab<|Ad0 (G:=G) op a b (jR w) (hs.below f NLN) J K Oa;have d:∀k:Int,(k=16\/k=17\/k=18\/k=19\/k=20\/k=23\/k=24)->(op==k)=jE:=λk I=>zA.2 Oa;have S:=d 19 Oa;have W:=d 20 Oa;have aa:=d 23 Oa;have ab:=d 16 Oa;have ac:=d 17 Oa;have ad:=d 18 Oa;have ae:=d 24 Oa;go_enter func137,ntmps137
  go_wp2_with fail
  go_region_held3 (λ_=>True) (trivial) ((go_at_call 153;refine(Aa c).mono ?_;intro r C j;obtain⟨D,e1,rfl,l⟩:=j.bE;have E:=Ab l;clear l j))
  all_goals
   go_wp2
   exact G2 (v:= jQ #[D,e1]) S9 rfl (Aa E).undrew
 .obtain⟨a,rfl⟩:=Vv.bB hv;obtain⟨b,rfl⟩:=Vv.bB i;obtain⟨s,z,A,rfl,B⟩:=hx;obtain⟨m,n,o,rfl,p⟩:=hy;have c:=Ab<|Ad1 op s z A a m n o b (jR w) (hs.below f NLN) (B.1.below f NLN) (p.1.below f NLN) B.2.1 M g;obtain rfl|rfl|rfl|rfl:=g
  all_goals
   go_enter func137,ntmps137
   go_wp2_with fail
   go_region_held3 (λ_=>True) (trivial) ((go_at_call 152;refine(Aa c).mono ?_;intro r C j;obtain⟨D,e1,rfl,l⟩:=j.bE;have E:=Ab l;clear l j))
   all_goals
    go_wp2
    exact G2 (v:= jQ #[D,e1]) S9 rfl (Aa E).undrew
 .cases v
  case' bool a=>
   obtain rfl:x=jU 157 (.bool a):=hx;obtain⟨b,rfl⟩:=Vv.bU (v:=u) hv.symm;obtain rfl:y=jU 157 (.bool b):=hy;have F:=AgR a;have c:=Ab<|AbS a b w
  case' int a=>
   obtain⟨rfl,J⟩:x=jU 192 (V X a)/\Cu a:=hx;obtain⟨b,rfl⟩:=Vv.bI (v:=u) hv.symm;obtain⟨rfl,K⟩:y=jU 192 (V X b)/\Cu b:=hy;have F:=AiL a;have c:=Ab<|AbT a b w
  case' text a=>
   obtain rfl:x=jU 193 (jC a):=hx;obtain⟨b,rfl⟩:=Vv.cL (v:=u) hv.symm;obtain rfl:y=jU 193 (jC b):=hy;have F:=AgS a;have c:=Ab<|AbU a b w
  case' set a=>
   obtain⟨s,z,A,rfl,B⟩:=hx;obtain⟨b,rfl⟩:=Vv.bB (v:=u) hv.symm;obtain⟨m,n,o,rfl,p⟩:=hy;have F:=AiM s z A;have c:=Ab<|AbV s z A a m n o b w B.1 p.1
  all_goals
   unfold Wl at c;obtain rfl|rfl:=g
  all_goals
   first|rw[Wg]|rw[Wh]
   generalize FK _ _=q at c|-;go_enter func137,ntmps137
   go_wp2_with fail
   refine(Aa c).mono ?_;rintro r C ⟨rfl,H⟩;go_wp2
   exact G2 (v:= jQ #[jU 157<|.bool _,jX]) S9 rfl ⟨⟨_,rfl,rfl⟩,H⟩
 .obtain⟨a,rfl⟩:=Vv.cL hv;obtain⟨b,rfl⟩:=Vv.bB i;obtain rfl:x=jU 193 (jC a):=hx;obtain⟨m,n,o,rfl,p⟩:=hy;have c:=Ab<|SM m n o b a (jR w)<|p.1.below f NLN;have L:=Ab<|AdY a b;generalize @decide (a∈b) (Classical.propDecidable _)=q at c L;go_enter func137,ntmps137
  go_wp2_with fail
  go_region_held3 (λ_=>True) (trivial) ((go_at_call 151;refine(Aa c).mono ?_;rintro r C ⟨rfl,H⟩))
  all_goals
   go_wp2_with fail
   refine G2 (v:= jQ #[jU 157<|.bool q,jX]) S9 rfl ?_;rw[Aa L];exact⟨⟨_,rfl,rfl⟩,BRN.drew.trans H⟩
end
theorem Abj:(jZ.info? 153).map (λi=>(i.zero,i.size,i.bytes))=Q (Q jX,1,16):=Oy
def No (pv:jF) (s:Int) (iv:jF) (R:Rq) (q1 q2 sv lv:jF) (at_ ko co:Int) (ov:jF):Array jF:=#[pv,V X s,iv,jC R.cl,jC R.us,V X R.lv,V X R.nw,q1,q2,sv,lv,V X at_,V X ko,V X co,ov]
theorem Na (a B n sc:Nat)(pv:jF)(s:Int)(iv:jF)(R:Rq)(q1 q2 lv:jF)(at_ i l:Int)(m:jF)(b:L3)(o:L7)(t:TypeId)(u:jF)(w:jB)(f:Ag w a (No pv s iv R q1 q2 (Y b n sc) lv at_ i l m) 59)(y:jO w B 153 1 (Y b n sc) n o)(W:n<=1000)(aa:B<=a):
  Calls jZ 82 #[jP<|Q<|jA a 0 U,jU t u] w λr w'=>r=jN (jQ #[])/\∃g cap,Ag w' a (No pv s iv R q1 q2 (Y (Q<|jA g 0 U) (n+1) cap) lv at_ i l m) 59/\jO w' B 153 1 (Y (Q<|jA g 0 U) (n+1) cap) (n+1) (o++[jU t u])/\(jL (Value.slice b n sc)=Q g\/jh (Z w)<=g)/\AN (λk=>k=a\/jL (Value.slice b n sc)=Q k) w w':=by
 obtain⟨C,D,E,F,G⟩:=info_parts Abj;have ab:=f.lt;have ac:jI w (jA a 9 U)=Q (Y b n sc):=f.cell 9;have z:jL (Value.slice b n sc)≠Q a:=Ac f y Ob;have h:=AE w<|jH #[jU t u] 153;have H:=G4<|G8 w<|jH #[jU t u] 153;have I:=Ab<|f.aA h NLN;go_enter func82,ntmps82
 go_wp2_with (at_builtin;refine G6 _ rfl _ _ 57 rfl B 153 C jX 1 16 underlying57 D E F G rfl Ob (Y b n sc) n o rfl (G1 y _) ⟨jh<|Z w,0,U⟩ 1 1 [jU t u] rfl rfl H ?c2 Ob ?c3 ?c4 ?c5 (jh (Z w)+1) Ox ?_)
 case c2=>rfl
 case c3=>unfold maxLen;omega
 case c4=>omega
 case c5=>omega
 intro g7 d v J c hat ad;have x:=Ck (Aa I) c λe=>z e.symm;have ae:jI v (jA a 9 U)=Q (Y b n sc):=x.cell 9;have af:=λj=>x.frozen j;have K:g7≠a:=λe=>by
  obtain q|q:=hat
  .rw[e]at q;exact z q
  .omega
 have L:=Ab<|show Ag (jJ v (jA a 9 U)<|Y (Q<|jA g7 0 U) (n+1) d) a (No pv s iv R q1 q2 (Y (Q<|jA g7 0 U) (n+1) d) lv at_ i l m) 59 from x.set 9 _;have M:=Ab (Ah J (jA a 9 U) (Y (Q<|jA g7 0 U) (n+1) d) λq hq=>by simp[jL]at hq;subst hq;exact K);have N:AN (λk=>k=a\/jL (Value.slice b n sc)=Q k) w v:=⟨c.os,c.tape,c.output,zB h.size c.size,λk A O=>(c.block k (zL A h.size) λe=>O<|.inr e.symm).trans<|h.block k A⟩
 have P:=Ab<|N.setCell (p:=(jA a 9 U)) (λ_=> .inl rfl)<|Y (Q<|jA g7 0 U) (n+1) d;have S:=Ab<|show jL (Value.slice b n sc)=Q g7\/jh (Z w)<=g7 from hat.elim .inl λe=> .inr Oa;go_wp2_with fail
 go_end0
 exact⟨rfl,g7,d,Aa L,Aa M,Aa S,Aa P⟩
theorem Afp (h0: 0<n)(h:n<=1000):IntKind.i64.wrap ((n:Int)-1)=((n-1 :Nat):Int):=by
 rw[(Oa:(n:Int)-1=((n-1 :Nat):Int))];simp[IntKind.wrap,IntKind.bits,IntKind.signed];omega
theorem KV (a B n sc:Nat)(pv:jF)(s:Int)(iv:jF)(R:Rq)(q1 q2 lv:jF)(at_ h i:Int)(l:jF)(b:L3)(o:L7)(t:TypeId)(u:jF)(w:jB)(f:Ag w a (No pv s iv R q1 q2 (Y b (n+1) sc) lv at_ h i l) 59)(d:jO w B 153 1 (Y b (n+1) sc) (n+1)<|o++[jU t u])(F:n<=900):
  Calls jZ 85 #[jP<|Q<|jA a 0 U] w λr w'=>r=jN (jU t u)/\Ag w' a (No pv s iv R q1 q2 (Y b n sc) lv at_ h i l) 59/\jO w' B 153 1 (Y b n sc) n o/\AN (λk=>k=a) w w':=by
 have v:T o=n:=by have:=d.1;simp at this;omega
 have y:jL (Value.slice b (n+1) sc)≠Q a:=Ac f d Ob;obtain⟨x,c,e,hx⟩:=Ae d;simp only[Value.slice.injEq]at e;obtain⟨rfl,_,rfl⟩:=e;obtain⟨g,rfl,_,hc⟩:=hx Oa;have G:jI w (jA g n U)=Q (jU t u):=hc n _ (by rw[List.getElem?_append_right Oa,v,Nat.sub_self];rfl);have H:n+1<=sc:=by
  obtain⟨q,_⟩|⟨_,_,_,q,_,_,z,_⟩:=d.2
  .cases q
  .cases q;exact z
 have S:=Iz d (m:=n) Oa;rw[Nat.mul_one,List.take_left' v]at S;have I:jI w (jA a 9 U)=Q (Y (Q<|jA g 0 U) (n+1) sc):=f.cell 9;have J:=λj=>f.frozen j;have A:g≠a:=λe=>y D7;have C:=Ab<|show Ag (jJ w (jA a 9 U)<|Y (Q<|jA g 0 U) n sc) a (No pv s iv R q1 q2 (Y (Q<|jA g 0 U) n sc) lv at_ h i l) 59 from f.set 9 _;have D:=Ab (Ah S (jA a 9 U) (Y (Q<|jA g 0 U) n sc) λq hq=>by simp[jL]at hq;subst hq;exact A);have E:=Ab<|show AN (λk=>k=a) w (jJ w (jA a 9 U)<|Y (Q<|jA g 0 U) n sc)from AN.setCell (S:=λk=>k=a) (AN.refl _ w) (p:=(jA a 9 U)) (λ_=>rfl) _;have K:IntKind.i64.wrap (((n+1 :Nat):Int)-1)=(n:Int):=by have:=Afp (n:=n+1) Oa Oa;simpa using this
 have L:(n:Int)<=(sc:Int):=Oa;go_enter func85,ntmps85
 go_wp2
 go_ret
 exact⟨rfl,Aa C,Aa D,Aa E⟩
section
variable{aS aO aZ aW:jG}
theorem Aq.bP {S:Nat->Prop}{w w':jB}{a:L3}{ss:L4}(h:Aq w a n c ss)(k:AN S w w')(i:∀d,a=Q d->0<n->¬ S (jT d)):Aq w' a n c ss:=
 ⟨h.len,h.cap,h.aJ,h.bC,λj l=>by
  obtain⟨b,m,f,g,hc⟩:=h.cells j l;exact⟨b,m,f,zL g k.size,(G9<|k.block b g<|i _ f Oa).trans hc⟩⟩
theorem JO.bP {G S:Nat->Prop}{w w':jB}{x:jF}{v:Vv}(h:JO G w x v)(k:AN S w w')(f:∀b,G b->¬ S b):JO G w' x v:=by
 cases v with
 |bool b=>exact h
 |int n=>exact h
 |text s=>exact h
 |set ss=>
   obtain⟨a,n,c,g,i,h3,d⟩:=h;exact⟨a,n,c,g,i.bP k λj e h0=>f _<|d j e h0,h3,d⟩
theorem JO.bL {G G':Nat->Prop}{w:jB}{x:jF}(h:JO G w x v)(d:∀b,b<R (Z w)->G b->G' b):JO G' w x v:=by
 cases v with
 |bool b=>exact h
 |int n=>exact h
 |text s=>exact h
 |set ss=>
   obtain⟨a,n,c,f,g,h3,i⟩:=h;refine⟨a,n,c,f,g,h3,λj e h0=>d _ ?_<|i j e h0⟩
   grind [Aq.cells]
def Np (mb lb:Nat) (sa:L3) (b:Nat):Prop:=b≠mb/\b≠lb/\∀ad,sa=Q ad->b≠jT ad
structure Dl (B mb lb:Nat) (pv iv q1 q2:jF) (s:Int) (R:Rq) (S:Nat) (at_:Int) (st:M4) (sl:List M7) (sa:L3) (sc:Nat) (xs ys:L7) (w:jB):Prop where
 row:Ag w mb (No pv s iv R q1 q2 (Y sa (T st) sc) (Y (Q<|jA lb 0 U) S S) at_ 0 0<|Y U 0 0) 59
 cI:jO w B 153 1 (Y sa (T st) sc) (T st) xs
 cQ:Ag w lb ys.toArray 153
 len:T ys=S/\T sl=S
 vst:∀j,(h:j<T st)->∃x,xs[j]? =Q x/\JO (Np mb lb sa) w x st[j]
 vsl:∀j,j<S->∃y,ys[j]? =Q y/\∀v,sl.getD j U=Q v->JO (Np mb lb sa) w y v
 low:B<=mb/\B<=lb
 bA:jL (Value.slice sa (T st) sc)≠Q lb
def Ga (mb lb:Nat) (sv:jF) (k:Nat):Prop:=k=mb\/k=lb\/jL sv=Q k
theorem Dl.below {B c d:Nat}{pv iv q1 q2:jF}{s:Int}{R:Rq}{S:Nat}{at_:Int}{st:M4}{sl:List M7}{f:L3}{sc:Nat}{g ys:L7}{w w':jB}(h:Dl B c d pv iv q1 q2 s R S at_ st sl f sc g ys w)(a:Ai w w'):Dl B c d pv iv q1 q2 s R S at_ st sl f sc g ys w':=
 ⟨h.row.aA a NLN,Ad h.cI λq hq=>a.block q (h.cI.lt q hq).2,h.cQ.aA a NLN,h.len,λj b=>by
  obtain⟨x,e,hx⟩:=h.vst j b;exact⟨x,e,hx.below a NLN⟩,λj b=>by
  obtain⟨y,e,hy⟩:=h.vsl j b;exact⟨y,e,λv hv=>(hy v hv).below a NLN⟩,h.low,h.bA⟩
theorem XM {g n c:Nat} :jL (Value.slice (Q<|jA g 0 U) n c)=Q g:=rfl
theorem Dl.push {B a c:Nat}{iv q1 q2:jF}{s:Int}{R:Rq}{S:Nat}{at_:Int}{st:M4}{sl:List M7}{sc:Nat}{ys:L7}{w w':jB}(h:Dl B a c pv iv q1 q2 s R S at_ st sl d sc l ys w){x:jF}(hx:JO (Np a c d) w x v){g cap:Nat}
  (R':Ag w' a (No pv s iv R q1 q2 (Y (Q<|jA g 0 U) (T st+1) cap) (Y (Q<|jA c 0 U) S S) at' 0 0<|Y U 0 0) 59)(z:jO w' B 153 1 (Y (Q<|jA g 0 U) (T st+1) cap) (T st+1)<|l++[x])(hg:jL (Value.slice d (T st) sc)=Q g\/jh (Z w)<=g)(k:AN (λk=>k=a\/jL (Value.slice d (T st) sc)=Q k) w w'):
  Dl B a c pv iv q1 q2 s R S at' (st++[v]) sl (Q<|jA g 0 U) cap (l++[x]) ys w':=by
 have m:T (st++[v])=T st+1:=Ox;have A:T l=T st:=H2 h.cI.1;have p:∀q,jL (Value.slice d (T st) sc)=Q q->∃i,d=Q i/\jT i=q:=λq hq=>by
  cases d with
  |none=>cases hq
  |some i=>exact⟨i,rfl,O8⟩
 have C:∀b,Np a c d b->¬ (b=a\/jL (Value.slice d (T st) sc)=Q b):=λb f D=>by
  obtain e|e:=D
  .exact f.1 e
  .obtain⟨i,e1,e2⟩:=p b e;exact f.2.2 i e1 e2.symm
 have E:∀b,b<jh (Z w)->Np a c d b->Np a c (Q<|jA g 0 U) b:=λb f n=>⟨n.1,n.2.1,λi e=>by
  cases e;show b≠g;obtain q|q:=hg
  .obtain⟨i,e1,e2⟩:=p g q;have:=n.2.2 i e1;rw[e2]at this;exact this
  .omega⟩
 have F:c≠a:=λe=>by
  have:=h.row.out;rw[<-e,h.cQ.out]at this;simp at this
 have G:g≠c:=by
  obtain q|q:=hg
  .intro e;exact h.bA (by rw[q,e])
  .have:=h.cQ.lt;omega
 have o:∀{y:jF} {u:Vv},JO (Np a c d) w y u->JO (Np a c<|Q<|jA g 0 U) w' y u:=λhv=>((hv.bL (G':=λb=>Np a c d b/\b<jh (Z w)) λb f hg=>⟨hg,f⟩).bP k λb f=>C b f.1).bL λb _ f=>E b f.2 f.1;refine⟨by rw[m];exact R',by rw[m];exact z,h.cQ.bP k λe=>e.elim F h.bA,h.len,λj r=>?_,λj r=>?_,h.low,by rw[m,XM];exact λe=>G<|K7 e⟩
 .by_cases t:j<T st
  .obtain⟨y,e,hy⟩:=h.vst j t;exact⟨y,by rw[yA Oa];exact e,by rw[zx t];exact o hy⟩
  .have H:j=T st:=Oa;subst H;exact⟨x,by rw[List.getElem?_append_right Oa,A,Nat.sub_self];rfl,by rw[z5 NLN];simp only[Nat.sub_self,z0];exact o hx⟩
 .obtain⟨y,e,hy⟩:=h.vsl j r;exact⟨y,e,λu hu=>o<|hy u hu⟩
theorem Dl.bZ {B b c:Nat}{iv q1 q2:jF}{s:Int}{R:Rq}{S:Nat}{at_:Int}{st:M4}{sl:List M7}{sc:Nat}{a ys:L7}{w:jB}(h:Dl B b c pv iv q1 q2 s R S at_ (st++[v]) sl d sc a ys w):∃zs x,a=zs++[x]/\T zs=T st/\JO (Np b c d) w x v:=by
 have f:T a=T st+1:=by have:=h.cI.1;simp at this;omega
 obtain⟨x,e,hx⟩:=h.vst (T st) Ox
 grind [zP,zg,zT,z2,z5]
theorem Dl.pop {B a c:Nat}{iv q1 q2:jF}{s:Int}{R:Rq}{S:Nat}{at_:Int}{st:M4}{sl:List M7}{b:L3}{sc:Nat}{zs ys:L7}{x:jF}{w w':jB}(h:Dl B a c pv iv q1 q2 s R S at_ (st++[v]) sl b sc (zs++[x]) ys w)(i:T zs=T st)
  (R':Ag w' a (No pv s iv R q1 q2 (Y b (T st) sc) (Y (Q<|jA c 0 U) S S) at' 0 0<|Y U 0 0) 59)(d:jO w' B 153 1 (Y b (T st) sc) (T st) zs)(k:AN (λk=>k=a) w w'):
  Dl B a c pv iv q1 q2 s R S at' st sl b sc zs ys w':=by
 have f:c≠a:=λe=>by
  have:=h.row.out;rw[<-e,h.cQ.out]at this
  grind
 have ap:=h.bA;refine⟨R',d,h.cQ.bP k f,h.len,λj g=>?_,λj g=>?_,h.low,?_⟩
 .obtain⟨y,e,hy⟩:=h.vst j O0
  grind [Dl.low,Dl.row,Dl.cQ,JO,Dl.vsl,Dl.vst,No,Dl.len,Np,JO.bP,Ag.out,Dl.bA,Ag.bP]
 .grind [Dl.low,Dl.row,Dl.cQ,JO,Dl.vsl,Dl.vst,No,Dl.len,Np,JO.bP,Ag.out,Dl.bA,Ag.bP]
 .cases b with
  |none=>intro e;cases e
  |some l=>simpa[jL]using ap
end
section
variable{G:Nat->Prop}
theorem Tc (x:Vl)(an:L3)(nn cn:Nat)(w:jB)(hx:CW x=jD)(i:Aq w an nn cn x.aB)(j:T x.aB<=1048576)(hi:Cu x.num)(hg:∀f,an=Q f->0<nn->G (jT f)):
  Calls jZ 83 #[jM #[V X x.aC,V X x.num,jC x.text,Y an nn cn]] w λr w'=>(∃y,r=jN y/\JO G w' y (EO x))/\Ai w w':=by
 have a:=AE w<|jH #[V X x.aC,V X x.num,jC x.text,Y an nn cn] 77;have g:=Ab<|i.below a NLN;unfold CW at hx;by_cases c:x.aC=1
 .have b:=Ab (show EO x= .bool (decide (x.num=1)) by rw[EO,H8 c]);rw[H8 c]at hx;simp only[zF,zG]at hx;rw[c]at a|-;obtain e|e:=hx.1.1
  .rw[e]at a|-;go_enter func83,ntmps83
   go_wp2
   go_ret
   exact⟨⟨_,rfl,by rw[Aa<|Ab<|show EO x= .bool jE by rw[Aa b,e];rfl];rfl⟩,a⟩
  .rw[e]at a|-;go_enter func83,ntmps83
   go_wp2
   go_ret
   exact⟨⟨_,rfl,by rw[Aa<|Ab<|show EO x= .bool jD by rw[Aa b,e];rfl];rfl⟩,a⟩
 by_cases d:x.aC=2
 .have b:=Ab (show EO x= .int x.num by rw[EO,H7 c,H8 d]);rw[d]at a|-;go_enter func83,ntmps83
  go_wp2
  go_ret
  exact⟨⟨_,rfl,by rw[Aa b];exact⟨rfl,hi⟩⟩,a⟩
 by_cases h3:x.aC=3
 .have b:=Ab (show EO x= .text x.text by rw[EO,H7 c,H7 d,H8 h3]);rw[h3]at a|-;go_enter func83,ntmps83
  go_wp2
  go_ret
  exact⟨⟨_,rfl,by rw[Aa b];rfl⟩,a⟩
 by_cases h:x.aC=4
 .have b:=Ab (show EO x= .set x.aB by rw[EO,H7 c,H7 d,H7 h3]);rw[h]at a g|-;go_enter func83,ntmps83
  go_wp2
  go_ret
  exact⟨⟨_,rfl,by rw[Aa b];exact⟨_,_,_,rfl,Aa g,j,hg⟩⟩,a⟩
 .rw[H7 c,H7 d,H7 h3,H7 h]at hx;cases hx
end
section
variable{aS aO aZ aW:jG}{B mb lb:Nat}{ap:L3}{np cp:Nat}{iv:jF}{a1:L3}{n1 c1:Nat}{a2:L3}{n2 c2:Nat}{s:Int}{Rr:Rq}{S:Nat}{at_:Nat}{st:M4}{sl:List M7}{sa:L3}{sc:Nat}{xs ys:L7}{w w0:jB}{P:M1}
def Kv (B mb lb:Nat) (pv iv q1 q2:jF) (s:Int) (Rr:Rq) (S:Nat) (sv:jF) (at_:Int) (st:M4) (sl:List M7) (w w':jB):Prop:=∃sa sc xs ys,Dl B mb lb pv iv q1 q2 s Rr S at_ st sl sa sc xs ys w'/\AN (Ga mb lb sv) w w'/\∀q,jL (Value.slice sa (T st) sc)=Q q->jL sv=Q q\/R (Z w)<=q
theorem Ir {w:jB}{b:Nat}{iv q1 q2 a lv c:jF}{s at_:Int}{Rr:Rq}{t:TypeId}(r:Ag w b (No pv s iv Rr q1 q2 a lv at_ at' f c) t):jI w (jA b 0 U)=Q pv/\jI w (jA b 1 U)=Q (V X s)/\jI w (jA b 2 U)=Q iv/\jI w (jA b 3 U)=Q (jC Rr.cl)/\jI w (jA b 4 U)=Q (jC Rr.us)/\jI w (jA b 5 U)=Q (V X Rr.lv)/\jI w (jA b 6 U)=Q (V X Rr.nw)/\jI w (jA b 7 U)=Q q1/\jI w (jA b 8 U)=Q q2/\jI w (jA b 9 U)=Q a/\jI w (jA b 10 U)=Q lv/\jI w (jA b 11 U)=Q (V X at_)/\jI w (jA b 12 U)=Q (V X at')/\jI w (jA b 13 U)=Q (V X f)/\jI w (jA b 14 U)=Q c:=⟨r.cell 0,r.cell 1,r.cell 2,r.cell 3,r.cell 4,r.cell 5,r.cell 6,r.cell 7,r.cell 8,r.cell 9,r.cell 10,r.cell 11,r.cell 12,r.cell 13,r.cell 14⟩
theorem Dl.cE {B mb lb:Nat}{iv q1 q2:jF}{s:Int}{Rr:Rq}{S:Nat}{at_:Int}{st:M4}{sl:List M7}{sc:Nat}{ys:L7}{w:jB}(h:Dl B mb lb pv iv q1 q2 s Rr S at_ st sl d sc l ys w)(a:Int):Dl B mb lb pv iv q1 q2 s Rr S a st sl d sc l ys<|jJ w (jA mb 11 U)<|V X a:=by
 have k:AN (λk=>k=mb) w<|jJ w (jA mb 11 U)<|V X a:=AN.setCell (S:=λk=>k=mb) (AN.refl _ w) (p:=(jA mb 11 U)) (λ_=>rfl) _;have b:lb≠mb:=λe=>by
  have:=h.row.out;rw[<-e,h.cQ.out]at this
  grind
 refine⟨h.row.set 11 _,Ah h.cI _ _ λq hq e=>Ac h.row h.cI Ob O9,h.cQ.bP k b,h.len,λj c=>?_,λj c=>?_,h.low,h.bA⟩
 all_goals grind [Dl.low,Dl.cI,Dl.row,Ac,Dl.cQ,Ag.set,JO,Dl.vsl,Dl.vst,AN.setCell,No,Dl.len,Np,JO.bP,Ah,Ag.out,Dl.bA,Ag.bP,AN.refl]
theorem Gq {k:Nat}(h:k<=20000):IntKind.i64.wrap ((k:Int)+1)=(k:Int)+1:=by
 simp[IntKind.wrap,IntKind.bits,IntKind.signed];omega
theorem PM (sa:L3)(n c m d:Nat):jL (Value.slice sa n c)=jL (Value.slice sa m d):=by cases sa<;>rfl
theorem KW {B lb:Nat}{iv q1 q2:jF}{s:Int}{Rr:Rq}{S:Nat}{at_:Int}{st:M4}{sl:List M7}{sc:Nat}{ys:L7}{w:jB}(h:Dl B c lb pv iv q1 q2 s Rr S at_ st sl d sc l ys w): ¬ (lb=c\/jL (Value.slice d (T st) sc)=Q lb):=λe=>by
 obtain e|e:=e
 .have:=h.row.out;rw[<-e,h.cQ.out]at this;simp at this
 .exact h.bA e
theorem Vh {B lb:Nat}{iv q1 q2:jF}{s:Int}{Rr:Rq}{S:Nat}{at_:Int}{st:M4}{sl:List M7}{sc:Nat}{ys:L7}{w:jB}(h:Dl B c lb pv iv q1 q2 s Rr S at_ st sl d sc l ys w): ¬ (R (Z w)=c\/jL (Value.slice d (T st) sc)=Q (R<|Z w)):=λe=>by
 obtain e|e:=e
 .have:=h.row.lt;omega
 .have:=(h.cI.lt _ e).2;omega
theorem AhV {B mb lb:Nat}{iv q1 q2:jF}{s:Int}{Rr:Rq}{S:Nat}{at_:Int}{st:M4}{sl:List M7}{sc:Nat}{ys:L7}{w w0:jB}(h:Dl B mb lb pv iv q1 q2 s Rr S at_ st sl d sc l ys w)(a:R (Z w0)<=B){b:Nat}(c:b<R (Z w0)): ¬ (b=mb\/jL (Value.slice d (T st) sc)=Q b):=λe=>by
 obtain e|e:=e
 .have:=h.low.1;omega
 .have:=(h.cI.lt _ e).1;omega
theorem XO {B mb lb:Nat}{iv q1 q2:jF}{s:Int}{Rr:Rq}{S:Nat}{at_:Int}{st:M4}{sl:List M7}{sc:Nat}{ys:L7}{w w0:jB}(h:Dl B mb lb pv iv q1 q2 s Rr S at_ st sl d sc l ys w)(c:R (Z w0)<=B){b:Nat}(sa:b<R (Z w0)):Np mb lb d b:=
 ⟨H2 h.low.1,H2 h.low.2,λa e=>by
  have:=(h.cI.lt (jT a) D7).1;omega⟩
theorem Afq (h:Dl B mb lb (Y ap np cp) iv (Y a1 n1 c1) (Y a2 n2 c2) s Rr S at_ st sl sa sc xs ys w)(M:Ai w0 w)(N:R (Z w0)<=B)(aG:T st<=100)(hat:at_<=20000)(k:Nat)(x:Vl)(O:P[k]? =Q x)(A:SC w0 ap np cp P)(hx:CW x=jD/\T x.aB<=1048576/\Cu x.num):
  Calls jZ 51 #[jP<|Q<|jA mb 0 U,jM #[V jd 1,V jd k]] w (λr w'=>r=jN jX/\Kv B mb lb (Y ap np cp) iv (Y a1 n1 c1) (Y a2 n2 c2) s Rr S (Y sa (T st) sc) ((at_:Int)+1) (st++[EO x]) (sl) w w'):=by
 have aI:=Gq hat;have W:=AE w<|jH #[V jd 1,V jd k] 80;have aa:=(Below.refl _<|jJ w (jA mb 11 U)<|V jd<|(at_:Int)+1).alloc NLN<|jH #[V jd 1,V jd k] 80;have C:=(h.cE<|(at_:Int)+1).below aa;have aJ:jI (jK w<|jH #[V jd 1,V jd k] 80) (jA mb 11 U)=Q (V jd at_):=(h.below W).row.cell 11;have aK:=λj=>(h.below W).row.frozen j;have aL:=h.row.lt;have aM:=h.low.1;have i:=(M.setCell (p:=(jA mb 11 U)) S1<|V jd<|(at_:Int)+1).alloc (by simpa using M.size)<|jH #[V jd 1,V jd k] 80;have ab:AN (Ga mb lb<|Y sa (T st) sc) w<|jK (jJ w (jA mb 11 U)<|V jd<|(at_:Int)+1)<|jH #[V jd 1,V jd k] 80:=AN.trans ((AN.refl _ w).setCell (p:=(jA mb 11 U)) (λ_=> .inl rfl)<|V jd<|(at_:Int)+1) (AN.aH (S:=λ_=>False) aa) λ_ _ h=>h.elim;have D:=Ag.new (jJ w (jA mb 11 U)<|V jd<|(at_:Int)+1) #[V jd 1,V jd k] 80;simp only[K1]at D;obtain⟨ac,ad⟩:=zP.1 O;obtain⟨a,b,rfl,l,an,nn,cn,E,F,H,ae,v⟩:=A.cells k ac;rw[ad]at E F H v;have aN:(k:Int)<(np:Int):=H2 A.len;have aj:=(i.cell (p:=⟨a,b+k*4,U⟩) l).trans E;have ak:=(i.cell (p:=⟨a,b+k*4+1,U⟩) l).trans F;have al:=(i.cell (p:=⟨a,b+k*4+2,U⟩) l).trans H;have ao:=(i.cell (p:=⟨a,b+k*4+3,U⟩) l).trans ae;have aq:=v.below i NLN;have f:=zL l i.size;have ar:=C.row;have au:∀I,an=Q I->0<nn->Np mb lb sa (jT I):=λI e h0=>by
  obtain⟨aO,aP,af,av,_⟩:=v.cells 0 h0;rw[e]at af;cases af;exact XO h N av
 have o:=Ab<|K6 (Vh h)<|AhV h N l;have aw:=Ab h.low;clear O A v E F H ae ac ad;have ax:=Ab C;have aQ:=Ab h;clear h C;go_enter func51,ntmps51
 go_wp2_with fail
 generalize jK (jJ w (jA mb 11 U) (Value.int IntKind.i64 ((at_:Int)+1))) (Obj.cells #[Value.int IntKind.i64 1,Value.int IntKind.i64 k] 80)=X at*;have m:=(SH X).drew;have ag:=(Aa ax).below m;have J:∀w',Ai X w'->((λw'=>jI w' (jA mb 0 U)=Q (Y (Q<|jA a b U) np cp)/\jI w' ⟨R<|Z w,1,U⟩=Q (V jd k)/\jI w' ⟨a,b+k*4,U⟩=Q (V jd x.aC)/\jI w' ⟨a,b+k*4+1,U⟩=Q (V jd x.num)/\jI w' ⟨a,b+k*4+2,U⟩=Q (jC x.text)/\jI w' ⟨a,b+k*4+3,U⟩=Q (Y an nn cn)) w'):=λw' n=>⟨(ar.aA n NLN).cell 0,(D.aA n NLN).cell 1,(n.cell (p:=⟨a,b+k*4,U⟩) f).trans aj,(n.cell (p:=⟨a,b+k*4+1,U⟩) f).trans ak,(n.cell (p:=⟨a,b+k*4+2,U⟩) f).trans al,(n.cell (p:=⟨a,b+k*4+3,U⟩) f).trans ao⟩
 have ah:=Ab J;have q1:=J _ m;clear J;go_region_held3 (λw'=>jI w' (jA mb 0 U)=Q (Y (Q<|jA a b U) np cp)/\jI w' ⟨R<|Z w,1,U⟩=Q (V jd k)/\jI w' ⟨a,b+k*4,U⟩=Q (V jd x.aC)/\jI w' ⟨a,b+k*4+1,U⟩=Q (V jd x.num)/\jI w' ⟨a,b+k*4+2,U⟩=Q (jC x.text)/\jI w' ⟨a,b+k*4+3,U⟩=Q (Y an nn cn)) (first|assumption|fail)
  (first
   |(go_at_call 83;refine(Tc (G:=Np mb lb sa) x an nn cn _ hx.1 (aq.below m NLN) hx.2.1 hx.2.2 au).mono ?_;rintro r w2 ⟨⟨y,rfl,hy⟩,K⟩;obtain⟨t,u,rfl⟩:=hy.bE;have c:=m.trans<|K.mono m.size;have q2:=Aa ah _ c;have z:=ag.below K)
   |(go_at_call 82;refine(Na mb B (T st) sc _ _ _ _ _ _ _ _ _ _ _ sa xs t u w2 z.row z.cI Oa (Aa aw).1).mono ?_;rintro r ay ⟨rfl,g,cap,L,ai,hg,d⟩;have aR:=d.size;have az:=(show(λw'=>jI w' (jA mb 0 U)=Q (Y (Q<|jA a b U) np cp)/\jI w' ⟨R<|Z w,1,U⟩=Q (V jd k)/\jI w' ⟨a,b+k*4,U⟩=Q (V jd x.aC)/\jI w' ⟨a,b+k*4+1,U⟩=Q (V jd x.num)/\jI w' ⟨a,b+k*4+2,U⟩=Q (jC x.text)/\jI w' ⟨a,b+k*4+3,U⟩=Q (Y an nn cn)) ay from⟨L.cell 0,((D.aA c NLN).bP d (Aa o).1).cell 1,(G9<|d.block a (zL f c.size) (Aa o).2).trans q2.2.2.1,(G9<|d.block a (zL f c.size) (Aa o).2).trans q2.2.2.2.1,(G9<|d.block a (zL f c.size) (Aa o).2).trans q2.2.2.2.2.1,(G9<|d.block a (zL f c.size) (Aa o).2).trans q2.2.2.2.2.2⟩)))
 have aD:=Ab<|z.push hy L ai hg d;have aE:=Ab<|(ab.trans (AN.aH (S:=λ_=>False) c) λ_ _ h=>h.elim).trans d λq _ h=>h.elim .inl λe=> .inr (.inr e);have aF:=Ab (show ∀q,jL (Value.slice (Q<|jA g 0 U) (T st+1) cap)=Q q->jL (Value.slice sa (T st) sc)=Q q\/R (Z w)<=q from λq hq=>by
  have e:g=q:=O8;subst e;exact hg.imp_right λh=>zB (zB ab.size c.size) h)
 clear z hy L ai hg d ag c q1 q2 az ah K m;go_wp2
 go_ret
 refine⟨rfl,Q<|jA g 0 U,cap,_,ys,Aa aD,Aa aE,?_⟩;rw[zC];exact Aa aF
end
section
variable{aS aO aZ aW:jG}{B mb lb:Nat}{ap:L3}{np cp:Nat}{iv:jF}{a1:L3}{n1 c1:Nat}{a2:L3}{n2 c2:Nat}{s:Int}{Rr:Rq}{S:Nat}{at_:Nat}{st:M4}{sl:List M7}{sa:L3}{sc:Nat}{xs ys:L7}{w w0:jB}{P:M1}
theorem Afr (h:Dl B mb lb (Y ap np cp) iv (Y a1 n1 c1) (Y a2 n2 c2) s Rr S at_ st sl sa sc xs ys w)(F:Ai w0 w)(W:R (Z w0)<=B)(aq:T st<=100)(hat:at_<=20000)(k:Int)(aa: 0<=k/\k<6)(v:Aq w0 a1 n1 c1 Rr.s1)(x:Aq w0 a2 n2 c2 Rr.s2)(hi:Cu Rr.lv/\Cu Rr.nw/\T Rr.s1<=1048576/\T Rr.s2<=1048576):
  Calls jZ 51 #[jP<|Q<|jA mb 0 U,jM #[V jd 2,V jd k]] w (λr w'=>r=jN jX/\Kv B mb lb (Y ap np cp) iv (Y a1 n1 c1) (Y a2 n2 c2) s Rr S (Y sa (T st) sc) ((at_:Int)+1) (st++[IV Rr k]) (sl) w w'):=by
 have ar:=Gq hat;have H:=AE w<|jH #[V jd 2,V jd k] 80;have I:=(Below.refl _<|jJ w (jA mb 11 U)<|V jd<|(at_:Int)+1).alloc NLN<|jH #[V jd 2,V jd k] 80;have z:=(h.cE<|(at_:Int)+1).below I;have au:jI (jK w<|jH #[V jd 2,V jd k] 80) (jA mb 11 U)=Q (V jd at_):=(h.below H).row.cell 11;have av:=λj=>(h.below H).row.frozen j;have aw:=h.row.lt;have ax:=h.low.1;have J:=(F.setCell (p:=(jA mb 11 U)) S1<|V jd<|(at_:Int)+1).alloc (by simpa using F.size)<|jH #[V jd 2,V jd k] 80;have K:AN (Ga mb lb<|Y sa (T st) sc) w<|jK (jJ w (jA mb 11 U)<|V jd<|(at_:Int)+1)<|jH #[V jd 2,V jd k] 80:=AN.trans ((AN.refl _ w).setCell (p:=(jA mb 11 U)) (λ_=> .inl rfl)<|V jd<|(at_:Int)+1) (AN.aH (S:=λ_=>False) I) λ_ _ h=>h.elim;have A:=Ag.new (jJ w (jA mb 11 U)<|V jd<|(at_:Int)+1) #[V jd 2,V jd k] 80;simp only[K1]at A;have i:=z.row;have ab:=v.below J NLN;have ac:=x.below J NLN;have FP:∀{a:L3} {n c:Nat} {ss:L4},Aq w0 a n c ss->∀C,a=Q C->0<n->Np mb lb sa (jT C):=λad C e h0=>by
  obtain⟨ay,az,L,ae,_⟩:=ad.cells 0 h0;rw[e]at L;cases L;exact XO h W ae
 have M:=Ab<|K6 (FP v)<|FP x;have af:=Ab<|Vh h;have ag:=Ab h.low;clear v x FP;have ah:=Ab z;have aB:=Ab h;clear h z;go_enter func51,ntmps51
 go_wp2_with fail
 generalize jK (jJ w (jA mb 11 U) (Value.int IntKind.i64 ((at_:Int)+1))) (Obj.cells #[Value.int IntKind.i64 2,Value.int IntKind.i64 k] 80)=X at*;have d:=(SH X).drew;have N:=(Aa ah).below d;have D:∀w',Ai X w'->((λw'=>jI w' (jA mb 3 U)=Q (jC Rr.cl)/\jI w' (jA mb 4 U)=Q (jC Rr.us)/\jI w' (jA mb 5 U)=Q (V jd Rr.lv)/\jI w' (jA mb 6 U)=Q (V jd Rr.nw)/\jI w' (jA mb 7 U)=Q (Y a1 n1 c1)/\jI w' (jA mb 8 U)=Q (Y a2 n2 c2)/\jI w' ⟨R<|Z w,1,U⟩=Q (V jd k)) w'):=λw' f=>⟨(i.aA f NLN).cell 3,(i.aA f NLN).cell 4,(i.aA f NLN).cell 5,(i.aA f NLN).cell 6,(i.aA f NLN).cell 7,(i.aA f NLN).cell 8,(A.aA f NLN).cell 1⟩
 have O:=Ab D;have q1:=D _ d;clear D;go_region_held3 (λw'=>jI w' (jA mb 3 U)=Q (jC Rr.cl)/\jI w' (jA mb 4 U)=Q (jC Rr.us)/\jI w' (jA mb 5 U)=Q (V jd Rr.lv)/\jI w' (jA mb 6 U)=Q (V jd Rr.nw)/\jI w' (jA mb 7 U)=Q (Y a1 n1 c1)/\jI w' (jA mb 8 U)=Q (Y a2 n2 c2)/\jI w' ⟨R<|Z w,1,U⟩=Q (V jd k)) (first|assumption|fail)
  (first
   |(go_at_call 84;refine(SL (G:=Np mb lb sa) Rr.cl Rr.us Rr.lv Rr.nw a1 n1 c1 Rr.s1 a2 n2 c2 Rr.s2 _ hi.1 hi.2.1 (ab.below d NLN) (ac.below d NLN) hi.2.2.1 hi.2.2.2 (Aa M).1 (Aa M).2 k aa).mono ?_;rintro r w2 ⟨⟨y,rfl,hy⟩,E⟩;obtain⟨t,u,rfl⟩:=hy.bE;have l:=d.trans<|E.mono d.size;have q2:=Aa O _ l;have o:=N.below E)
   |(go_at_call 82;refine(Na mb B (T st) sc _ _ _ _ _ _ _ _ _ _ _ sa xs t u w2 o.row o.cI Oa (Aa ag).1).mono ?_;rintro r ai ⟨rfl,g,cap,b,P,hg,m⟩;have aC:=m.size;have aj:=(show(λw'=>jI w' (jA mb 3 U)=Q (jC Rr.cl)/\jI w' (jA mb 4 U)=Q (jC Rr.us)/\jI w' (jA mb 5 U)=Q (V jd Rr.lv)/\jI w' (jA mb 6 U)=Q (V jd Rr.nw)/\jI w' (jA mb 7 U)=Q (Y a1 n1 c1)/\jI w' (jA mb 8 U)=Q (Y a2 n2 c2)/\jI w' ⟨R<|Z w,1,U⟩=Q (V jd k)) ai from⟨b.cell 3,b.cell 4,b.cell 5,b.cell 6,b.cell 7,b.cell 8,((A.aA l NLN).bP m<|Aa af).cell 1⟩)))
 have ak:=Ab<|o.push hy b P hg m;have al:=Ab<|(K.trans (AN.aH (S:=λ_=>False) l) λ_ _ h=>h.elim).trans m λq _ h=>h.elim .inl λe=> .inr (.inr e);have ao:=Ab (show ∀q,jL (Value.slice (Q<|jA g 0 U) (T st+1) cap)=Q q->jL (Value.slice sa (T st) sc)=Q q\/R (Z w)<=q from λq hq=>by
  have e:g=q:=O8;subst e;exact hg.imp_right λh=>zB (zB K.size l.size) h)
 clear o hy b P hg m N l q1 q2 aj O E d;go_wp2
 go_ret
 refine⟨rfl,Q<|jA g 0 U,cap,_,ys,Aa ak,Aa al,?_⟩;rw[zC];exact Aa ao
theorem Afs (h:Dl B mb lb (Y ap np cp) iv (Y a1 n1 c1) (Y a2 n2 c2) s Rr S at_ st sl sa sc xs ys w)(m:Ai w0 w)(W:R (Z w0)<=B)(aa:T st<=100)(hat:at_<=20000)(k:Nat)(E:k<S)(v:Vv)(hv:sl.getD k U=Q v):
  Calls jZ 51 #[jP<|Q<|jA mb 0 U,jM #[V jd 3,V jd k]] w (λr w'=>r=jN jX/\Kv B mb lb (Y ap np cp) iv (Y a1 n1 c1) (Y a2 n2 c2) s Rr S (Y sa (T st) sc) ((at_:Int)+1) (st++[v]) (sl) w w'):=by
 have ab:=Gq hat;have n:=AE w<|jH #[V jd 3,V jd k] 80;have o:=(Below.refl _<|jJ w (jA mb 11 U)<|V jd<|(at_:Int)+1).alloc NLN<|jH #[V jd 3,V jd k] 80;have a:=(h.cE<|(at_:Int)+1).below o;have ac:jI (jK w<|jH #[V jd 3,V jd k] 80) (jA mb 11 U)=Q (V jd at_):=(h.below n).row.cell 11;have ad:=λj=>(h.below n).row.frozen j;have ae:=h.row.lt;have af:=h.low.1;have ag:=(m.setCell (p:=(jA mb 11 U)) S1<|V jd<|(at_:Int)+1).alloc (by simpa using m.size)<|jH #[V jd 3,V jd k] 80;have x:AN (Ga mb lb<|Y sa (T st) sc) w<|jK (jJ w (jA mb 11 U)<|V jd<|(at_:Int)+1)<|jH #[V jd 3,V jd k] 80:=AN.trans ((AN.refl _ w).setCell (p:=(jA mb 11 U)) (λ_=> .inl rfl)<|V jd<|(at_:Int)+1) (AN.aH (S:=λ_=>False) o) λ_ _ h=>h.elim;have f:=Ag.new (jJ w (jA mb 11 U)<|V jd<|(at_:Int)+1) #[V jd 3,V jd k] 80;simp only[K1]at f;have F:=a.row;obtain⟨y,z,A⟩:=a.vsl k E;have hy:=A v hv;obtain⟨t,u,rfl⟩:=hy.bE;have C:=(a.cQ.cell k).trans (show ys.toArray[k]? =Q (jU t u) by simpa using z);have ah:(k:Int)<(S:Int):=Oa;have G:=a.cQ.lt;have H:=Ab<|Vh h;have I:=Ab<|KW h;have J:=Ab h.low;clear z A hv;have K:=Ab a;have ai:=Ab h;clear h a;go_enter func51,ntmps51
 go_wp2_with fail
 generalize jK (jJ w (jA mb 11 U) (Value.int IntKind.i64 ((at_:Int)+1))) (Obj.cells #[Value.int IntKind.i64 3,Value.int IntKind.i64 k] 80)=X at*;have b:=(SH X).drew;have d:=(Aa K).below b;have i:=b;have q1:(λw'=>jI w' (jA mb 10 U)=Q (Y (Q<|jA lb 0 U) S S)/\jI w' ⟨R<|Z w,1,U⟩=Q (V jd k)/\jI w' (jA lb k U)=Q (jU t u)) X.drew:=⟨F.cell 10,f.cell 1,C⟩
 replace hy:=hy.below b NLN;go_region_held3 (λw'=>jI w' (jA mb 10 U)=Q (Y (Q<|jA lb 0 U) S S)/\jI w' ⟨R<|Z w,1,U⟩=Q (V jd k)/\jI w' (jA lb k U)=Q (jU t u)) (first|assumption|fail)
  (first
   |(go_at_call 82;refine(Na mb B (T st) sc _ _ _ _ _ _ _ _ _ _ _ sa xs t u _ d.row d.cI Oa (Aa J).1).mono ?_;rintro r L ⟨rfl,g,cap,l,D,hg,c⟩;have aj:=c.size;have M:=(show(λw'=>jI w' (jA mb 10 U)=Q (Y (Q<|jA lb 0 U) S S)/\jI w' ⟨R<|Z w,1,U⟩=Q (V jd k)/\jI w' (jA lb k U)=Q (jU t u)) L from⟨l.cell 10,((f.aA b NLN).bP c<|Aa H).cell 1,(G9<|c.block lb (zL G b.size)<|Aa I).trans C⟩)))
 have N:=Ab<|d.push hy l D hg c;have O:=Ab<|(x.trans (AN.aH (S:=λ_=>False) i) λ_ _ h=>h.elim).trans c λq _ h=>h.elim .inl λe=> .inr (.inr e);have P:=Ab (show ∀q,jL (Value.slice (Q<|jA g 0 U) (T st+1) cap)=Q q->jL (Value.slice sa (T st) sc)=Q q\/R (Z w)<=q from λq hq=>by
  have e:g=q:=O8;subst e;exact hg.imp_right λh=>zB (zB x.size i.size) h)
 clear d hy l D hg c i q1 M b;go_wp2
 go_ret
 refine⟨rfl,Q<|jA g 0 U,cap,_,ys,Aa N,Aa O,?_⟩;rw[zC];exact Aa P
end
section
variable{aS aO aZ aW:jG}{B mb lb:Nat}{ap:L3}{np cp:Nat}{iv:jF}{a1:L3}{n1 c1:Nat}{a2:L3}{n2 c2:Nat}{s:Int}{Rr:Rq}{S:Nat}{at_:Nat}{st:M4}{sl:List M7}{sa:L3}{sc:Nat}{xs ys:L7}{w w0:jB}{P:M1}
theorem Acr (h:Dl B mb lb (Y ap np cp) iv (Y a1 n1 c1) (Y a2 n2 c2) s Rr S at_ st sl sa sc xs ys w)(b:Ai w0 w)(m:R (Z w0)<=B)(n:T st<=100)(hat:at_<=20000)(k:Nat):
  Calls jZ 51 #[jP<|Q<|jA mb 0 U,jM #[V X 22,V X k]] w (λr w'=>r=jN jX/\Kv B mb lb (Y ap np cp) iv (Y a1 n1 c1) (Y a2 n2 c2) s Rr S (Y sa (T st) sc) (k) (st) (sl) w w'):=by
 have o:=Gq hat;have c:=AE w<|jH #[V X 22,V X k] 80;have d:=(Below.refl _<|jJ w (jA mb 11 U)<|V X<|(at_:Int)+1).alloc NLN<|jH #[V X 22,V X k] 80;have a:=(h.cE<|(at_:Int)+1).below d;have t:jI (jK w<|jH #[V X 22,V X k] 80) (jA mb 11 U)=Q (V X at_):=(h.below c).row.cell 11;have u:=λj=>(h.below c).row.frozen j;have v:=h.row.lt;have x:=h.low.1;have y:=(b.setCell (p:=(jA mb 11 U)) S1<|V X<|(at_:Int)+1).alloc (by simpa using b.size)<|jH #[V X 22,V X k] 80;have z:AN (Ga mb lb<|Y sa (T st) sc) w<|jK (jJ w (jA mb 11 U)<|V X<|(at_:Int)+1)<|jH #[V X 22,V X k] 80:=AN.trans ((AN.refl _ w).setCell (p:=(jA mb 11 U)) (λ_=> .inl rfl)<|V X<|(at_:Int)+1) (AN.aH (S:=λ_=>False) d) λ_ _ h=>h.elim;have f:=Ag.new (jJ w (jA mb 11 U)<|V X<|(at_:Int)+1) #[V X 22,V X k] 80;simp only[K1]at f;obtain⟨g0,g1,g2,g3,A,C,D,g7,E,F,G,H,I,J,K⟩:=Ir a.row;have L:=λj=>a.row.frozen j;have g:=Ab<|((h.cE<|(at_:Int)+1).cE k).below<|BRN.alloc NLN<|jH #[V X 22,V X k] 80;have i:AN (Ga mb lb<|Y sa (T st) sc) w<|jJ (jJ w (jA mb 11 U)<|V X<|(at_:Int)+1) (jA mb 11 U)<|V X k:=((AN.refl _ w).setCell (p:=(jA mb 11 U)) (λ_=> .inl rfl) _).setCell (p:=(jA mb 11 U)) (λ_=> .inl rfl) _;have l:=Ab<|i.trans (AN.aH (S:=λ_=>False)<|BRN.alloc NLN<|jH #[V X 22,V X k] 80) λ_ _ h=>h.elim;have M:=Ab a;have N:=Ab h;clear h a;go_enter func51,ntmps51
 go_wp2
 go_ret
 exact⟨rfl,sa,sc,xs,ys,Aa g,Aa l,λq hq=> .inl hq⟩
theorem Acs (h:Dl B mb lb (Y ap np cp) iv (Y a1 n1 c1) (Y a2 n2 c2) s Rr S at_ st sl sa sc xs ys w)(d:Ai w0 w)(o:R (Z w0)<=B)(q:T st<=100)(hat:at_<=20000):
  Calls jZ 51 #[jP<|Q<|jA mb 0 U,jM #[V X 24,V X 0]] w (λr w'=>r=jN jX/\Ag w' mb (No (Y ap np cp) s iv Rr (Y a1 n1 c1) (Y a2 n2 c2) (Y sa (T st) sc) (Y (Q<|jA lb 0 U) S S) ((at_:Int)+1) 1 0<|Y U 0 0) 59/\AN (Ga mb lb<|Y sa (T st) sc) w w'):=by
 have t:=Gq hat;have f:=AE w<|jH #[V X 24,V X 0] 80;have g:=(Below.refl _<|jJ w (jA mb 11 U)<|V X<|(at_:Int)+1).alloc NLN<|jH #[V X 24,V X 0] 80;have a:=(h.cE<|(at_:Int)+1).below g;have u:jI (jK w<|jH #[V X 24,V X 0] 80) (jA mb 11 U)=Q (V X at_):=(h.below f).row.cell 11;have v:=λj=>(h.below f).row.frozen j;have x:=h.row.lt;have y:=h.low.1;have z:=(d.setCell (p:=(jA mb 11 U)) S1<|V X<|(at_:Int)+1).alloc (by simpa using d.size)<|jH #[V X 24,V X 0] 80;have A:AN (Ga mb lb<|Y sa (T st) sc) w<|jK (jJ w (jA mb 11 U)<|V X<|(at_:Int)+1)<|jH #[V X 24,V X 0] 80:=AN.trans ((AN.refl _ w).setCell (p:=(jA mb 11 U)) (λ_=> .inl rfl)<|V X<|(at_:Int)+1) (AN.aH (S:=λ_=>False) g) λ_ _ h=>h.elim;have k:=Ag.new (jJ w (jA mb 11 U)<|V X<|(at_:Int)+1) #[V X 24,V X 0] 80;simp only[K1]at k;obtain⟨g0,g1,g2,g3,C,D,E,g7,F,G,H,I,J,K,L⟩:=Ir a.row;have M:=λj=>a.row.frozen j;have b:=((h.cE<|(at_:Int)+1).row.set 12<|V X 1).aA (BRN.alloc NLN<|jH #[V X 24,V X 0] 80) NLN;have c:=(((h.cE<|(at_:Int)+1).row.set 12<|V X 1).set 13<|V X 0).aA (BRN.alloc NLN<|jH #[V X 24,V X 0] 80) NLN;have N:=λj=>b.frozen j;have O:=λj=>c.frozen j;have P:=(show _=Q (Value.int X 0)from b.cell 13)
 have W:=(show _=Q (Value.slice U 0 0)from c.cell 14)
 have i:=((((h.cE<|(at_:Int)+1).row.set 12<|V X 1).set 13<|V X 0).set 14<|Y U 0 0).aA (BRN.alloc NLN<|jH #[V X 24,V X 0] 80) NLN;have l:=Ab<|show Ag _ mb (No (Y ap np cp) s iv Rr (Y a1 n1 c1) (Y a2 n2 c2) (Y sa (T st) sc) (Y (Q<|jA lb 0 U) S S) ((at_:Int)+1) 1 0<|Y U 0 0) 59 from i;have m:AN (Ga mb lb<|Y sa (T st) sc) w<|jJ (jJ (jJ (jJ w (jA mb 11 U)<|V X<|(at_:Int)+1) (jA mb 12 U)<|V X 1) (jA mb 13 U)<|V X 0) (jA mb 14 U)<|Y U 0 0:=((((AN.refl _ w).setCell (p:=(jA mb 11 U)) (λ_=> .inl rfl) _).setCell (p:=(jA mb 12 U)) (λ_=> .inl rfl) _).setCell (p:=(jA mb 13 U)) (λ_=> .inl rfl) _).setCell (p:=(jA mb 14 U)) (λ_=> .inl rfl) _;have n:=Ab<|m.trans (AN.aH (S:=λ_=>False)<|BRN.alloc NLN<|jH #[V X 24,V X 0] 80) λ_ _ h=>h.elim;clear i b c;have aa:=Ab a;have ab:=Ab h;clear h a;go_enter func51,ntmps51
 go_wp2
 go_ret
 exact⟨rfl,Aa l,Aa n⟩
end
end Go.Proofs.YtnjpihpohilnjaaGreatDoor
