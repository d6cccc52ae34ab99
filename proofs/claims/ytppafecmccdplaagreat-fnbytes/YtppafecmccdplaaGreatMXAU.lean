import Derived.Test.YtppafecmccdplaaGreatMXAN
open Go.Proofs.Tryz
open Option renaming none->T,some->Y
open Go.Value renaming int->U,slice->X,agg->jE,tuple->jJ
open Go.IntKind renaming i64->V,u64->jG
open Go renaming World->Z
open Bool renaming true->R,false->jA
open Go.Obj renaming cells->jC
open Go.Ending renaming returned->jF
open Go.Proofs.Tryz renaming prog->jL
namespace Go.Proofs.YtppafecmccdplaaGreat
open Go.RowKit
set_option linter.unusedVariables false
set_option maxHeartbeats 1600000
variable {x y:Int}{f:Int×Int}
structure Dc where
 name:ByteArray
 isLet:Bool
 num:Int
 typ:Int
def JR (K:List Dc) (s:ByteArray):Option Dc:=K.find? (fun d=>d.name=s)
abbrev Rs:=Except (Int×Int) Int
def ofO (f:Int×Int):Option Int->Rs
 |some t=> .ok t
 |none=> .error f
def gX:Rs->Int
 |.ok t=>t
 |.error _=>0
def ltT (K:List Dc) (n:Int):Option Int:=if 0<=n then ((K.drop 6)[n.toNat]?).map Dc.typ else T
def BF (K:List Dc):Ex->Rs
 |.int .. => .ok 2
 |.text .. => .ok 3
 |.bool .. => .ok 1
 |.set .. => .ok 4
 |.name i s=>ofO (7,i) ((JR K s).map Dc.typ)
 |.attr _ n=> .ok (BL n)
 |.lett i n=>ofO (7,i) (ltT K n)
 |.un i op k=>(BF K k).bind fun a=>ofO (9,i) (nz (Ca op [a]))
 |.bin i op l r=>(BF K l).bind fun a=>(BF K r).bind fun b=>ofO (9,i) (nz (Ca op [a,b]))
 |.ite i c t e=>(BF K c).bind fun a=>(BF K t).bind fun b=>(BF K e).bind fun d=>ofO (9,i) (nz (Ca 27 [a,b,d]))
def Ds (K:List Dc):Ex->List Int
 |.un i op k=>Ds K k++[gX (BF K (.un i op k))]
 |.bin i op l r=>Ds K l++Ds K r++[gX (BF K (.bin i op l r))]
 |.ite i c t e=>Ds K c++Ds K t++Ds K e++[gX (BF K (.ite i c t e))]
 |e=> [gX (BF K e)]
theorem Ew (K:List Dc):∀(e:Ex),(Ds K e).length=e.cnt
 |.int ..| .text ..| .bool ..| .set ..| .name ..| .attr ..| .lett .. =>rfl
 |.un _ _ k=>by simp[Ds,Ex.cnt,Ew K k]
 |.bin _ _ l r=>by simp[Ds,Ex.cnt,Ew K l,Ew K r];omega
 |.ite _ c t e=>by simp[Ds,Ex.cnt,Ew K c,Ew K t,Ew K e];omega
def inX (o:Rs):Prop:=∀a,o= .ok a->1<=a/\a<=4
theorem AeI {K:List Dc}{s:ByteArray}{d:Dc}(h:JR K s=Y d):d∈K/\d.name=s:=by
 have h1:=List.mem_of_find?_eq_some h;have a:=List.find?_some h;exact⟨h1,by simpa using a⟩
theorem Qr {o:Option Int}(h:∀a,o=Y a->1<=a/\a<=4):inX (ofO f o):=fun a e=>by
 cases o with
 |none=>cases e
 |some t=>cases e;exact h _ rfl
set_option maxHeartbeats 1600000
theorem Vw (a:Int)(w:Z)(b:FJ a)(h0:a<0):
  Calls jL 133 #[U V a] w fun e w'=>e=jF (jE #[.bool R,U jG 0,U jG (-a)])/\An w w':=by
 obtain⟨c,d⟩:=b;go_enter func133,ntmps133
 go_wp2
 rw[show -(a+1)+1= -a from by omega];exact bodyPost_ret (v:= jE #[.bool R,U jG 0,U jG (-a)]) (by simp[results,results133,go_sem]) rfl ⟨rfl,BRN.alloc NLN _⟩
theorem Vx (a:Int)(w:Z)(b:FJ a)(h0: 0<=a):
  Calls jL 133 #[U V a] w fun e w'=>e=jF (jE #[.bool jA,U jG 0,U jG a])/\An w w':=by
 obtain⟨c,d⟩:=b;have f: ¬ a<0:=by omega
 go_enter func133,ntmps133
 go_wp2
 exact bodyPost_ret (v:= jE #[.bool jA,U jG 0,U jG a]) (by simp[results,results133,go_sem]) rfl ⟨rfl,BRN.alloc NLN _⟩
theorem AU (a:Int)(w:Z)(b:FJ a):
  Calls jL 133 #[U V a] w fun e w'=>e=jF (jE #[.bool (decide (a<0)),U jG 0,U jG (a.natAbs:Int)])/\An w w':=by
 by_cases h0:a<0
 ·rw[show decide (a<0)=R from by simp[h0],show(a.natAbs:Int)= -a from by omega];exact Vw a w b h0
 ·rw[show decide (a<0)=jA from by simpa using h0,show(a.natAbs:Int)=a from by omega];exact Vx a w b (by omega)
theorem Ns (h:x=y):Value.int IntKind.u64 x=U jG y:=by rw[h]
theorem Vy (a b:Int)(w:Z)(d: 0<=a/\a<=9223372036854775808)(m: 0<=b/\b<=9223372036854775808):
  Calls jL 136 #[U jG a,U jG b] w fun e w'=>(∃hi lo:Int,e=jF (jJ #[U jG hi,U jG lo])/\0<=hi/\hi<18446744073709551616/\0<=lo/\lo<18446744073709551616/\hi*18446744073709551616+lo=a*b)/\w'=w:=by
 go_enter func136,ntmps136
 go_wp2
 go_loop [6,7,8,9] (fun h l i _=>∃ (hi lo:Int) (k:Nat),h=U jG hi/\l=U jG lo/\i=U V ((k:Int)-1)/\k<=64/\0<=hi/\hi<18446744073709551616/\0<=lo/\lo<18446744073709551616/\hi*18446744073709551616+lo=(a / 2 ^ k)*b) (fun _ _ i _=>(intOf i+1).toNat)
 case atStart=>exact⟨0,0,64,rfl,rfl,rfl,by omega,by omega,by omega,by omega,by omega,by rw[show a / 2 ^ 64=0 from Int.ediv_eq_zero_of_lt d.1 (by omega)];omega⟩
 case round=>
  obtain⟨hi,lo,k,rfl,rfl,rfl,hk,h1,f,g,j,hv⟩:=hrel;by_cases n:k=0
  ·subst n;have c:=Ab hv;clear hv;go_wp2
   go_ret2
   exact⟨⟨hi,lo,rfl,h1,f,g,j,by rw[Aa c];simp⟩,rfl⟩
  ·have o:(0 :Int)<=(k:Int)-1:=by omega
   have c:=Ab hv;clear hv;go_wp2
   ·obtain⟨hi',lo',e1,e2,q⟩:=Aaz (by omega) d m h1 f g j (Aa c) (by assumption) (by assumption);exact⟨⟨hi',lo',k-1,Ns e1.symm,Ns e2.symm,by rw[show(((k-1 :Nat):Int))=(k:Int)-1 from by omega],by omega,q⟩,by simp[intOf];omega⟩
   ·obtain⟨hi',lo',e1,e2,q⟩:=AaA (by omega) d m h1 f g j (Aa c) (by assumption) (by assumption);exact⟨⟨hi',lo',k-1,Ns e1.symm,Ns e2.symm,by rw[show(((k-1 :Nat):Int))=(k:Int)-1 from by omega],by omega,q⟩,by simp[intOf];omega⟩
   ·obtain⟨hi',lo',e1,e2,q⟩:=Vu (by omega) d m h1 f g j (Aa c) (by assumption);exact⟨⟨hi',lo',k-1,Ns e1.symm,Ns e2.symm,by rw[show(((k-1 :Nat):Int))=(k:Int)-1 from by omega],by omega,q⟩,by simp[intOf];omega⟩
def Cx (n:Bool) (hi lo:Int):Int:=if n then -(hi*18446744073709551616+lo)else hi*18446744073709551616+lo
theorem IH {v x c:Int}(h:Nc v=(x,c)):jF (jJ #[U V x,U V c])=jF (jJ #[U V (Nc v).1,U V (Nc v).2]):=by rw[h]
theorem FY (n:Bool)(hi lo:Int)(w:Z)(h1: 0<=hi)(b:hi<18446744073709551616)(c: 0<=lo)(d:lo<18446744073709551616):
  Calls jL 134 #[jE #[.bool n,U jG hi,U jG lo]] w fun e w'=>e=jF (jJ #[U V (Nc (Cx n hi lo)).1,U V (Nc (Cx n hi lo)).2])/\An w w':=by
 have B:=AN w (jC #[.bool n,U jG hi,U jG lo] 185);by_cases e0:hi=0
 ·subst e0;by_cases e1: 9223372036854775808<lo
  ·have a:=Ab (show Nc (Cx n 0 lo)=(0,1)from XZ (by cases n<;>simp[Cx]<;>omega));go_enter func134,ntmps134
   go_wp2
   go_ret2
   exact⟨IH (Aa a),B⟩
  ·by_cases e2:lo=9223372036854775808
   ·subst e2;cases n
    ·have a:=Ab (show Nc (Cx jA 0 9223372036854775808)=(0,1)from XZ (by simp[Cx]));go_enter func134,ntmps134
     go_wp2
     go_ret2
     exact⟨IH (Aa a),B⟩
    ·have a:=Ab (show Nc (Cx R 0 9223372036854775808)=(-9223372036854775808,0)from Ut (by simp[Cx]) (by simp[Cx]));go_enter func134,ntmps134
     go_wp2
     go_ret2
     exact⟨IH (Aa a),B⟩
   ·have f:lo<=9223372036854775807:=by omega
    have g:lo<=9223372036854775808:=by omega
    have h:(lo==9223372036854775808)=jA:=zA.2 e2;clear e1 e2;cases n
    ·have a:=Ab (show Nc (Cx jA 0 lo)=(lo,0) by rw[show Cx jA 0 lo=lo by simp[Cx]];exact Ut (by omega) (by omega));go_enter func134,ntmps134
     go_wp2
     go_ret2
     exact⟨IH (Aa a),B⟩
    ·have a:=Ab (show Nc (Cx R 0 lo)=(-lo,0) by rw[show Cx R 0 lo= -lo by simp[Cx]];exact Ut (by omega) (by omega));go_enter func134,ntmps134
     go_wp2
     go_ret2
     exact⟨IH (Aa a),B⟩
 ·have i:(hi !=0)=R:=by simpa using e0
  have a:=Ab (show Nc (Cx n hi lo)=(0,1)from XZ (by cases n<;>simp[Cx]<;>omega));go_enter func134,ntmps134
  go_wp2
  go_ret2
  exact⟨IH (Aa a),B⟩
def Ahi (v:Value) (s:Int):Prop:=∃ (q:Bool) (hi lo:Int),v=jE #[.bool q,U jG hi,U jG lo]/\0<=hi/\hi<18446744073709551616/\0<=lo/\lo<18446744073709551616/\Cx q hi lo=s
theorem Te (n:Bool)(x:Int)(m:Bool)(y:Int)(w:Z)(h1: 0<=x)(c:x<=9223372036854775808)(d: 0<=y)(f:y<=9223372036854775808):
  Calls jL 135 #[jE #[.bool n,U jG 0,U jG x],jE #[.bool m,U jG 0,U jG y]] w fun e w'=>
   ∃v,e=jF v/\Ahi v (Cx n 0 x+Cx m 0 y)/\An w w':=by
 cases a:(n==m)
 ·have hm:m= !n:=by cases n<;>cases m<;>simp at a|-
  subst hm;by_cases g:y<=x
  ·go_enter func135,ntmps135
   go_wp2
   refine bodyPost_ret (v:= jE #[.bool n,U jG 0,U jG (x-y)]) (by simp[results,results135,go_sem]) rfl ⟨_,rfl,⟨n,0,x-y,rfl,by omega,by omega,by omega,by omega,by cases n<;>simp[Cx]<;>omega⟩,?_⟩
   exact((BRN.alloc NLN _).alloc (by simp) _).alloc (by simp;omega) _
  ·have h:x<y:=by omega
   go_enter func135,ntmps135
   go_wp2
   refine bodyPost_ret (v:= jE #[.bool !n,U jG 0,U jG (y-x)]) (by simp[results,results135,go_sem]) rfl ⟨_,rfl,⟨!n,0,y-x,rfl,by omega,by omega,by omega,by omega,by cases n<;>simp[Cx]<;>omega⟩,?_⟩
   exact((BRN.alloc NLN _).alloc (by simp) _).alloc (by simp;omega) _
 ·have hm:m=n:=by cases n<;>cases m<;>simp at a|-
  subst hm;by_cases hc:x=9223372036854775808/\y=9223372036854775808
  ·have i:IntKind.u64.wrap (x+y)=0:=by rw[Qo];omega
   have j: 0<x:=by omega
   have b:=Ab hc;clear hc;go_enter func135,ntmps135
   go_wp2
   refine bodyPost_ret (v:= jE #[.bool m,U jG 1,U jG 0]) (by simp[results,results135,go_sem]) rfl ⟨_,rfl,⟨m,1,0,rfl,by omega,by omega,by omega,by omega,by have hc:=Aa b;cases m<;>simp[Cx]<;>omega⟩,?_⟩
   exact((BRN.alloc NLN _).alloc (by simp) _).alloc (by simp;omega) _
  ·have hs:x+y<=18446744073709551615:=by omega
   have k: ¬ (x+y<x):=by omega
   clear hc;go_enter func135,ntmps135
   go_wp2
   refine bodyPost_ret (v:= jE #[.bool m,U jG 0,U jG (x+y)]) (by simp[results,results135,go_sem]) rfl ⟨_,rfl,⟨m,0,x+y,rfl,by omega,by omega,by omega,by omega,by cases m<;>simp[Cx]<;>omega⟩,?_⟩
   exact((BRN.alloc NLN _).alloc (by simp) _).alloc (by simp;omega) _
section
theorem Uv (a:Int):Cx (decide (a<0)) 0 (a.natAbs:Int)=a:=by
 by_cases h:a<0
 ·simp[Cx,h];omega
 ·simp[Cx,h];omega
theorem AeA (n:Bool)(x:Int):Cx (!n) 0 x= -Cx n 0 x:=by cases n<;>simp[Cx]
theorem II {p q:Int×Int}(h:p=q):jF (jJ #[U V p.1,U V p.2])=jF (jJ #[U V q.1,U V q.2]):=by rw[h]
theorem Ly {c:Int}{q:Int×Int}(h:q=(x,c)):jF (jJ #[U V x,U V c])=jF (jJ #[U V q.1,U V q.2]):=by rw[h]
theorem Ach (a b hi lo:Int)(h:hi*18446744073709551616+lo=(a.natAbs:Int)*(b.natAbs:Int)):Cx (!(decide (a<0)==decide (b<0))) hi lo=a*b:=by
 by_cases h1:a<0<;>by_cases c:b<0
 ·have e1:(a.natAbs:Int)= -a:=by omega
  have e2:(b.natAbs:Int)= -b:=by omega
  rw[e1,e2,Int.neg_mul_neg]at h;simp[Cx,h1,c,h]
 ·have e1:(a.natAbs:Int)= -a:=by omega
  have e2:(b.natAbs:Int)=b:=by omega
  rw[e1,e2,Int.neg_mul]at h;simp[Cx,h1,c,h]
 ·have e1:(a.natAbs:Int)=a:=by omega
  have e2:(b.natAbs:Int)= -b:=by omega
  rw[e1,e2,Int.mul_neg]at h;simp[Cx,h1,c,h]
 ·have e1:(a.natAbs:Int)=a:=by omega
  have e2:(b.natAbs:Int)=b:=by omega
  rw[e1,e2]at h;simp[Cx,h1,c,h]
theorem Aci (a b:Int):Cx (!(decide (a<0)==decide (b<0))) 0 ((a.natAbs:Int) / (b.natAbs:Int))=a.tdiv b:=by
 by_cases h1:a<0<;>by_cases c:b<0
 ·have e1:(a.natAbs:Int)= -a:=by omega
  have e2:(b.natAbs:Int)= -b:=by omega
  have:a.tdiv b=(-a).tdiv (-b):=by rw[Int.neg_tdiv,Int.tdiv_neg,Int.neg_neg]
  rw[this,yI (by omega)];simp[Cx,h1,c,e1,e2]
 ·have e1:(a.natAbs:Int)= -a:=by omega
  have e2:(b.natAbs:Int)=b:=by omega
  have:a.tdiv b= -((-a).tdiv b):=by rw[Int.neg_tdiv,Int.neg_neg]
  rw[this,yI (by omega)];simp[Cx,h1,c,e1,e2]
 ·have e1:(a.natAbs:Int)=a:=by omega
  have e2:(b.natAbs:Int)= -b:=by omega
  have:a.tdiv b= -(a.tdiv (-b)):=by rw[Int.tdiv_neg,Int.neg_neg]
  rw[this,yI (by omega)];simp[Cx,h1,c,e1,e2]
 ·have e1:(a.natAbs:Int)=a:=by omega
  have e2:(b.natAbs:Int)=b:=by omega
  rw[yI (by omega)];simp[Cx,h1,c,e1,e2]
theorem Acj (a b:Int):Cx (decide (a<0)) 0 ((a.natAbs:Int) % (b.natAbs:Int))=a.tmod b:=by
 have c:∀x:Int,x.tmod b=x.tmod (b.natAbs:Int):=fun x=>by
  by_cases d:b<0
  ·have e2:(b.natAbs:Int)= -b:=by omega
   rw[e2,Int.tmod_neg]
  ·have e2:(b.natAbs:Int)=b:=by omega
   rw[e2]
 rw[c];by_cases h1:a<0
 ·have e1:(a.natAbs:Int)= -a:=by omega
  have:a.tmod (b.natAbs:Int)= -((-a).tmod (b.natAbs:Int)):=by rw[Int.neg_tmod,Int.neg_neg]
  rw[this,yJ (by omega)];simp[Cx,h1,e1]
 ·have e1:(a.natAbs:Int)=a:=by omega
  rw[yJ (by omega)];simp[Cx,h1,e1]
variable {a b : Int} {w : Z}
theorem AeB (h:FJ a)(i:FJ b):
  Calls jL 125 #[U V 1,U V a,U V b] w fun e w'=>e=jF (jJ #[U V (Bz 1 a b).1,U V (Bz 1 a b).2])/\An w w':=by
 have hx:(a.natAbs:Int)<=9223372036854775808:=by have:=h.lo;have:=h.hi;omega
 have hy:(b.natAbs:Int)<=9223372036854775808:=by have:=i.lo;have:=i.hi;omega
 go_enter func125,ntmps125
 go_wp2_with fail
 refine(AU a w h).mono ?_;rintro e s ⟨rfl,j⟩;have d:=j.alloc j.size (jC #[.bool (decide (a<0)),U jG 0,U jG (a.natAbs:Int)] 185);have m:=Ah.new s #[.bool (decide (a<0)),U jG 0,U jG (a.natAbs:Int)] 185;go_wp2_with fail
 refine(AU b _ i).mono ?_;rintro e w2 ⟨rfl,c⟩;have k:=(d.trans (c.mono d.size)).alloc (zC d.size c.size) (jC #[.bool (decide (b<0)),U jG 0,U jG (b.natAbs:Int)] 185);have g:=(m.after c NLN).alloc (jC #[.bool (decide (b<0)),U jG 0,U jG (b.natAbs:Int)] 185);have n:=c.size;simp only[World.size_alloc]at n;clear m d j c n;have c0:=g.cell 0;have c1:=g.cell 1;have c2:=g.cell 2;simp at c0 c1 c2;go_wp2_with fail
 refine(Te _ _ _ _ _ (by omega) hx (by omega) hy).mono ?_;rintro e C ⟨v,rfl,hv,o⟩;obtain⟨q,hi,lo,rfl,t,u,x,y,l⟩:=hv;have p:=k.trans (o.mono k.size);rw[Uv,Uv]at l;have z:=Ab l;clear l c0 c1 c2 g k o;go_wp2_with fail
 refine(FY q hi lo _ t u x y).mono ?_;rintro e D ⟨rfl,A⟩;rw[Aa z];generalize r:Nc (a+b)=f;have B:=Ab r;clear r;go_wp2
 go_ret2
 exact⟨II (by rw[<-Aa B];rfl),p.trans (A.mono p.size)⟩
theorem AeC (h:FJ a)(i:FJ b):
  Calls jL 125 #[U V 2,U V a,U V b] w fun e w'=>e=jF (jJ #[U V (Bz 2 a b).1,U V (Bz 2 a b).2])/\An w w':=by
 have hx:(a.natAbs:Int)<=9223372036854775808:=by have:=h.lo;have:=h.hi;omega
 have hy:(b.natAbs:Int)<=9223372036854775808:=by have:=i.lo;have:=i.hi;omega
 go_enter func125,ntmps125
 go_wp2_with fail
 refine(AU a w h).mono ?_;rintro e s ⟨rfl,j⟩;have d:=j.alloc j.size (jC #[.bool (decide (a<0)),U jG 0,U jG (a.natAbs:Int)] 185);have m:=Ah.new s #[.bool (decide (a<0)),U jG 0,U jG (a.natAbs:Int)] 185;go_wp2_with fail
 refine(AU b _ i).mono ?_;rintro e w2 ⟨rfl,c⟩;have k:=(d.trans (c.mono d.size)).alloc (zC d.size c.size) (jC #[.bool (!decide (b<0)),U jG 0,U jG (b.natAbs:Int)] 185);have g:=(m.after c NLN).alloc (jC #[.bool (!decide (b<0)),U jG 0,U jG (b.natAbs:Int)] 185);have n:=c.size;simp only[World.size_alloc]at n;clear m d j c n;have c0:=g.cell 0;have c1:=g.cell 1;have c2:=g.cell 2;simp at c0 c1 c2;go_wp2_with fail
 refine(Te _ _ _ _ _ (by omega) hx (by omega) hy).mono ?_;rintro e C ⟨v,rfl,hv,o⟩;obtain⟨q,hi,lo,rfl,t,u,x,y,l⟩:=hv;have p:=k.trans (o.mono k.size);rw[AeA,Uv,Uv]at l;have z:=Ab l;clear l c0 c1 c2 g k o;go_wp2_with fail
 refine(FY q hi lo _ t u x y).mono ?_;rintro e D ⟨rfl,A⟩;rw[Aa z];generalize r:Nc (a+ -b)=f;have B:=Ab r;clear r;go_wp2
 go_ret2
 exact⟨II (by rw[<-Aa B,<-Int.sub_eq_add_neg];rfl),p.trans (A.mono p.size)⟩
theorem AeD (g:FJ a)(h:FJ b):
  Calls jL 125 #[U V 3,U V a,U V b] w fun e w'=>e=jF (jJ #[U V (Bz 3 a b).1,U V (Bz 3 a b).2])/\An w w':=by
 have hx:(a.natAbs:Int)<=9223372036854775808:=by have:=g.lo;have:=g.hi;omega
 have hy:(b.natAbs:Int)<=9223372036854775808:=by have:=h.lo;have:=h.hi;omega
 go_enter func125,ntmps125
 go_wp2_with fail
 refine(AU a w g).mono ?_;rintro e p ⟨rfl,i⟩;have d:=i.alloc i.size (jC #[.bool (decide (a<0)),U jG 0,U jG (a.natAbs:Int)] 185);have k:=Ah.new p #[.bool (decide (a<0)),U jG 0,U jG (a.natAbs:Int)] 185;go_wp2_with fail
 refine(AU b _ h).mono ?_;rintro e w2 ⟨rfl,c⟩;have l:=(d.trans (c.mono d.size)).alloc (zC d.size c.size) (jC #[.bool (decide (b<0)),U jG 0,U jG (b.natAbs:Int)] 185);have j:=(k.after c NLN).alloc (jC #[.bool (decide (b<0)),U jG 0,U jG (b.natAbs:Int)] 185);have m:=c.size;simp only[World.size_alloc]at m;clear k d i c m;have c0:=j.cell 0;have c1:=j.cell 1;have c2:=j.cell 2;simp at c0 c1 c2;go_wp2_with fail
 refine(Vy _ _ _ ⟨by omega,hx⟩ ⟨by omega,hy⟩).mono ?_;rintro e y ⟨⟨hi,lo,rfl,q,r,s,t,n⟩,rfl⟩;have u:=Ab (Ach a b hi lo n);clear n;go_wp2_with fail
 refine(FY _ hi lo _ q r s t).mono ?_;rintro e z ⟨rfl,v⟩;rw[Aa u];generalize o:Nc (a*b)=f;have x:=Ab o;clear o;go_wp2
 go_ret2
 exact⟨II (by rw[<-Aa x];rfl),l.trans (v.mono l.size)⟩
end
section
variable {a b : Int} {w : Z}
theorem AeE (m:FJ a)(n:FJ b)(op:Int)(h1:op≠1)(f:op≠2)(g:op≠3)(h:op≠4)(h5:op≠5):
  Calls jL 125 #[U V op,U V a,U V b] w fun e w'=>e=jF (jJ #[U V (Bz op a b).1,U V (Bz op a b).2])/\An w w':=by
 have e1:(op==1)=jA:=zA.2 h1;have e2:(op==2)=jA:=zA.2 f;have e3:(op==3)=jA:=zA.2 g;have e4:(op==4)=jA:=zA.2 h;have e5:(op==5)=jA:=zA.2 h5;have o:=Ab (show Bz op a b=(0,4) by rw[Bz,if_neg h1,if_neg f,if_neg g,if_neg h,if_neg h5]);clear h1 f g h h5;go_enter func125,ntmps125
 go_wp2_with fail
 refine(AU a w m).mono ?_;rintro e p ⟨rfl,i⟩;have d:=i.alloc i.size (jC #[.bool (decide (a<0)),U jG 0,U jG (a.natAbs:Int)] 185);have k:=Ah.new p #[.bool (decide (a<0)),U jG 0,U jG (a.natAbs:Int)] 185;go_wp2_with fail
 refine(AU b _ n).mono ?_;rintro e w2 ⟨rfl,c⟩;have q:=(d.trans (c.mono d.size)).alloc (zC d.size c.size) (jC #[.bool (decide (b<0)),U jG 0,U jG (b.natAbs:Int)] 185);have j:=(k.after c NLN).alloc (jC #[.bool (decide (b<0)),U jG 0,U jG (b.natAbs:Int)] 185);have l:=c.size;simp only[World.size_alloc]at l;clear k d i c l;have c0:=j.cell 0;have c1:=j.cell 1;have c2:=j.cell 2;simp at c0 c1 c2;go_wp2
 go_ret2
 exact⟨Ly (Aa o),q⟩
theorem Ack (k:FJ a)(f:FJ b)(h0:b=0):
  Calls jL 125 #[U V 4,U V a,U V b] w fun e w'=>e=jF (jJ #[U V (Bz 4 a b).1,U V (Bz 4 a b).2])/\An w w':=by
 have hy:(b.natAbs:Int)<=9223372036854775808:=by have:=f.lo;have:=f.hi;omega
 have l:=Ab (show Bz 4 a b=(0,2) by subst h0;rfl);have e0:(b==0)=R:=zF.2 h0;clear h0;go_enter func125,ntmps125
 go_wp2_with fail
 refine(AU a w k).mono ?_;rintro e m ⟨rfl,g⟩;have d:=g.alloc g.size (jC #[.bool (decide (a<0)),U jG 0,U jG (a.natAbs:Int)] 185);have i:=Ah.new m #[.bool (decide (a<0)),U jG 0,U jG (a.natAbs:Int)] 185;go_wp2_with fail
 refine(AU b _ f).mono ?_;rintro e w2 ⟨rfl,c⟩;have n:=(d.trans (c.mono d.size)).alloc (zC d.size c.size) (jC #[.bool (decide (b<0)),U jG 0,U jG (b.natAbs:Int)] 185);have h:=(i.after c NLN).alloc (jC #[.bool (decide (b<0)),U jG 0,U jG (b.natAbs:Int)] 185);have j:=c.size;simp only[World.size_alloc]at j;clear i d g c j;have c0:=h.cell 0;have c1:=h.cell 1;have c2:=h.cell 2;simp at c0 c1 c2;go_wp2
 go_ret2
 exact⟨Ly (Aa l),n⟩
theorem Acl (k:FJ a)(f:FJ b)(h0:b=0):
  Calls jL 125 #[U V 5,U V a,U V b] w fun e w'=>e=jF (jJ #[U V (Bz 5 a b).1,U V (Bz 5 a b).2])/\An w w':=by
 have hy:(b.natAbs:Int)<=9223372036854775808:=by have:=f.lo;have:=f.hi;omega
 have l:=Ab (show Bz 5 a b=(0,2) by subst h0;rfl);have e0:(b==0)=R:=zF.2 h0;clear h0;go_enter func125,ntmps125
 go_wp2_with fail
 refine(AU a w k).mono ?_;rintro e m ⟨rfl,g⟩;have d:=g.alloc g.size (jC #[.bool (decide (a<0)),U jG 0,U jG (a.natAbs:Int)] 185);have i:=Ah.new m #[.bool (decide (a<0)),U jG 0,U jG (a.natAbs:Int)] 185;go_wp2_with fail
 refine(AU b _ f).mono ?_;rintro e w2 ⟨rfl,c⟩;have n:=(d.trans (c.mono d.size)).alloc (zC d.size c.size) (jC #[.bool (decide (b<0)),U jG 0,U jG (b.natAbs:Int)] 185);have h:=(i.after c NLN).alloc (jC #[.bool (decide (b<0)),U jG 0,U jG (b.natAbs:Int)] 185);have j:=c.size;simp only[World.size_alloc]at j;clear i d g c j;have c0:=h.cell 0;have c1:=h.cell 1;have c2:=h.cell 2;simp at c0 c1 c2;go_wp2
 go_ret2
 exact⟨Ly (Aa l),n⟩
end
section
variable {a b : Int} {w : Z}
theorem AeF (k:FJ a)(l:FJ b)(h0:b≠0):
  Calls jL 125 #[U V 4,U V a,U V b] w fun e w'=>e=jF (jJ #[U V (Bz 4 a b).1,U V (Bz 4 a b).2])/\An w w':=by
 have hx:(a.natAbs:Int)<=9223372036854775808:=by have:=k.lo;have:=k.hi;omega
 have hy:(b.natAbs:Int)<=9223372036854775808:=by have:=l.lo;have:=l.hi;omega
 have e0:(b==0)=jA:=zA.2 h0;have D:(0 :Int)<(b.natAbs:Int):=by omega
 have v:=Ab (Aci a b);have o: 0<=(a.natAbs:Int) / (b.natAbs:Int):=Int.ediv_nonneg (by omega) (by omega);have p:(a.natAbs:Int) / (b.natAbs:Int)<18446744073709551616:=by have:=Int.ediv_le_self (b.natAbs:Int) (show 0<=(a.natAbs:Int) by omega);omega
 have x:=Ab (Vt o p);go_enter func125,ntmps125
 go_wp2_with fail
 refine(AU a w k).mono ?_;rintro e m ⟨rfl,n⟩;have i:=n.alloc n.size (jC #[.bool (decide (a<0)),U jG 0,U jG (a.natAbs:Int)] 185);have q:=Ah.new m #[.bool (decide (a<0)),U jG 0,U jG (a.natAbs:Int)] 185;go_wp2_with fail
 refine(AU b _ l).mono ?_;rintro e w2 ⟨rfl,c⟩;have r:=(i.trans (c.mono i.size)).alloc (zC i.size c.size) (jC #[.bool (decide (b<0)),U jG 0,U jG (b.natAbs:Int)] 185);have d:=(q.after c NLN).alloc (jC #[.bool (decide (b<0)),U jG 0,U jG (b.natAbs:Int)] 185);have g:=Ah.new w2 #[.bool (decide (b<0)),U jG 0,U jG (b.natAbs:Int)] 185;have s:=c.size;simp only[World.size_alloc]at s;clear q i n c s;have c0:=d.cell 0;have c1:=d.cell 1;have c2:=d.cell 2;simp at c0 c1 c2;generalize E:w2.alloc (jC #[.bool (decide (b<0)),U jG 0,U jG (b.natAbs:Int)] 185)=j at*;have t:=g.cell 0;have d1:=g.cell 1;have d2:=g.cell 2;simp at t d1 d2;go_wp2_with fail
 go_region_held3 (fun w'=>w'.cell? ⟨m.heap.size,0,T⟩=Y (.bool (decide (a<0)))/\w'.cell? ⟨m.heap.size,2,T⟩=Y (U jG (a.natAbs:Int))/\w'.cell? ⟨w2.heap.size,0,T⟩=Y (.bool (decide (b<0)))/\w'.cell? ⟨w2.heap.size,2,T⟩=Y (U jG (b.natAbs:Int))) (go_keep)
  ((go_at_call 134;rw[Aa x];refine(FY _ _ _ _ ?_ ?_ ?_ ?_).mono ?_;omega;omega;exact o;exact p;rintro e F ⟨rfl,h⟩;have y:=(Ah.after (w:=j.drew) ⟨d.out⟩ h NLN).cell 0;have z:=(Ah.after (w:=j.drew) ⟨d.out⟩ h NLN).cell 2;have A:=(Ah.after (w:=j.drew) ⟨g.out⟩ h NLN).cell 0;have B:=(Ah.after (w:=j.drew) ⟨g.out⟩ h NLN).cell 2;simp at y z A B))
 all_goals
  rw[Aa v];generalize u:Nc (a.tdiv b)=f;have C:=Ab (show Bz 4 a b=f by rw[<-u,Bz];simp[Aey,h0]);clear u t d1 d2 c0 c1 c2;go_wp2
  go_ret2
  exact⟨II (Aa C).symm,r.drew.trans (h.mono r.size)⟩
theorem AeG (s:FJ a)(k:FJ b)(h0:b≠0):
  Calls jL 125 #[U V 5,U V a,U V b] w fun e w'=>e=jF (jJ #[U V (Bz 5 a b).1,U V (Bz 5 a b).2])/\An w w':=by
 have hy:(b.natAbs:Int)<=9223372036854775808:=by have:=k.lo;have:=k.hi;omega
 have e0:(b==0)=jA:=zA.2 h0;have t:(0 :Int)<(b.natAbs:Int):=by omega
 have u:=Ab (Acj a b);have v: 0<=(a.natAbs:Int) % (b.natAbs:Int):=Int.emod_nonneg _ (by omega);have x:(a.natAbs:Int) % (b.natAbs:Int)<18446744073709551616:=by have:=Int.emod_lt_of_pos (a.natAbs:Int) t;omega
 have y:=Ab (yJ (b:=(b.natAbs:Int)) (show 0<=(a.natAbs:Int) by omega));go_enter func125,ntmps125
 go_wp2_with fail
 refine(AU a w s).mono ?_;rintro e l ⟨rfl,m⟩;have i:=m.alloc m.size (jC #[.bool (decide (a<0)),U jG 0,U jG (a.natAbs:Int)] 185);have n:=Ah.new l #[.bool (decide (a<0)),U jG 0,U jG (a.natAbs:Int)] 185;go_wp2_with fail
 refine(AU b _ k).mono ?_;rintro e w2 ⟨rfl,c⟩;have o:=(i.trans (c.mono i.size)).alloc (zC i.size c.size) (jC #[.bool (decide (b<0)),U jG 0,U jG (b.natAbs:Int)] 185);have d:=(n.after c NLN).alloc (jC #[.bool (decide (b<0)),U jG 0,U jG (b.natAbs:Int)] 185);have g:=Ah.new w2 #[.bool (decide (b<0)),U jG 0,U jG (b.natAbs:Int)] 185;have p:=c.size;simp only[World.size_alloc]at p;clear n i m c p;have c0:=d.cell 0;have c1:=d.cell 1;have c2:=d.cell 2;simp at c0 c1 c2;generalize E:w2.alloc (jC #[.bool (decide (b<0)),U jG 0,U jG (b.natAbs:Int)] 185)=j at*;have q:=g.cell 0;have d1:=g.cell 1;have d2:=g.cell 2;simp at q d1 d2;go_wp2_with fail
 go_region_held3 (fun w'=>w'.cell? ⟨l.heap.size,0,T⟩=Y (.bool (decide (a<0)))/\w'.cell? ⟨l.heap.size,2,T⟩=Y (U jG (a.natAbs:Int))/\w'.cell? ⟨w2.heap.size,0,T⟩=Y (.bool (decide (b<0)))/\w'.cell? ⟨w2.heap.size,2,T⟩=Y (U jG (b.natAbs:Int))) (go_keep)
  ((go_at_call 134;rw[Aa y];refine(FY _ _ _ _ ?_ ?_ ?_ ?_).mono ?_;omega;omega;exact v;exact x;rintro e F ⟨rfl,h⟩;have z:=(Ah.after (w:=j.drew) ⟨d.out⟩ h NLN).cell 0;have A:=(Ah.after (w:=j.drew) ⟨d.out⟩ h NLN).cell 2;have B:=(Ah.after (w:=j.drew) ⟨g.out⟩ h NLN).cell 0;have C:=(Ah.after (w:=j.drew) ⟨g.out⟩ h NLN).cell 2;simp at z A B C))
 all_goals
  rw[Aa u];generalize r:Nc (a.tmod b)=f;have D:=Ab (show Bz 5 a b=f by rw[<-r,Bz];simp[Aez,h0]);clear r q d1 d2 c0 c1 c2;go_wp2
  go_ret2
  exact⟨II (Aa D).symm,o.drew.trans (h.mono o.size)⟩
theorem Tf (op:Int)(c:FJ a)(d:FJ b):
  Calls jL 125 #[U V op,U V a,U V b] w fun e w'=>e=jF (jJ #[U V (Bz op a b).1,U V (Bz op a b).2])/\An w w':=by
 by_cases h1:op=1
 ·subst h1;exact AeB c d
 by_cases f:op=2
 ·subst f;exact AeC c d
 by_cases g:op=3
 ·subst g;exact AeD c d
 by_cases h:op=4
 ·subst h;by_cases h0:b=0
  ·exact Ack c d h0
  ·exact AeF c d h0
 by_cases h5:op=5
 ·subst h5;by_cases h0:b=0
  ·exact Acl c d h0
  ·exact AeG c d h0
 exact AeE c d op h1 f g h h5
end
theorem Aa3 (a:Option Addr)(n c:Nat)(ss:List ByteArray)(i:Option Addr)(n' c':Nat)(tt:List ByteArray)(w:Z)(h:AJ w a n c ss)(h':AJ w i n' c' tt):
  Calls jL 127 #[X a n c,X i n' c'] w fun e w'=>PH w ss tt e w':=by
 cases b:AR ss
 ·have d:=Ab (show DB ss tt=[] by simp[DB,b]);go_enter func127,ntmps127
  go_wp2_with fail
  refine(AH _ _ _ _ _ h).mono ?_;rintro e f ⟨rfl,rfl⟩;rw[b];go_wp2
  go_ret
  exact Pf (Aa d) BRN
 ·cases g:AR tt
  ·have d:=Ab (show DB ss tt=[] by simp[DB,g]);go_enter func127,ntmps127
   go_wp2_with fail
   refine(AH _ _ _ _ _ h).mono ?_;rintro e f ⟨rfl,rfl⟩;rw[b];go_wp2_with fail
   refine(AH _ _ _ _ _ h').mono ?_;rintro e f ⟨rfl,rfl⟩;rw[g];go_wp2
   go_ret
   exact Pf (Aa d) BRN
  ·have l:=(LM b).1;have d:=Ab (show DB ss tt=ED ss tt R by simp[DB,b,g]);go_enter func127,ntmps127
   go_wp2_with fail
   refine(AH _ _ _ _ _ h).mono ?_;rintro e f ⟨rfl,rfl⟩;rw[b];go_wp2_with fail
   refine(AH _ _ _ _ _ h').mono ?_;rintro e f ⟨rfl,rfl⟩;rw[g];go_wp2_with fail
   refine(LN _ _ _ _ _ _ _ _ _ _ h h' (by have:=h.len;omega)).mono ?_;rintro e f ⟨x,cx,rfl,j,k⟩;go_wp2
   go_ret
   unfold PH;rw[Aa d];exact⟨x,cx,rfl,j,k⟩
theorem YA (a:Option Addr)(n c:Nat)(ss:List ByteArray)(i:Option Addr)(n' c':Nat)(tt:List ByteArray)(w:Z)(h:AJ w a n c ss)(h':AJ w i n' c' tt):
  Calls jL 128 #[X a n c,X i n' c'] w fun e w'=>MH w ss tt e w':=by
 cases b:AR ss
 ·have d:=Ab (show Cb ss tt=[] by simp[Cb,b]);go_enter func128,ntmps128
  go_wp2_with fail
  refine(AH _ _ _ _ _ h).mono ?_;rintro e f ⟨rfl,rfl⟩;rw[b];go_wp2
  go_ret
  exact MI (Aa d) BRN
 ·cases g:AR tt
  ·have d:=Ab (show Cb ss tt=[] by simp[Cb,g]);go_enter func128,ntmps128
   go_wp2_with fail
   refine(AH _ _ _ _ _ h).mono ?_;rintro e f ⟨rfl,rfl⟩;rw[b];go_wp2_with fail
   refine(AH _ _ _ _ _ h').mono ?_;rintro e f ⟨rfl,rfl⟩;rw[g];go_wp2
   go_ret
   exact MI (Aa d) BRN
  ·have l:=(LM b).1;have d:=Ab (show Cb ss tt=ED ss tt jA by simp[Cb,b,g]);go_enter func128,ntmps128
   go_wp2_with fail
   refine(AH _ _ _ _ _ h).mono ?_;rintro e f ⟨rfl,rfl⟩;rw[b];go_wp2_with fail
   refine(AH _ _ _ _ _ h').mono ?_;rintro e f ⟨rfl,rfl⟩;rw[g];go_wp2_with fail
   refine(LN _ _ _ _ _ _ _ _ _ _ h h' (by have:=h.len;omega)).mono ?_;rintro e f ⟨x,cx,rfl,j,k⟩;go_wp2
   go_ret
   unfold MH;rw[Aa d];exact⟨x,cx,rfl,j,k⟩
end Go.Proofs.YtppafecmccdplaaGreat
