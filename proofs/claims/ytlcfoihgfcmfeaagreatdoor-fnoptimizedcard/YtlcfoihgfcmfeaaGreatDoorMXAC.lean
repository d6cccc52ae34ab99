import Derived.Test.YtlcfoihgfcmfeaaGreatDoorMXAB
import Derived.Test.YtlcfoihgfcmfeaaGreatDoorMXAD
import Derived.Deep.RegionHeld3
import Derived.Lib.ItoaNum
import Derived.Lib.SmallJoins
open Option renaming none->V,some->Z
open List renaming length->Y
open Array renaming size->R
open Go renaming World->jD,Value->jF,Addr->jH,TypeId->jR
open Bool renaming true->jG,false->jI
namespace Go.Proofs.YtlcfoihgfcmfeaaGreatDoor
open Proofs.Tryz
open Value renaming int->T,slice->X,string->jA,iface->jJ,agg->jL
open IntKind renaming i64->U
open World renaming heap->Q,cell?->jE,alloc->jK,ownsRow->jP,drew->jV,frozen?->jY
open Addr renaming mk->jB
open Obj renaming cells->jC
open Ending renaming returned->jN
open Proofs.Tryz renaming prog->jZ
set_option maxHeartbeats 1600000
open Go.RowKit
set_option linter.unusedVariables false
variable{s:M1}{op num:Int}{N:M7}{b c cn n:Nat}{an:M3}{t:jR}{a:jF}{w w':jD}
theorem AeD(p:UInt8->Bool)(a:N9):Lc p a=Y a↔a.all p=jG:=by
 constructor
 .grind[AhR]
 intro h;have e:a.takeWhile p=a:=by induction a<;>simp_all[List.all_cons]
 rw[Lc,e]
theorem Va(h0:0<s.size):CG s=(decide (s.size<=32)&&Zd (s[0].toNat:Int)&&decide (Lc PX (JB s)=s.size)&&!NE (JB s)):=by have h:=KV s 0 h0;grind[Lc,AeD,ND,Zd,CG,PX,KV,ltB,NE,JB]
theorem Pr(h0:s.size=0):CG s=jI:=by grind[ND,CG,JB]
theorem Er(s:M1)(w:jD)(hs:s.size<=1048576):Calls jZ 55 #[jA s] w λe w'=>e=jN (.bool<|CG s)/\Ak w w':=by
 by_cases h0:s.size=0
 .have n:¬ ((0:Int)<(s.size:Int)):=Oa;rw[Pr h0];go_enter func55,ntmps55;go_wp2;go_ret;exact⟨rfl,BRN⟩
 have k:0<s.size:=Oa;have c:=Ab<|Va k;by_cases f:s.size<=32;case neg=>have l:¬ ((s.size:Int)<=32):=Oa;go_enter func55,ntmps55;go_wp2;go_ret;exact⟨Ae<|by rw[Aa c];simp[f],BRN⟩
 have l:(s.size:Int)<=32:=Oa;cases g:Zd (s[0].toNat:Int)
 .have b:=Ab g;go_enter func55,ntmps55;go_wp2_with (go_at_call 106;refine(Dl _ _).mono ?_;rintro e w' ⟨rfl,a⟩;rw[Aa b,a];clear a);go_ret;exact⟨Ae<|by rw[Aa c,Aa b];simp,BRN⟩
 have b:=Ab g;have h:=Ab<|U3 PX s;by_cases i:Lc PX (JB s)=s.size
 .have m:(((Lc PX (JB s):Nat):Int)==(s.size:Int))=jG:=zD.2 Oa;go_enter func55,ntmps55;go_wp2_with (first|(go_at_call 106;refine(Dl _ _).mono ?_;rintro e w' ⟨rfl,a⟩;rw[Aa b,a];clear a)|(go_at_call 107;refine(U9 s 0 _ O3 Oa).mono ?_;rintro e w' ⟨rfl,a⟩;rw[Aa h,a];clear a));refine(Abv s _).mono ?_;rintro e o ⟨rfl,j⟩;cases a:NE (JB s)
  .have d:=Ab a;go_wp2;go_ret;exact⟨Ae<|by rw[Aa c,Aa b,Aa d];simp[f,i],j⟩
  have d:=Ab a;go_wp2;go_ret;exact⟨Ae<|by rw[Aa c,Aa d];simp,j⟩
 have m:(((Lc PX (JB s):Nat):Int)==(s.size:Int))=jI:=zA.2 Oa;go_enter func55,ntmps55;go_wp2_with (first|(go_at_call 106;refine(Dl _ _).mono ?_;rintro e w' ⟨rfl,a⟩;rw[Aa b,a];clear a)|(go_at_call 107;refine(U9 s 0 _ O3 Oa).mono ?_;rintro e w' ⟨rfl,a⟩;rw[Aa h,a];clear a));go_ret;exact⟨Ae<|by rw[Aa c];simp[i],BRN⟩
theorem Ek(s:M1)(w:jD)(hs:s.size<=1048576):Calls jZ 113 #[jA s] w λe w'=>e=jN (.bool<|CG s)/\w'=w:=by
 by_cases h0:s.size=0
 .rw[Pr h0];have he:=In h0;subst he;go_enter func113,ntmps113;go_wp2;go_ret;exact⟨rfl,rfl⟩
 have j:0<s.size:=Oa;have m:=DX h0;have c:=Ab<|Va j;by_cases g:s.size<=32;case neg=>have k:¬ ((s.size:Int)<=32):=Oa;go_enter func113,ntmps113;go_wp2;go_ret;exact⟨Ae<|by rw[Aa c];simp[g],rfl⟩
 have k:(s.size:Int)<=32:=Oa;cases d:Zd (s[0].toNat:Int)
 .have b:=Ab d;clear d;go_enter func113,ntmps113;go_wp2_with (go_at_call 154;refine(DV _ _).mono ?_;rintro e w' ⟨rfl,a⟩;rw[Aa b,a];clear a);go_ret;exact⟨Ae<|by rw[Aa c,Aa b];simp,rfl⟩
 have b:=Ab d;clear d;by_cases h:Lc PX (JB s)=s.size
 .have l:(((Lc PX (JB s):Nat):Int)==(s.size:Int))=jG:=zD.2 Oa;go_enter func113,ntmps113;go_wp2_with (first|(go_at_call 154;refine(DV _ _).mono ?_;rintro e w' ⟨rfl,a⟩;rw[Aa b,a];clear a)|(go_at_call 155;refine(Ze s _ O3).mono ?_;rintro e w' ⟨rfl,a⟩;rw[a];clear a));refine(Abw s _).mono ?_;rintro e n ⟨rfl,i⟩;rw[i];clear i;cases a:NE (JB s)
  .have f:=Ab a;clear a;go_wp2;go_ret;exact⟨Ae<|by rw[Aa c,Aa b,Aa f];simp[g,h],rfl⟩
  have f:=Ab a;clear a;go_wp2;go_ret;exact⟨Ae<|by rw[Aa c,Aa f];simp,rfl⟩
 have l:(((Lc PX (JB s):Nat):Int)==(s.size:Int))=jI:=zA.2 Oa;go_enter func113,ntmps113;go_wp2_with (first|(go_at_call 154;refine(DV _ _).mono ?_;rintro e w' ⟨rfl,a⟩;rw[Aa b,a];clear a)|(go_at_call 155;refine(Ze s _ O3).mono ?_;rintro e w' ⟨rfl,a⟩;rw[a];clear a));go_ret;exact⟨Ae<|by rw[Aa c];simp[h],rfl⟩
theorem Me(s:M1):BM s=(decide (s.size<=32)&&Lk s.data.toList):=rfl
theorem Rw(s:M1):BM s=(decide (s.size=0)||vnB s):=by
 rw[Me,vnB];by_cases h:s.size=0
 .have e:=In h;subst e;rfl
 grind
theorem NG(s:M1)(w:jD)(hs:s.size<=1048576):Calls jZ 105 #[jA s] w λe w'=>e=jN (.bool<|BM s)/\w'=w:=by
 by_cases h0:s.size=0
 .have e:=In h0;subst e;go_enter func105,ntmps105;go_wp2;go_ret;exact⟨rfl,rfl⟩
 have c:=DX h0;have b:=Ab (show BM s=vnB s by rw[Rw,za h0,Bool.false_or]);go_enter func105,ntmps105;go_wp2_with (go_at_call 75;refine(DC _ _ O3).mono ?_;rintro e w' ⟨rfl,a⟩;rw[a];clear a);go_ret;exact⟨Ae (Aa b).symm,rfl⟩
theorem SE(op:Int)(w:jD):Calls jZ 104 #[T U op] w λe w'=>e=jN (T U<|Ci op)/\w'=w:=by go_enter func104,ntmps104;go_wp2;all_goals go_ret;refine⟨MU ?_,rfl⟩;unfold Ci;simp_all;try omega
set_option maxRecDepth 100000
set_option maxHeartbeats 3200000
theorem Cp{c d f g:jF}(R:Ah w b #[a,c,d,f,g] t):jE w (jB b 0 V)=Z a/\jE w (jB b 1 V)=Z c/\jE w (jB b 2 V)=Z d/\jE w (jB b 3 V)=Z f/\jE w (jB b 4 V)=Z g/\∀j,jY w (jB b j V)=jI:=⟨by simpa using R.cell 0,by simpa using R.cell 1,by simpa using R.cell 2,by simpa using R.cell 3,by simpa using R.cell 4,λj=>R.frozen j⟩
theorem Am.drew'{a:M3}{n:Nat}{ss:M6}(h:Am w a n c ss):Am (jV w) a n c ss:=⟨h.len,h.cap,h.aH,h.bE,h.cells⟩
theorem Ds(s:M1):s.toList=[]↔s.size=0:=by rw[z9,<-List.length_eq_zero_iff];simp_all
def ndV(op num:Int)(text:M1)(an:M3)(nn cn:Nat)(ak:M3)(nk ck:Nat):jF:=jL #[T U op,T U num,jA text,X an nn cn,X ak nk ck]
def IX(ty:Bool)(x:Nd):Bool:=(decide ((Y x.aC:Int)=Ci x.op)&&(if x.op=1 then (ty||decide (0<=x.num))&&decide (x.text.size=0)&&decide (Y x.aE=0)else if x.op=2 then BM x.text&&decide (x.num=0)&&decide (Y x.aE=0)else if x.op=3 then decide (x.num=0\/x.num=1)&&decide (x.text.size=0)&&decide (Y x.aE=0)else if x.op=4 then Ax x.aE&&decide (x.num=0)&&decide (x.text.size=0)else if x.op=5 then !ty&&(CG x.text&&decide (x.num=0)&&decide (Y x.aE=0))else if x.op=6 then ty&&(decide (0<=x.num/\x.num<=5)&&decide (x.text.size=0)&&decide (Y x.aE=0))else if x.op=7 then ty&&(decide (0<=x.num/\x.num<600)&&decide (x.text.size=0)&&decide (Y x.aE=0))else decide (x.num=0)&&decide (x.text.size=0)&&decide (Y x.aE=0)))
theorem AeE(x:Nd):IX jI x=By x:=by unfold IX By;grind
theorem MK(ty:Bool)(x:Nd)(an:M3)(nn cn:Nat)(r:M3)(i s:Nat)(w:jD)(C:Am w an nn cn x.aE)(E:i=Y x.aC)(hs:x.text.size<=1048576)(ae:i<=1048576):Calls jZ 54 #[ndV x.op x.num x.text an nn cn r i s,.bool ty] w λe w'=>e=jN (.bool<|IX ty x)/\Ak w w':=by
 have F:=C.len;obtain⟨op,num,text,m,G⟩:=x;simp only at C E hs F|-;have H:=Ah.new w #[T U op,T U num,jA text,X an nn cn,X r i s] 112;have D:=Ar w<|CW op num text an nn cn r i s;have W:R (Q<|jK w<|CW op num text an nn cn r i s)=R (Q w)+1:=Oz;have aa:=Ab F;have ab:=Ab E;clear F E;have a:=Ab<|show IX ty ⟨op,num,text,m,G⟩=(decide ((Y G:Int)=Ci op)&&(if op=1 then (ty||decide (0<=num))&&decide (text.size=0)&&decide (Y m=0)else if op=2 then BM text&&decide (num=0)&&decide (Y m=0)else if op=3 then decide (num=0\/num=1)&&decide (text.size=0)&&decide (Y m=0)else if op=4 then Ax m&&decide (num=0)&&decide (text.size=0)else if op=5 then !ty&&(CG text&&decide (num=0)&&decide (Y m=0))else if op=6 then ty&&(decide (0<=num/\num<=5)&&decide (text.size=0)&&decide (Y m=0))else if op=7 then ty&&(decide (0<=num/\num<600)&&decide (text.size=0)&&decide (Y m=0))else decide (num=0)&&decide (text.size=0)&&decide (Y m=0)))from rfl;rw[<-Aa ab,<-Aa aa]at a;generalize IX ty ⟨op,num,text,m,G⟩=af at a|-;unfold ndV;go_enter func54,ntmps54;go_wp2_with fail;obtain⟨c0,c1,c2,c3,c4,c⟩:=Cp H;generalize jK w (CW op num text an nn cn r i s)=u at*;by_cases v:(i:Int)=Ci op;case neg=>have ac:((i:Int)!=Ci op)=jG:=zW.2 v;go_region_held3 (λw'=>jE w' ⟨R<|Q w,4,V⟩=Z (X r i s)/\jE w' ⟨R<|Q w,0,V⟩=Z (T U op)) (go_keep)((go_at_call 104;refine(SE _ _).mono ?_;rintro e ad ⟨rfl,y⟩;rw[y];clear y));all_goals go_wp2;go_ret;exact⟨Ae<|by rw[Aa a,za v];rfl,D.drew⟩
 have ac:((i:Int)!=Ci op)=jI:=by rw[v];simp
 have t:=Ab v;clear v;go_region_held3 (λw'=>jE w' ⟨R<|Q w,4,V⟩=Z (X r i s)/\jE w' ⟨R<|Q w,0,V⟩=Z (T U op)) (go_keep)((go_at_call 104;refine(SE _ _).mono ?_;rintro e ad ⟨rfl,y⟩;rw[y];clear y));have g:Ah (jV u) (R<|Q w) #[T U op,T U num,jA text,X an nn cn,X r i s] 112:=⟨H.out⟩;have b:Ak w<|jV u:=D.drew;have j:Am (jV u) an nn cn m:=(C.below D NLN).drew';have z1:R (Q<|jV u)=R (Q w)+1:=W;clear H D c0 c1 c2 c3 c4 c C W;generalize jV u=I at g b j z1|-;have k:=g.alloc<|jC #[T U op,T U 0,jA ⟨#[]⟩,X V 0 0,X V 0 0] 112;have f:=b.alloc Oa<|jC #[T U op,T U 0,jA ⟨#[]⟩,X V 0 0,X V 0 0] 112;have l:=j.below (Ar I<|jC #[T U op,T U 0,jA ⟨#[]⟩,X V 0 0,X V 0 0] 112) NLN;have h:=Ah.new I #[T U op,T U 0,jA ⟨#[]⟩,X V 0 0,X V 0 0] 112;rw[z1]at h;have z2:R (Q<|jK I<|jC #[T U op,T U 0,jA ⟨#[]⟩,X V 0 0,X V 0 0] 112)=R (Q w)+2:=by simp[z1]
 obtain⟨c0,c1,c2,c3,c4,c⟩:=Cp g;have ag:=Ds text;by_cases J:op=1
 .subst J;have a:=Ab ((Aa a).trans<|by rw[zc<|Aa t,K1 rfl,zx]);cases ty;all_goals go_wp2
  all_goals go_ret;refine⟨Ae ?_,b.alloc Oa _⟩;rw[Aa a];have o:((nn:Int)==0)=decide (nn=0):=P7;clear a g k h b f j l c0 c1 c2 c3 c4 c;simp_all;try omega
 by_cases o2:op=2
 .subst o2;have a:=Ab ((Aa a).trans<|by rw[zc<|Aa t,K0 Oa,K1 rfl,zx]);cases hq:BM text
  .have d:=Ab hq;clear hq;go_wp2_with (go_at_call 105;refine(NG _ _ hs).mono ?_;rintro e w' ⟨rfl,n⟩;rw[Aa d,n];clear n);all_goals go_ret;refine⟨Ae ?_,b.alloc Oa _⟩;rw[Aa a];have hq:=Aa d;have o:((nn:Int)==0)=decide (nn=0):=P7;clear a g k h b f j l c0 c1 c2 c3 c4 c;simp_all;try omega
  have d:=Ab hq;clear hq;go_wp2_with (go_at_call 105;refine(NG _ _ hs).mono ?_;rintro e w' ⟨rfl,n⟩;rw[Aa d,n];clear n);all_goals go_ret;refine⟨Ae ?_,b.alloc Oa _⟩;rw[Aa a];have hq:=Aa d;have o:((nn:Int)==0)=decide (nn=0):=P7;clear a g k h b f j l c0 c1 c2 c3 c4 c;simp_all;try omega
 by_cases K:op=3
 .subst K;have a:=Ab ((Aa a).trans<|by rw[zc<|Aa t,K0 Oa,K0 Oa,K1 rfl,zx]);go_wp2;all_goals go_ret;refine⟨Ae ?_,b.alloc Oa _⟩;rw[Aa a];have o:((nn:Int)==0)=decide (nn=0):=P7;clear a g k h b f j l c0 c1 c2 c3 c4 c;simp_all;try omega
 by_cases L:op=4
 .subst L;have a:=Ab ((Aa a).trans<|by rw[zc<|Aa t,K0 Oa,K0 Oa,K0 Oa,K1 rfl,zx]);cases hq:Ax m
  .have d:=Ab hq;clear hq;go_wp2_with (go_at_call 76;refine(Ay _ _ _ _ _ l).mono ?_;rintro e w' ⟨rfl,n⟩;rw[Aa d,n];clear n);all_goals go_ret;refine⟨Ae ?_,b.alloc Oa _⟩;rw[Aa a];have hq:=Aa d;have o:((nn:Int)==0)=decide (nn=0):=P7;clear a g k h b f j l c0 c1 c2 c3 c4 c;simp_all;try omega
  have d:=Ab hq;clear hq;go_wp2_with (go_at_call 76;refine(Ay _ _ _ _ _ l).mono ?_;rintro e w' ⟨rfl,n⟩;rw[Aa d,n];clear n);all_goals go_ret;refine⟨Ae ?_,b.alloc Oa _⟩;rw[Aa a];have hq:=Aa d;have o:((nn:Int)==0)=decide (nn=0):=P7;clear a g k h b f j l c0 c1 c2 c3 c4 c;simp_all;try omega
 by_cases M:op=5
 .subst M;have a:=Ab ((Aa a).trans<|by rw[zc<|Aa t,K0 Oa,K0 Oa,K0 Oa,K0 Oa,K1 rfl,zx]);cases ty with|true=>go_wp2;all_goals go_ret;refine⟨Ae ?_,b.alloc Oa _⟩;rw[Aa a];simp|false=>
   cases hq:CG text
   .have d:=Ab hq;clear hq;go_wp2_with fail;refine(Er _ _ hs).mono ?_;rintro e w2 ⟨rfl,q⟩;rw[Aa d];have z:=k.aB q NLN;have A:=h.aB q NLN;have B:=f.trans<|q.mono f.size;clear g k h f j l c0 c1 c2 c3 c4 c q;obtain⟨c0,c1,c2,c3,c4,c⟩:=Cp z;obtain⟨N,d1,d2,d3,d4,O⟩:=Cp A;go_wp2;all_goals go_ret;refine⟨Ae ?_,B⟩;rw[Aa a];have hq:=Aa d;have o:((nn:Int)==0)=decide (nn=0):=P7;clear a z A B b c0 c1 c2 c3 c4 c N d1 d2 d3 d4 O;simp_all;try omega
   have d:=Ab hq;clear hq;go_wp2_with fail;refine(Er _ _ hs).mono ?_;rintro e w2 ⟨rfl,q⟩;rw[Aa d];have z:=k.aB q NLN;have A:=h.aB q NLN;have B:=f.trans<|q.mono f.size;clear g k h f j l c0 c1 c2 c3 c4 c q;obtain⟨c0,c1,c2,c3,c4,c⟩:=Cp z;obtain⟨N,d1,d2,d3,d4,O⟩:=Cp A;go_wp2;all_goals go_ret;refine⟨Ae ?_,B.setCell (p:=⟨R (Q w)+1,2,V⟩) (Oa:R (Q w)<=R (Q w)+1) _⟩;rw[Aa a];have hq:=Aa d;have o:((nn:Int)==0)=decide (nn=0):=P7;clear a z A B b c0 c1 c2 c3 c4 c N d1 d2 d3 d4 O;simp_all;try omega
 by_cases P:op=6
 .subst P;have a:=Ab ((Aa a).trans<|by rw[zc<|Aa t,K0 Oa,K0 Oa,K0 Oa,K0 Oa,K0 Oa,K1 rfl,zx]);cases ty;all_goals go_wp2
  all_goals go_ret;refine⟨Ae ?_,b.alloc Oa _⟩;rw[Aa a];have o:((nn:Int)==0)=decide (nn=0):=P7;clear a g k h b f j l c0 c1 c2 c3 c4 c;simp_all;try omega
 by_cases S:op=7
 .subst S;have a:=Ab ((Aa a).trans<|by rw[zc<|Aa t,K0 Oa,K0 Oa,K0 Oa,K0 Oa,K0 Oa,K0 Oa,K1 rfl,zx]);cases ty;all_goals go_wp2
  all_goals go_ret;refine⟨Ae ?_,b.alloc Oa _⟩;rw[Aa a];have o:((nn:Int)==0)=decide (nn=0):=P7;clear a g k h b f j l c0 c1 c2 c3 c4 c;simp_all;try omega
 have a:=Ab ((Aa a).trans<|by rw[zc<|Aa t,K0 J,K0 o2,K0 K,K0 L,K0 M,K0 P,K0 S,zx]);have ah:=zA.2 J;have ai:=zA.2 o2;have aj:=zA.2 K;have ak:=zA.2 L;have al:=zA.2 M;have ao:=zA.2 P;have ap:=zA.2 S;go_wp2;all_goals go_ret;refine⟨Ae ?_,b.alloc Oa _⟩;rw[Aa a];have o:((nn:Int)==0)=decide (nn=0):=P7;clear a g k h b f j l c0 c1 c2 c3 c4 c;simp_all;try omega
theorem Wq(x:Nd)(an:M3)(nn cn:Nat)(b:M3)(a c:Nat)(w:jD)(d:Am w an nn cn x.aE)(f:a=Y x.aC)(hs:x.text.size<=1048576)(g:a<=1048576):Calls jZ 54 #[ndV x.op x.num x.text an nn cn b a c,.bool jI] w λe w'=>e=jN (.bool<|By x)/\Ak w w':=by grind[AeE,MK]
def wfB(x:Nd):Bool:=if x.op=1 then decide (0<=x.num)&&decide (x.text.size=0)&&decide (Y x.aE=0)else if x.op=2 then BM x.text&&decide (x.num=0)&&decide (Y x.aE=0)else if x.op=3 then decide (x.num=0\/x.num=1)&&decide (x.text.size=0)&&decide (Y x.aE=0)else if x.op=4 then Ax x.aE&&decide (x.num=0)&&decide (x.text.size=0)else if x.op=5 then CG x.text&&decide (x.num=0)&&decide (Y x.aE=0)else if x.op=6\/x.op=7 then jI else decide (x.num=0)&&decide (x.text.size=0)&&decide (Y x.aE=0)
theorem QH(x:Nd):By x=(decide ((Y x.aC:Int)=Ci x.op)&&wfB x):=rfl
theorem ML(x:Nd)(an:M3)(nn cn:Nat)(l:M3)(m n:Nat)(w:jD)(o:Am w an nn cn x.aE)(hs:x.text.size<=1048576):Calls jZ 65 #[ndV x.op x.num x.text an nn cn l m n] w λe w'=>e=jN (.bool<|wfB x)/\Ak w w':=by
 have q:=o.len;obtain⟨op,num,text,i,B⟩:=x;simp only at o hs q|-;have r:=Ah.new w #[T U op,T U num,jA text,X an nn cn,X l m n] 112;have s:=Ar w<|CW op num text an nn cn l m n;have C:=o.below s NLN;have F:=Ab q;clear q;have a:=Ab<|show wfB ⟨op,num,text,i,B⟩=(if op=1 then decide (0<=num)&&decide (text.size=0)&&decide (Y i=0)else if op=2 then BM text&&decide (num=0)&&decide (Y i=0)else if op=3 then decide (num=0\/num=1)&&decide (text.size=0)&&decide (Y i=0)else if op=4 then Ax i&&decide (num=0)&&decide (text.size=0)else if op=5 then CG text&&decide (num=0)&&decide (Y i=0)else if op=6\/op=7 then jI else decide (num=0)&&decide (text.size=0)&&decide (Y i=0))from rfl;rw[<-Aa F]at a;generalize wfB ⟨op,num,text,i,B⟩=G at a|-;unfold ndV;have H:=Ds text;obtain⟨c0,c1,c2,c3,c4,f⟩:=Cp r;go_enter func65,ntmps65;go_wp2_with fail;generalize jK w (CW op num text an nn cn l m n)=p at*;go_region;have g:Ah (jV p) (R<|Q w) #[T U op,T U num,jA text,X an nn cn,X l m n] 112:=⟨r.out⟩;have b:Ak w<|jV p:=s.drew;have d:Am (jV p) an nn cn i:=C.drew';clear r s C c0 c1 c2 c3 c4 f o;generalize jV p=I at g b d|-;obtain⟨c0,c1,c2,c3,c4,f⟩:=Cp g;by_cases t:op=1
 .subst t;have a:=Ab ((Aa a).trans<|by rw[K1 rfl]);go_wp2;all_goals go_ret;refine⟨Ae ?_,b⟩;rw[Aa a];have j:text.toList.isEmpty=decide (text.size=0):=O5;have k:((nn:Int)==0)=decide (nn=0):=P7;clear a g b d c0 c1 c2 c3 c4 f;simp_all;try omega
 by_cases o2:op=2
 .subst o2;have a:=Ab ((Aa a).trans<|by rw[K0 Oa,K1 rfl]);cases hq:BM text
  .have c:=Ab hq;clear hq;go_wp2_with (go_at_call 112;refine(Ih _ _ O3).mono ?_;rintro e w2 ⟨rfl,h⟩;rw[<-Me,Aa c,h];clear h);all_goals go_ret;refine⟨Ae ?_,b⟩;rw[Aa a];have hq:=Aa c;have j:text.toList.isEmpty=decide (text.size=0):=O5;have k:((nn:Int)==0)=decide (nn=0):=P7;clear a g b d c0 c1 c2 c3 c4 f;simp_all;try omega
  have c:=Ab hq;clear hq;go_wp2_with (go_at_call 112;refine(Ih _ _ O3).mono ?_;rintro e w2 ⟨rfl,h⟩;rw[<-Me,Aa c,h];clear h);all_goals go_ret;refine⟨Ae ?_,b⟩;rw[Aa a];have hq:=Aa c;have j:text.toList.isEmpty=decide (text.size=0):=O5;have k:((nn:Int)==0)=decide (nn=0):=P7;clear a g b d c0 c1 c2 c3 c4 f;simp_all;try omega
 by_cases u:op=3
 .subst u;have a:=Ab ((Aa a).trans<|by rw[K0 Oa,K0 Oa,K1 rfl]);go_wp2;all_goals go_ret;refine⟨Ae ?_,b⟩;rw[Aa a];have j:text.toList.isEmpty=decide (text.size=0):=O5;have k:((nn:Int)==0)=decide (nn=0):=P7;clear a g b d c0 c1 c2 c3 c4 f;simp_all;try omega
 by_cases v:op=4
 .subst v;have a:=Ab ((Aa a).trans<|by rw[K0 Oa,K0 Oa,K0 Oa,K1 rfl]);cases hq:Ax i
  .have c:=Ab hq;clear hq;go_wp2_with (go_at_call 69;refine(AA _ _ _ _ _ d).mono ?_;rintro e w2 ⟨rfl,y⟩;rw[Aa c];have z:=b.trans<|y.mono b.size);all_goals go_ret;refine⟨Ae ?_,z⟩;rw[Aa a];have hq:=Aa c;have j:text.toList.isEmpty=decide (text.size=0):=O5;have k:((nn:Int)==0)=decide (nn=0):=P7;clear a g b d c0 c1 c2 c3 c4 f;simp_all;try omega
  have c:=Ab hq;clear hq;go_wp2_with (go_at_call 69;refine(AA _ _ _ _ _ d).mono ?_;rintro e w2 ⟨rfl,y⟩;rw[Aa c];have z:=b.trans<|y.mono b.size);all_goals go_ret;refine⟨Ae ?_,z⟩;rw[Aa a];have hq:=Aa c;have j:text.toList.isEmpty=decide (text.size=0):=O5;have k:((nn:Int)==0)=decide (nn=0):=P7;clear a g b d c0 c1 c2 c3 c4 f;simp_all;try omega
 by_cases A:op=5
 .subst A;have a:=Ab ((Aa a).trans<|by rw[K0 Oa,K0 Oa,K0 Oa,K0 Oa,K1 rfl]);cases hq:CG text
  .have c:=Ab hq;clear hq;go_wp2_with (go_at_call 113;refine(Ek _ _ hs).mono ?_;rintro e w2 ⟨rfl,h⟩;rw[Aa c,h];clear h);all_goals go_ret;refine⟨Ae ?_,b⟩;rw[Aa a];have hq:=Aa c;have j:text.toList.isEmpty=decide (text.size=0):=O5;have k:((nn:Int)==0)=decide (nn=0):=P7;clear a g b d c0 c1 c2 c3 c4 f;simp_all;try omega
  have c:=Ab hq;clear hq;go_wp2_with (go_at_call 113;refine(Ek _ _ hs).mono ?_;rintro e w2 ⟨rfl,h⟩;rw[Aa c,h];clear h);all_goals go_ret;refine⟨Ae ?_,b⟩;rw[Aa a];have hq:=Aa c;have j:text.toList.isEmpty=decide (text.size=0):=O5;have k:((nn:Int)==0)=decide (nn=0):=P7;clear a g b d c0 c1 c2 c3 c4 f;simp_all;try omega
 by_cases D:op=6
 .subst D;have a:=Ab ((Aa a).trans<|by rw[K0 Oa,K0 Oa,K0 Oa,K0 Oa,K0 Oa,K1 Oa]);go_wp2;all_goals go_ret;refine⟨Ae ?_,b⟩;rw[Aa a];have j:text.toList.isEmpty=decide (text.size=0):=O5;have k:((nn:Int)==0)=decide (nn=0):=P7;clear a g b d c0 c1 c2 c3 c4 f;simp_all;try omega
 by_cases E:op=7
 .subst E;have a:=Ab ((Aa a).trans<|by rw[K0 Oa,K0 Oa,K0 Oa,K0 Oa,K0 Oa,K1 Oa]);go_wp2;all_goals go_ret;refine⟨Ae ?_,b⟩;rw[Aa a];have j:text.toList.isEmpty=decide (text.size=0):=O5;have k:((nn:Int)==0)=decide (nn=0):=P7;clear a g b d c0 c1 c2 c3 c4 f;simp_all;try omega
 have a:=Ab ((Aa a).trans<|by rw[K0 t,K0 o2,K0 u,K0 v,K0 A,K0 Oa]);have J:=zA.2 t;have K:=zA.2 o2;have L:=zA.2 u;have M:=zA.2 v;have N:=zA.2 A;have O:=zA.2 D;have P:=zA.2 E;go_wp2;all_goals go_ret;refine⟨Ae ?_,b⟩;rw[Aa a];have j:text.toList.isEmpty=decide (text.size=0):=O5;have k:((nn:Int)==0)=decide (nn=0):=P7;clear a g b d c0 c1 c2 c3 c4 f;simp_all;try omega
theorem Cb{c d f:jF}(R:Ah w b #[a,c,d,f] t):jE w (jB b 0 V)=Z a/\jE w (jB b 1 V)=Z c/\jE w (jB b 2 V)=Z d/\jE w (jB b 3 V)=Z f/\∀j,jY w (jB b j V)=jI:=⟨by simpa using R.cell 0,by simpa using R.cell 1,by simpa using R.cell 2,by simpa using R.cell 3,λj=>R.frozen j⟩
def stV(s:St):jF:=jL #[T U s.aF,jA s.name,T U s.cond,T U s.aD]
theorem TE(s:St)(w:jD)(hs:s.name.size<=1048576):Calls jZ 110 #[stV s] w λe w'=>e=jN (.bool<|DY s)/\Ak w w':=by
 obtain⟨a,name,cond,f⟩:=s;simp only at hs;have g:=Ar w<|EO a name cond f;have b:=Ab<|show DY ⟨a,name,cond,f⟩=(if a=1 then CG name&&decide (f=-1)else if a=2 then decide (name.size=0)else if a=3 then decide (name.size=0)&&decide (cond=-1)else jI)from rfl;generalize DY ⟨a,name,cond,f⟩=l at b|-;unfold stV;have m:=Ds name;by_cases h:a=1
 .subst h;cases hq:CG name
  .have c:=Ab hq;clear hq;go_enter func110,ntmps110;go_wp2_with (go_at_call 113;refine(Ek _ _ hs).mono ?_;rintro e w2 ⟨rfl,d⟩;rw[Aa c,d];clear d);all_goals go_ret;refine⟨Ae ?_,Ar w _⟩;rw[Aa b,Aa c];simp
  have c:=Ab hq;clear hq;go_enter func110,ntmps110;go_wp2_with (go_at_call 113;refine(Ek _ _ hs).mono ?_;rintro e w2 ⟨rfl,d⟩;rw[Aa c,d];clear d);all_goals go_ret;refine⟨Ae ?_,Ar w _⟩;rw[Aa b,Aa c];simp;try rfl
 by_cases i:a=2
 .subst i;go_enter func110,ntmps110;go_wp2;all_goals
   go_ret;refine⟨Ae ?_,Ar w _⟩;rw[Aa b];have k:name.toList.isEmpty=decide (name.size=0):=by rw[zM,zy,decide_eq_true_iff];exact Ds name
   clear b g;simp_all
 by_cases j:a=3
 .subst j;go_enter func110,ntmps110;go_wp2;all_goals
   go_ret;refine⟨Ae ?_,Ar w _⟩;rw[Aa b];have k:name.toList.isEmpty=decide (name.size=0):=by rw[zM,zy,decide_eq_true_iff];exact Ds name
   have n:(cond==-1)=decide (cond=-1):=rfl;clear b g;simp_all
 have e1:=zA.2 h;have e2:=zA.2 i;have e3:=zA.2 j;go_enter func110,ntmps110;go_wp2;go_ret;exact⟨Ae<|by rw[Aa b,K0 h,K0 i,K0 j],g⟩
structure Lr(w:jD)(a:M3)(n c:Nat)(L:Nz):Prop where
 len:Y L=n
 aH:n<=1048576
 bE:∀s∈L,s.name.size<=1048576
 cells:∀j,(h:j<Y L)->∃b off,a=Z (jB b off V)/\b<R (Q w)/\jE w ⟨b,off+j*4,V⟩=Z (T U L[j].aF)/\jE w ⟨b,off+j*4+1,V⟩=Z (jA L[j].name)/\jE w ⟨b,off+j*4+2,V⟩=Z (T U L[j].cond)/\jE w ⟨b,off+j*4+3,V⟩=Z (T U L[j].aD)
theorem Lr.below{B:Nat}{a:M3}{n c:Nat}{L:Nz}(h:Lr w a n c L)(d:Below B w w')(hB:R (Q w)<=B):Lr w' a n c L:=⟨h.len,h.aH,h.bE,λj i=>by obtain⟨b,f,k,l,c0,c1,c2,c3⟩:=h.cells j i;have g:b<B:=Oa;exact⟨b,f,k,zG l d.size,(d.cell (p:=⟨b,f+j*4,V⟩) g).trans c0,(d.cell (p:=⟨b,f+j*4+1,V⟩) g).trans c1,(d.cell (p:=⟨b,f+j*4+2,V⟩) g).trans c2,(d.cell (p:=⟨b,f+j*4+3,V⟩) g).trans c3⟩⟩
def Wr(L:Nz)(j:Nat)(h:j<Y L):Bool:=DY L[j]&&(decide (L[j].aF=3)==decide (j+1=Y L))
theorem Mf:∀(L:Nz),Br L=jG↔∀j,(h:j<Y L)->Wr L j h=jG
 |[]=>by simp[Br]|s::r=>by
  rw[Br,zF,Mf r];have e:r.isEmpty=decide (0+1=Y (s::r)):=by cases r<;>simp
  constructor
  .rintro⟨h1,h2⟩j a;cases j with|zero=>rw[e]at h1;exact h1|succ j=>have:=h2 j (by simpa using a);rw[Wr]at this|-;simp only[yH,List.length_cons]at this|-;rw[show decide (j+1+1=Y r+1)=decide (j+1=Y r)by rw[decide_eq_decide];omega];exact this
  intro h;refine⟨by rw[e];exact h 0 Oz,λj a=>?_⟩;have:=h (j+1) (by simpa using a);rw[Wr]at this|-;simp only[yH,List.length_cons]at this;rw[show decide (j+1+1=Y r+1)=decide (j+1=Y r)by rw[decide_eq_decide];omega]at this;exact this
theorem Cn(s:St)(w:jD)(hs:s.name.size<=1048576):Calls jZ 110 #[jL #[T U s.aF,jA s.name,T U s.cond,T U s.aD]] w λe w'=>e=jN (.bool<|DY s)/\Ak w w':=TE s w hs
theorem EC(a:M3)(n c:Nat)(L:Nz)(w:jD)(h:Lr w a n c L):Calls jZ 61 #[X a n c] w λe w'=>e=jN (.bool<|decide (1<=n/\n<=600)&&Br L)/\Ak w w':=by
 have ag:=h.aH;by_cases h1:n<1
 .have W:(n:Int)<1:=Oa;go_enter func61,ntmps61;go_wp2;go_ret;exact⟨Ae Od,BRN⟩
 have W:¬ ((n:Int)<1):=Oa;by_cases h6:600<n
 .have aa:(600:Int)<(n:Int):=Oa;go_enter func61,ntmps61;go_wp2;go_ret;exact⟨Ae Od,BRN⟩
 have aa:¬ ((600:Int)<(n:Int)):=Oa;have v:=Ab<|show decide (1<=n/\n<=600)=jG from zc ⟨Oa,Oa⟩;have N:=h.len;have J:=Ab N;clear N;go_enter func61,ntmps61;go_wp2_with fail;go_loopw[16] (λi wr=>∃ (k:Nat),k<=n/\i=T U k/\Ak w wr/\∀j,(t:j<Y L)->j<k->Wr L j t=jG) (λi _=>n-(intOf i).toNat);case atStart=>exact⟨0,zH _,rfl,BRN,λj t ab=>Oa⟩
 obtain⟨k,ab,rfl,H,O⟩:=hrel;have K:=Ab O;clear O;by_cases P:k<n
 .have ah:(k:Int)<(n:Int):=Oa;have D:k<Y L:=by rw[Aa J];exact P
  obtain⟨b,ai,rfl,aj,c0,c1,c2,c3⟩:=(h.below H NLN).cells k D;have q:=h.bE L[k]<|zI D;have r:=Ab (show Wr L k D=(DY L[k]&&(decide (L[k].aF=3)==decide (k+1=n)))by rw[Wr,Aa J]);generalize L[k]=s at c0 c1 c2 c3 q r;have u:=Ah.new wr #[T U s.aF,jA s.name,T U s.cond,T U s.aD] 97;have g:=H.alloc H.size<|EO s.aF s.name s.cond s.aD;have E:=Ab (show Wr L k D=jI->Br L=jI from λe=>by rw[<-Bool.not_eq_true,Mf];intro ac;rw[ac k D]at e;cases e);have S:=Ab (show Wr L k D=jG->∀j,(t:j<Y L)->j<k+1->Wr L j t=jG from λe j t ak=>by
   by_cases ad:j=k
   .subst ad;exact e
   exact Aa K j t Oa);clear K;have I:=Ab P;by_cases kl:k+1=n
  .have ae:((k:Int)==(n:Int)-1)=jG:=zD.2 Oa;have F:=zc kl;have G:=Ab F;clear kl F;by_cases o:s.aF=3
   .have e3:(s.aF==3)=jG:=zD.2 o;have d3:=zc o;have x:=Ab d3;clear o d3;cases d:DY s
    .have p:=Ab (Aa E<|by rw[Aa r,d];rfl);have l:=Ab d;clear d;go_wp2_with (go_at_call 110;refine(Cn s _ q).mono ?_;rintro e w2 ⟨rfl,f⟩;rw[Aa l];have m:=u.aB f NLN;obtain⟨y,z,A,B,C⟩:=Cb m);go_ret;exact⟨Ae G3,g.trans<|f.mono g.size⟩
    have M:=Ab (Aa S<|by rw[Aa r,d,Aa x,Aa G];rfl);have l:=Ab d;clear d;go_wp2_with (go_at_call 110;refine(Cn s _ q).mono ?_;rintro e w2 ⟨rfl,f⟩;rw[Aa l];have m:=u.aB f NLN;obtain⟨y,z,A,B,C⟩:=Cb m);go_roundw;case rel=>exact⟨k+1,Aa I,O0,g.trans<|f.mono g.size,Aa M⟩
    have:=Aa I;simp[intOf];omega
   have e3:(s.aF==3)=jI:=zA.2 o;have d3:=za o;have x:=Ab d3;clear o d3;cases d:DY s
   .have p:=Ab (Aa E<|by rw[Aa r,d];rfl);have l:=Ab d;clear d;go_wp2_with (go_at_call 110;refine(Cn s _ q).mono ?_;rintro e w2 ⟨rfl,f⟩;rw[Aa l];have m:=u.aB f NLN;obtain⟨y,z,A,B,C⟩:=Cb m);go_ret;exact⟨Ae G3,g.trans<|f.mono g.size⟩
   have p:=Ab (Aa E<|by rw[Aa r,d,Aa x,Aa G];rfl);have l:=Ab d;clear d;go_wp2_with (go_at_call 110;refine(Cn s _ q).mono ?_;rintro e w2 ⟨rfl,f⟩;rw[Aa l];have m:=u.aB f NLN;obtain⟨y,z,A,B,C⟩:=Cb m);go_ret;exact⟨Ae G3,g.trans<|f.mono g.size⟩
  have ae:((k:Int)==(n:Int)-1)=jI:=zA.2 Oa;have F:=za kl;have G:=Ab F;clear kl F;by_cases o:s.aF=3
  .have e3:(s.aF==3)=jG:=zD.2 o;have d3:=zc o;have x:=Ab d3;clear o d3;cases d:DY s
   .have p:=Ab (Aa E<|by rw[Aa r,d];rfl);have l:=Ab d;clear d;go_wp2_with (go_at_call 110;refine(Cn s _ q).mono ?_;rintro e w2 ⟨rfl,f⟩;rw[Aa l];have m:=u.aB f NLN;obtain⟨y,z,A,B,C⟩:=Cb m);go_ret;exact⟨Ae G3,g.trans<|f.mono g.size⟩
   have p:=Ab (Aa E<|by rw[Aa r,d,Aa x,Aa G];rfl);have l:=Ab d;clear d;go_wp2_with (go_at_call 110;refine(Cn s _ q).mono ?_;rintro e w2 ⟨rfl,f⟩;rw[Aa l];have m:=u.aB f NLN;obtain⟨y,z,A,B,C⟩:=Cb m);go_ret;exact⟨Ae G3,g.trans<|f.mono g.size⟩
  have e3:(s.aF==3)=jI:=zA.2 o;have d3:=za o;have x:=Ab d3;clear o d3;cases d:DY s
  .have p:=Ab (Aa E<|by rw[Aa r,d];rfl);have l:=Ab d;clear d;go_wp2_with (go_at_call 110;refine(Cn s _ q).mono ?_;rintro e w2 ⟨rfl,f⟩;rw[Aa l];have m:=u.aB f NLN;obtain⟨y,z,A,B,C⟩:=Cb m);go_ret;exact⟨Ae G3,g.trans<|f.mono g.size⟩
  have M:=Ab (Aa S<|by rw[Aa r,d,Aa x,Aa G];rfl);have l:=Ab d;clear d;go_wp2_with (go_at_call 110;refine(Cn s _ q).mono ?_;rintro e w2 ⟨rfl,f⟩;rw[Aa l];have m:=u.aB f NLN;obtain⟨y,z,A,B,C⟩:=Cb m);go_roundw;case rel=>exact⟨k+1,Aa I,O0,g.trans<|f.mono g.size,Aa M⟩
  have:=Aa I;simp[intOf];omega
 have e:k=n:=Oa;subst e;have af:=Ab<|show Br L=jG from(Mf L).2 (λj t=>Aa K j t<|G7<|Aa J);go_wp2;go_ret;exact⟨Ae<|by rw[Aa v,Aa af];rfl,H⟩
theorem GS:(jZ.info? 3).map (λi=>(i.zero,i.size,i.bytes))=Z (Z<|T U 0,1,8):=Ok
def Ap(L:M4):N4:=L.map<|Value.int U
theorem A6(w:jD)(v:jF)(t:jR)(b:Nat)(a:b=R (Q w)):∀j u,([v]:N4)[j]?=Z u->jE (jK w<|jC #[v] t) (((jB b 0 V):jH).add j)=Z u:=λj u h=>by
 subst a;have c:j=0:=by have:=(zL.1 h).1;simp at this;exact this
 subst c;rw[<-h];simp[Addr.add]
theorem Abz(L:Nz)(k:Nat)(h:k<Y L):(L.take<|k+1).flatMap Aj=(L.take k).flatMap Aj++Aj L[k]:=by rw[zY h,List.flatMap_append];simp
theorem Oh:∀(L:Nz),Y (L.flatMap Aj)<=2*Y L
 |[]=>Oz|s::r=>by
  have:=Oh r;have h1:Y (Aj s)<=2:=by unfold Aj;split<;>split<;>simp
  rw[zu,zC,List.length_cons];omega
theorem Ah.grown{cs:Array jF}{row:Wa}(h:Ah w b cs t)(hg:w.grownBy w' row)(a:Z b=row->False):Ah w' b cs t:=⟨(hg.block b h.lt a).trans h.out⟩
theorem Tm(a:M3)(n c:Nat)(L:Nz)(w:jD)(h:Lr w a n c L):Calls jZ 64 #[X a n c] w λe w'=>∃v,e=jN v/\jP w' (R<|Q w) 3 1 v (Y<|L.flatMap Aj) (Ap<|L.flatMap Aj)/\Ak w w':=by
 have ag:=h.aH;have I:=h.len;have J:=Ab I;clear I;obtain⟨i,hi,z,B,C⟩:=info_parts GS;go_enter func64,ntmps64;go_wp2_with fail;go_loopw[3,8] (λv i wr=>∃k:Nat,k<=n/\i=T U k/\jP wr (R<|Q w) 3 1 v (Y<|(L.take k).flatMap Aj) (Ap<|(L.take k).flatMap Aj)/\Ak w wr) (λ_ i _=>n-(intOf i).toNat);case atStart=>exact⟨0,zH _,rfl,G8,BRN⟩
 obtain⟨k,ah,rfl,l,y⟩:=hrel;by_cases K:k<n
 .have ai:(k:Int)<(n:Int):=Oa;have M:k<Y L:=by rw[Aa J];exact K
  obtain⟨b,aj,rfl,ak,c0,c1,c2,c3⟩:=(h.below y NLN).cells k M;have t:=Ab<|Abz L k M;have E:=Oh<|L.take k;rw[zv]at E;have g:=Ab K;generalize L[k]=s at c0 c1 c2 c3 t;generalize (L.take k).flatMap Aj=A at l E t;have al:Y A<=2*1048576:=Oa;have N:=Ah.new wr #[T U s.aF,jA s.name,T U s.cond,T U s.aD] 97;have D:=y.alloc y.size<|EO s.aF s.name s.cond s.aD;have m:=l.alloc<|EO s.aF s.name s.cond s.aD;have z2:R (Q<|jK wr<|EO s.aF s.name s.cond s.aD)=R (Q wr)+1:=Oz;have zb:=y.size;clear E;by_cases j:s.aF=3
  .have e3:(s.aF !=3)=jI:=by rw[j];rfl
   by_cases f:s.aD=-1
   .have F:(s.aD !=-1)=jI:=by rw[f];rfl
    have o:=Ab (show Aj s=[]by rw[Aj,K0 Oa,K0 Oa];rfl);clear j f;go_wp2;go_roundw;case rel=>exact⟨k+1,Aa g,O0,by rw[Aa t,Aa o,List.append_nil];exact m,D⟩
    have:=Aa g;simp[intOf];omega
   have F:(s.aD !=-1)=jG:=zW.2 f;have o:=Ab (show Aj s=[s.aD]by rw[Aj,K0 Oa,K1 f];rfl);clear j f;go_wp2_with (at_builtin;refine J7 _ rfl _ _ 25 rfl (R<|Q w) 3 i (T U 0) 1 8 underlying25 hi z B C rfl Ob _ _ _ rfl (K7 m _) ⟨R (Q wr)+1,0,V⟩ 1 1 [T U s.aD] rfl rfl ?c1 ?c2 ?c3 ?c4 ?c5 ?_);case c1=>exact A6 _ _ _ _ Oz
   case c2=>intro u hu;simp at hu;subst hu;rfl
   case c3=>skip;unfold maxLen;omega
   case c4=>skip;omega
   case c5=>simp;omega
   intro v' G p d _;have r:=(D.alloc Oa<|jC #[T U s.aD] 3).grown d Od λq hq=>(m.lt q hq).1;skip;clear d;go_wp2;go_roundw;case rel=>exact⟨k+1,Aa g,O0,by rw[Aa t,Aa o,Ap,zN,zC];exact p,r⟩
   have:=Aa g;simp[intOf];omega
  have e3:(s.aF !=3)=jG:=zW.2 j;by_cases f:s.aD=-1
  .have F:(s.aD !=-1)=jI:=by rw[f];rfl
   have o:=Ab (show Aj s=[s.cond]by rw[Aj,K1 j,K0 Oa];rfl);clear j f;go_wp2_with (at_builtin;refine J7 _ rfl _ _ 25 rfl (R<|Q w) 3 i (T U 0) 1 8 underlying25 hi z B C rfl Ob _ _ _ rfl (K7 m _) ⟨R (Q wr)+1,0,V⟩ 1 1 [T U s.cond] rfl rfl ?c1 ?c2 ?c3 ?c4 ?c5 ?_);case c1=>exact A6 _ _ _ _ Oz
   case c2=>intro u hu;simp at hu;subst hu;rfl
   case c3=>skip;unfold maxLen;omega
   case c4=>skip;omega
   case c5=>simp;omega
   intro v' G p d _;have r:=(D.alloc Oa<|jC #[T U s.cond] 3).grown d Od λq hq=>(m.lt q hq).1;have H:=(N.alloc<|jC #[T U s.cond] 3).grown d λe=>G7<|(l.lt _ e.symm).2;have O:=r.size;obtain⟨P,S,W,aa,ab⟩:=Cb H;clear d;go_wp2;go_roundw;case rel=>exact⟨k+1,Aa g,O0,by rw[Aa t,Aa o,Ap,zN,zC];exact p,r⟩
   have:=Aa g;simp[intOf];omega
  have F:(s.aD !=-1)=jG:=zW.2 f;have o:=Ab (show Aj s=[s.cond,s.aD]by rw[Aj,K1 j,K1 f];rfl);clear j f;go_wp2_with (at_builtin;refine J7 _ rfl _ _ 25 rfl (R<|Q w) 3 i (T U 0) 1 8 underlying25 hi z B C rfl Ob _ _ _ rfl (K7 m _) ⟨R (Q wr)+1,0,V⟩ 1 1 [T U s.cond] rfl rfl ?c1 ?c2 ?c3 ?c4 ?c5 ?_);case c1=>exact A6 _ _ _ _ Oz
  case c2=>intro u hu;simp at hu;subst hu;rfl
  case c3=>skip;unfold maxLen;omega
  case c4=>skip;omega
  case c5=>simp;omega
  intro v' G p d _;have r:=(D.alloc Oa<|jC #[T U s.cond] 3).grown d Od λq hq=>(m.lt q hq).1;have H:=(N.alloc<|jC #[T U s.cond] 3).grown d λe=>G7<|(l.lt _ e.symm).2;have O:=r.size;obtain⟨P,S,W,aa,ab⟩:=Cb H;obtain⟨x3,ao,ac⟩:=AG p;subst ac;clear d;go_wp2_with (at_builtin;refine J7 _ rfl _ _ 25 rfl (R<|Q w) 3 i (T U 0) 1 8 underlying25 hi z B C rfl Ob _ _ _ rfl (K7 p _) ⟨R<|Q G,0,V⟩ 1 1 [T U s.aD] rfl rfl ?c1 ?c2 ?c3 ?c4 ?c5 ?_);case c1=>exact A6 _ _ _ _ Oz
  case c2=>intro u hu;simp at hu;subst hu;rfl
  case c3=>skip;unfold maxLen;omega
  case c4=>skip;omega
  case c5=>simp;omega
  intro ap aq ad d _;have ae:=(r.alloc Oa<|jC #[T U s.aD] 3).grown d Od λq hq=>(p.lt q hq).1;skip;clear d;go_wp2;go_roundw;case rel=>exact⟨k+1,Aa g,O0,by rw[Aa t,Aa o,Ap,zN,zC];simpa[Ap]using ad,ae⟩
  have:=Aa g;simp[intOf];omega
 have e:k=n:=Oa;subst e;have e2:L.take k=L:=zh (by rw[Aa J];exact NLN);rw[e2]at l;obtain⟨x,ar,af⟩:=AG l;subst af;go_wp2;go_ret;exact⟨_,rfl,l,y⟩
def Agn(w:jD)(b o:Nat)(x:Nd):Prop:=∃an nn cn ak nk ck,jE w (jB b o V)=Z (T U x.op)/\jE w ⟨b,o+1,V⟩=Z (T U x.num)/\jE w ⟨b,o+2,V⟩=Z (jA x.text)/\jE w ⟨b,o+3,V⟩=Z (X an nn cn)/\jE w ⟨b,o+4,V⟩=Z (X ak nk ck)/\Am w an nn cn x.aE/\BN w ak nk ck x.aC
structure GN(w:jD)(a:M3)(n c:Nat)(L:M7):Prop where
 len:Y L=n
 aH:n<=1048576
 bE:∀x∈L,x.text.size<=1048576
 cells:∀j,(h:j<Y L)->∃b off,a=Z (jB b off V)/\b<R (Q w)/\Agn w b (off+j*5) L[j]
theorem Agn.below{w w':jD}{B b o:Nat}{x:Nd}(h:Agn w b o x)(k:b<R (Q w))(a:Below B w w')(hB:R (Q w)<=B):Agn w' b o x:=by obtain⟨an,nn,cn,d,f,g,c0,c1,c2,c3,c4,i,j⟩:=h;have c:b<B:=Oa;exact⟨an,nn,cn,d,f,g,(a.cell (p:=(jB b o V)) c).trans c0,(a.cell (p:=⟨b,o+1,V⟩) c).trans c1,(a.cell (p:=⟨b,o+2,V⟩) c).trans c2,(a.cell (p:=⟨b,o+3,V⟩) c).trans c3,(a.cell (p:=⟨b,o+4,V⟩) c).trans c4,i.below a hB,j.below a hB⟩
theorem GN.below{w w':jD}{B:Nat}{a:M3}{n c:Nat}{L:M7}(h:GN w a n c L)(d:Below B w w')(hB:R (Q w)<=B):GN w' a n c L:=⟨h.len,h.aH,h.bE,λj g=>by obtain⟨b,i,k,f,hc⟩:=h.cells j g;exact⟨b,i,k,zG f d.size,hc.below f d hB⟩⟩
structure Mu(w:jD):Prop where lt:7<R (Q w)cells:∀k,jE w ⟨7,k,V⟩=VX[k]?
theorem Mu.below{B:Nat}(h:Mu w)(a:Below B w w')(hB:R (Q w)<=B):Mu w':=⟨zG h.lt a.size,λk=>(a.cell (p:=⟨7,k,V⟩)<|zG h.lt hB).trans<|h.cells k⟩
theorem JZ{a:jD}{c:M3}{nn d f:Nat}(R:Ah a b #[T U op,T U num,jA s,X an nn cn,X c d f] t)(g:Ak a w'):jE w' (jB b 0 V)=Z (T U op)/\jE w' (jB b 1 V)=Z (T U num)/\jE w' (jB b 2 V)=Z (jA s)/\jE w' (jB b 3 V)=Z (X an nn cn)/\jE w' (jB b 4 V)=Z (X c d f):=by obtain⟨c0,c1,c2,c3,c4,_⟩:=Cp<|R.aB g NLN;exact⟨c0,c1,c2,c3,c4⟩
inductive Ex where|int(i n:Int)|text(i:Int)(s:ByteArray)|bool(i:Int)(b:Bool)|set(i:Int)(a:Option jH)(n c:Nat)(ss:List ByteArray)|name(i:Int)(s:ByteArray)|attr(i n:Int)|lett(i n:Int)|un(i op:Int)(k:Ex)|bin(i op:Int)(l r:Ex)|ite(i:Int)(c t e:Ex)
abbrev M8:=List Ex
abbrev N5:=M2 Ex
def Ex.val:Ex->jF|.int i n=>jJ 195 (jL #[T U i,T U n])|.text i s=>jJ 198 (jL #[T U i,jA s])|.bool i b=>jJ 179 (jL #[T U i,.bool b])|.set i a n c _=>jJ 201 (jL #[T U i,X a n c])|.name i s=>jJ 233 (jL #[T U i,jA s])|.attr i n=>jJ 202 (jL #[T U i,T U n])|.lett i n=>jJ 175 (jL #[T U i,T U n])|.un i op k=>jJ 168 (jL #[T U i,T U op,k.val])|.bin i op l r=>jJ 170 (jL #[T U i,T U op,l.val,r.val])|.ite i c t e=>jJ 207 (jL #[T U i,c.val,t.val,e.val])
def Ex.aL:Ex->Nat|.un _ _ k=>k.aL+1|.bin _ _ l r=>l.aL+r.aL+1|.ite _ c t e=>c.aL+t.aL+e.aL+1|_=>1
def Ex.dX(w:jD):Ex->Prop|.int _ n=>0<=n/\n<=9223372036854775807|.text _ s=>s.size<=32|.bool ..=>True|.set _ a n c ss=>Am w a n c ss/\n<=64/\∀x∈ss,x.size<=32|.name _ s=>s.size<=32|.attr ..=>False|.lett ..=>False|.un _ op k=>(8<=op/\op<=10)/\k.dX w|.bin _ op l r=>(11<=op/\op<=26)/\l.dX w/\r.dX w|.ite _ c t e=>c.dX w/\t.dX w/\e.dX w
inductive Be(N:M7):Nat->Ex->Prop|int{i:Nat}{x:Nd}(h:N[i]?=Z x)(ho:x.op=1)(hk:x.aC=[]):Be N i<|.int i x.num|text{i:Nat}{x:Nd}(h:N[i]?=Z x)(ho:x.op=2)(hk:x.aC=[]):Be N i<|.text i x.text|bool{i:Nat}{x:Nd}(h:N[i]?=Z x)(ho:x.op=3)(hk:x.aC=[]):Be N i<|.bool i<|decide (x.num=1)|set{i:Nat}{x:Nd}(h:N[i]?=Z x)(ho:x.op=4)(hk:x.aC=[])(a:Option jH)(n c:Nat):Be N i<|.set i a n c x.aE|name{i:Nat}{x:Nd}(h:N[i]?=Z x)(ho:x.op=5)(hk:x.aC=[]):Be N i<|.name i x.text|attr{i:Nat}{x:Nd}(h:N[i]?=Z x)(ho:x.op=6)(hk:x.aC=[]):Be N i<|.attr i x.num|lett{i:Nat}{x:Nd}(h:N[i]?=Z x)(ho:x.op=7)(hk:x.aC=[]):Be N i<|.lett i x.num|un{i k:Nat}{x:Nd}{e:Ex}(h:N[i]?=Z x)(ho:8<=x.op/\x.op<=10)(hk:x.aC=[(k:Int)])(hi:k<i)(t:Be N k e):Be N i<|.un i x.op e|bin{i k l:Nat}{x:Nd}{e f:Ex}(h:N[i]?=Z x)(ho:11<=x.op/\x.op<=26)(hk:x.aC=[(k:Int),(l:Int)])(hi:k<i/\l<i)(t:Be N k e)(u:Be N l f):Be N i<|.bin i x.op e f|ite{i k l m:Nat}{x:Nd}{e f g:Ex}(h:N[i]?=Z x)(ho:x.op=27)(hk:x.aC=[(k:Int),(l:Int),(m:Int)])(hi:k<i/\l<i/\m<i)(t:Be N k e)(u:Be N l f)(v:Be N m g):Be N i<|.ite i e f g
theorem Be.lt{i:Nat}{e:Ex}(h:Be N i e):i<Y N:=by cases h<;>exact(zL.1 P0).1
def QV(Es:M8):Nat:=(Es.map Ex.aL).sum
theorem IW{a b:Nat}{A:List (Nat×Nat)}(h:As (N.map Nd.aC) a A b):∀(Es:M8),Y Es=Y A->(∀j,(h1:j<Y A)->(h2:j<Y Es)->Be N A[j].1 Es[j])->a+QV Es=b:=by induction h with|nil a=>grind[z4,QV]|@cons a t b ks A d ht hf H i2=>intro Es D E;match Es,D with
   |e::Es,D=>
     have he:Be N t e:=E 0 Oz Oz;have I:=i2 Es (by simpa using D) λj h1 h2=>E (j+1) (by simpa using h1) Hv;have F:∃x,N[t]?=Z x/\x.aC=Al ks:=by grind
     obtain⟨x,hx,G⟩:=F;have J:a+e.aL=t+1:=by
      have C:∀(B:M8) (w:List Nat),x.aC=w.map (λ(q:Nat)=>(q:Int))->Y B=Y w->(∀j,(h1:j<Y w)->(h2:j<Y B)->Be N w[j] B[j])->a+QV B=t:=by
       intro B w hq K L;have e1:ks.map (λp=>p.1)=w:=by have:=G.symm.trans hq;rw[Al]at this;have h2:=congrArg (List.map Int.toNat) this;simpa[List.map_map,Function.comp_def]using h2
       grind[zZ]
      have o:∀{y:Nd},N[t]?=Z y->y=x:=λh=>Mk<|h.symm.trans hx;have s:x.aC=[]->a=t:=λh0=>by have:=C [] [] (by rw[h0];rfl) rfl (λj h=>K4 h Oz);simpa[QV]using this
      cases he with|int h r d=>rw[s<|o h ▸ d];rfl|text h r d=>rw[s<|o h ▸ d];rfl|bool h r d=>rw[s<|o h ▸ d];rfl|set h r d a n c=>rw[s<|o h ▸ d];rfl|name h r d=>rw[s<|o h ▸ d];rfl|attr h r d=>rw[s<|o h ▸ d];rfl|lett h r d=>rw[s<|o h ▸ d];rfl|@un i k y e h r d hi u=>
        have:=C [e] [k] (by rw[<-o h,d];rfl) rfl (λj h1 h2=>by
         have:j=0:=by simpa using h1
         subst this;exact u);grind[QV,Ex.aL]|@bin i k l y e f h r d hi u v=>have:=C [e,f] [k,l] (by rw[<-o h,d];rfl) rfl (λj h1 h2=>by match j,h1 with|0,_=>exact u|1,_=>exact v);grind[QV,Ex.aL]|@ite i k l m y e f g h r d hi u v z=>have:=C [e,f,g] [k,l,m] (by rw[<-o h,d];rfl) rfl (λj h1 h2=>by match j,h1 with|0,_=>exact u|1,_=>exact v|2,_=>exact z);grind[QV,Ex.aL]
     grind[QV,Ex.aL]
def Bc(n:Int):Int:=if n<2 then 3 else if n<4 then 2 else 4
def Ba(op:Int):M4->Int|[a]=>if op=8/\a=2 then 2 else if op=9/\a=1 then 1 else if op=10/\a=4 then 2 else 0|[a,b]=>if(11<=op/\op<=15)/\a=2/\b=2 then 2 else if(16<=op/\op<=18)/\a=4/\b=4 then 4 else if(op=19\/op=20)/\a=b then 1 else if(op=21\/op=22)/\a=2/\b=2 then 1 else if op=23/\a=3/\b=4 then 1 else if op=24/\a=4/\b=4 then 1 else if(op=25\/op=26)/\a=1/\b=1 then 1 else 0|[a,b,c]=>if a=1/\b=c then b else 0|_=>0
def nz(t:Int):N8:=if t=0 then V else Z t
theorem Qt(n:Int):1<=Bc n/\Bc n<=4:=by grind[Bc]
theorem DO{t a:Int}(h:nz t=Z a):t=a/\a≠0:=by grind[nz]
def An(ts:M4):Ex->N8
 |.int ..=>Z 2|.text ..=>Z 3|.bool ..=>Z 1|.set ..=>Z 4|.name ..=>V|.attr _ n=>Z<|Bc n|.lett _ n=>if 0<=n then ts[n.toNat]?else V|.un _ op k=>match An ts k with|some a=>nz<|Ba op [a]|none=>V
 |.bin _ op l r=>match An ts l with
  |some a=>match An ts r with|some b=>nz<|Ba op [a,b]|none=>V
  |none=>V
 |.ite _ c t e=>match An ts c with
  |some a=>match An ts t with
   |some b=>match An ts e with|some d=>nz<|Ba 27 [a,b,d]|none=>V
   |none=>V
  |none=>V
def Ex.aC:Ex->M8|.un _ _ k=>[k]|.bin _ _ l r=>[l,r]|.ite _ c t e=>[c,t,e]|_=>[]
def Cv(ts:M4):Ex->M4|.un i op k=>Cv ts k++[(An ts<|.un i op k).getD 0]|.bin i op l r=>Cv ts l++Cv ts r++[(An ts<|.bin i op l r).getD 0]|.ite i c t e=>Cv ts c++Cv ts t++Cv ts e++[(An ts<|.ite i c t e).getD 0]|e=>[(An ts e).getD 0]
theorem J1(ts:M4):∀(e:Ex),Y (Cv ts e)=e.aL:=by intro e;induction e<;>intros<;>grind[Ex.aL,Cv]
def Ex.bA:Ex->Prop|.name ..=>False|.attr _ n=>0<=n/\n<6|.un _ op k=>(8<=op/\op<=10)/\k.bA|.bin _ op l r=>(11<=op/\op<=26)/\l.bA/\r.bA|.ite _ c t e=>c.bA/\t.bA/\e.bA|_=>True
theorem Ex.form(e:Ex):∃t u,e.val=jJ t u:=by cases e<;>exact⟨_,_,rfl⟩
theorem CK{T:jR}{a:Array Field}(hu:jZ.underlying T=Z (.struct a))(b:jR)(v:jF)(w:jD):(Instr.typeAssert (jJ T v) b T jG).run jZ w=.ok (.tuple #[v,.bool jG]) w:=by simp[Instr.typeAssert,run_underlying hu]
theorem AI{S T:jR}{a:Array Field}{z:jF}(hu:jZ.underlying T=Z (.struct a))(hz:∀w,(zeroValue T).run jZ w=.ok z w)(h:S≠T)(b:jR)(v:jF)(w:jD):(Instr.typeAssert (jJ S v) b T jG).run jZ w=.ok (.tuple #[z,.bool jI]) w:=by simp[Instr.typeAssert,run_underlying hu,hz,h]
set_option maxHeartbeats 2000000
theorem ZE(a:M3)(n c:Nat)(ss:M6)(w:jD)(h:Am w a n c ss)(t:Y ss<=1048576):Calls jZ 192 #[X a n c] w λe w'=>(∃x i,e=jN (X x (Y ss) i)/\jP w' (R<|Q w) 9 1 (X x (Y ss) i) (Y ss) (ss.map Value.string))/\Ak w w':=by obtain⟨v,y,z,A,B⟩:=info_parts Gd;have l:=h.len;cases a with|none=>
  have h0:n=0:=by
   obtain q|q:=Nat.eq_zero_or_pos n
   .exact q
   obtain⟨b,C,e,_⟩:=h.cells 0 q;cases e
  subst h0;obtain rfl:ss=[]:=z4 l.symm;clear h t l;have D:∀(w:jD) (a:M3) (n c d f:Nat),(binOp .eql 31 (X a n c)<|X V d f).run jZ w=.ok (.bool a.isNone) w:=λw a n c d f=>Lib.run_eql_slice_nil w _ _ a n c d f underlying31;go_enter func192,ntmps192;go_wp2;go_ret;exact⟨⟨V,0,rfl,G8⟩,BRN⟩|some E=>
  have D:∀(w:jD) (a:M3) (n c d f:Nat),(binOp .eql 31 (X a n c)<|X V d f).run jZ w=.ok (.bool a.isNone) w:=λw a n c d f=>Lib.run_eql_slice_nil w _ _ a n c d f underlying31;have K:∀w,Sem.run jZ (underlying 31) w=.ok (TypeDesc.slice 9) w:=L3 underlying31;have F:=Ab h;have g:=Ab l;have L:n<=1048576:=Oa;clear h l;go_enter func192,ntmps192;go_wp2_with (at_builtin;refine J7 _ rfl _ _ 31 rfl (R<|Q w) 9 v (jA ByteArray.empty) 1 16 underlying31 y z A B rfl Ob _ _ _ rfl (World.ownsRow_made w #[] 0 NLN (zH _) rfl) E n c (ss.map Value.string) rfl ?qc1 ?qc2 ?qc3 ?qc4 ?qc5 ?qc6 ?_);case qc1=>rw[zZ,Aa g];omega
  case qc2=>
   intro j u o;have m:j<n:=by have:=(zL.1 o).1;rw[zZ]at this;rw[Aa g];exact this
   obtain⟨b,C,e,M,hc⟩:=(Aa F).cells j m;cases e;rw[Addr.add_lit];refine Lib.cell?_alloc_some _ ?_;rw[hc,<-o,zi,zE<|by rw[<-Aa g];exact m,Dw _ _<|by rw[<-Aa g];exact m];rfl
  case qc3=>intro u hu;obtain⟨x,_,rfl⟩:=zU.1 hu;rfl
  case qc4=>unfold maxLen;omega
  case qc5=>omega
  case qc6=>simp
  intro v' G p r H;have I:=((Below.refl _ w).alloc NLN<|jC #[] 9).grown r Oz (by intro k J;simp[Value.ownBlock]at J;omega);have s:jP G (R<|Q w) 9 1 v' n<|ss.map Value.string:=by simpa using p
  obtain⟨x,i,rfl,_⟩:=Af s;clear p H r;go_wp2;go_ret;have e:=Aa g;subst e;exact⟨⟨x,i,rfl,s⟩,I⟩
theorem Gf{base base':Nat}{e:jR}{size:Nat}{v:jF}{a:N4}(h:jP w base e size v n a)(b:base'<=base):jP w base' e size v n a:=by
 refine⟨h.1,?_⟩;obtain h2|⟨g,cap,c,d,h3,h4⟩:=h.2
 .exact .inl h2
 exact .inr ⟨g,cap,c,d,zB b h3,h4⟩
end Go.Proofs.YtlcfoihgfcmfeaaGreatDoor
