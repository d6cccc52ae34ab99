import Derived.Test.YtlcfoihgfcmfeaaGreatDoorMXAA
open Option renaming none->V,some->Z
open List renaming length->Y
open Array renaming size->R,size->jh
open Go renaming World->jD,Value->jF,TypeId->jR
open Bool renaming true->jG,false->jI
namespace Go.Proofs.YtlcfoihgfcmfeaaGreatDoor
open Proofs.Tryz
open Value renaming int->T,string->jA,agg->jL
open IntKind renaming i64->U
open World renaming heap->Q,cell?->jE,alloc->jK
open Addr renaming mk->jB
open Obj renaming cells->jC
open Ending renaming returned->jN
open Proofs.Tryz renaming prog->jZ
open Go.RowKit
set_option linter.unusedVariables false
variable{a:Act}{b:Array Oper}{s:M1}{f:Exit->Act->jD->Prop}{L:List N9}{rest:List Oper}{x:N9}{k:Nat}{o:Oper}{P:Program}{c:UInt8}{v d:jF}{w:jD}
structure Nd where
 op:Int
 num:Int
 text:M1
 aE:M6
 aC:M4
abbrev M7:=List Nd
structure St where
 aF:Int
 name:M1
 cond:Int
 aD:Int
abbrev Nz:=List St
def Ci(op:Int):Int:=if 1<=op/\op<=7 then 0 else if 8<=op/\op<=10 then 1 else if 11<=op/\op<=26 then 2 else if op=27 then 3 else-1
def CG(s:M1):Bool:=match JB s with|[]=>jI|c::r=>decide (Y (c::r)<=32)&&ltB c&&(c::r).all PX&&!NE (c::r)
def BM(s:M1):Bool:=decide (s.size<=32)&&(JB s).all nmB
def By(x:Nd):Bool:=decide ((Y x.aC:Int)=Ci x.op)&&(if x.op=1 then decide (0<=x.num)&&decide (x.text.size=0)&&decide (Y x.aE=0)else if x.op=2 then BM x.text&&decide (x.num=0)&&decide (Y x.aE=0)else if x.op=3 then decide (x.num=0\/x.num=1)&&decide (x.text.size=0)&&decide (Y x.aE=0)else if x.op=4 then Ax x.aE&&decide (x.num=0)&&decide (x.text.size=0)else if x.op=5 then CG x.text&&decide (x.num=0)&&decide (Y x.aE=0)else if x.op=6\/x.op=7 then jI else decide (x.num=0)&&decide (x.text.size=0)&&decide (Y x.aE=0))
def CU(last:Bool)(s:St):Bool:=if s.aF=1 then !last&&CG s.name&&decide (0<=s.cond)&&decide (s.aD=-1)else if s.aF=2 then !last&&decide (s.name.size=0)&&decide (0<=s.cond)&&decide (-1<=s.aD)else if s.aF=3 then last&&decide (s.name.size=0)&&decide (s.cond=-1)&&decide (-1<=s.aD)else jI
def DY(s:St):Bool:=if s.aF=1 then CG s.name&&decide (s.aD=-1)else if s.aF=2 then decide (s.name.size=0)else if s.aF=3 then decide (s.name.size=0)&&decide (s.cond=-1)else jI
def Av(s:St):M4:=(if 0<=s.cond then[s.cond]else[])++(if 0<=s.aD then[s.aD]else[])
def Aj(s:St):M4:=(if s.aF≠3 then[s.cond]else[])++(if s.aD≠-1 then[s.aD]else[])
def GF:Nz->Bool|[]=>jG|s::r=>CU r.isEmpty s&&GF r
def Br:Nz->Bool|[]=>jG|s::r=>DY s&&(decide (s.aF=3)==r.isEmpty)&&Br r
theorem Mh:∀(L:Nz),(∀x∈L.flatMap Aj,0<=x)->(Br L=jG↔GF L=jG)
 |[],_=>Iff.rfl|s::r,h=>by
  have a:=Mh r (λx hx=>h x<|by rw[zu];exact yC _ hx);have hs:∀x∈Aj s,0<=x:=λx hx=>h x (by rw[zu];exact z3 _ hx);rw[Br,GF,zF,zF,zF,a];have e:(DY s=jG/\(decide (s.aF=3)==r.isEmpty)=jG)↔CU r.isEmpty s=jG:=by have hc:s.aF≠3->0<=s.cond:=λk=>hs _ (by rw[Aj,K1 k];simp);have hg:s.aD≠-1->0<=s.aD:=λk=>hs _ (by rw[Aj,K1 k];simp);grind[DY,CU]
  grind
theorem Zo:∀{a:Bool}{s:St},CU a s=jG->Av s=Aj s/\∀x∈Aj s,0<=x:=by intro a s h;unfold CU at h;unfold Av Aj;grind
theorem Vf:∀{L:Nz},GF L=jG->L.flatMap Av=L.flatMap Aj/\∀x∈L.flatMap Aj,0<=x:=by intro L;induction L<;>intros<;>grind[GF,Zo]
def KF(N:M7)(L:Nz):Prop:=GF L=jG/\Y ((L.flatMap Av).foldl (λo k=>Bf (N.map Nd.aC) (Y N) k o) [])=Y N/\GM ((L.flatMap Av).foldl (λo k=>Bf (N.map Nd.aC) (Y N) k o) [])/\∀r∈L.flatMap Av,Ct (N.map Nd.aC) (Y N) r<=64
def AbH(N:M7)(L:Nz):Prop:=Br L=jG/\∃S,CD (N.map Nd.aC) (Y N) [] 0=Z S/\Al S=L.flatMap Aj
theorem SJ(N:M7)(L:Nz):AbH N L↔KF N L:=by
 have hs:=AeN (N.map Nd.aC)<|L.flatMap Aj;rw[zZ]at hs;constructor
 .rintro⟨h1,S,h2,h3⟩;have h0:∀x∈L.flatMap Aj,0<=x:=by rw[<-h3];intro x hx;obtain⟨p,_,rfl⟩:=zU.1 hx;omega
  grind[KF,Vf,Mh]
 rintro⟨h1,h2⟩;obtain⟨e,h0⟩:=Vf h1;rw[e]at h2;exact⟨(Mh L h0).2 h1,hs.1 h2⟩
set_option maxHeartbeats 1600000
theorem Dl(c:Int)(w:jD):Calls jZ 106 #[T .u8 c] w λe w'=>e=jN (.bool<|Zd c)/\w'=w:=by go_enter func106,ntmps106;go_wp2;all_goals go_ret;refine⟨Ae ?_,rfl⟩;rw[zM];simp_all[Zd];try omega
theorem Ky(c:Int)(w:jD):Calls jZ 149 #[T .u8 c] w λe w'=>e=jN (.bool<|dgI c)/\w'=w:=by go_enter func149,ntmps149;go_wp2;all_goals go_ret;refine⟨Ae ?_,rfl⟩;rw[zM];simp_all[dgI];try omega
theorem AhS(h:PX c=jG):Zd (c.toNat:Int)=jG\/(Zd (c.toNat:Int)=jI/\dgI (c.toNat:Int)=jG)\/(Zd (c.toNat:Int)=jI/\dgI (c.toNat:Int)=jI/\(c.toNat:Int)=95):=by grind[Zd,dgI,PX,wdI]
theorem Aey(h:PX c=jI):Zd (c.toNat:Int)=jI/\dgI (c.toNat:Int)=jI/\¬(c.toNat:Int)=95:=by grind[PX,wdI]
theorem U9(s:M1)(j:Nat)(w:jD)(hs:s.size<=maxLen)(h:j<=s.size):Calls jZ 107 #[jA s,T U j] w λe w'=>e=jN (T U (NC PX s j:Nat))/\w'=w:=by
 unfold maxLen at hs;go_enter func107,ntmps107;go_wp2;go_loop[1] (λi=>∃k:Nat,j<=k/\k<=s.size/\i=T U k/\NC PX s j=NC PX s k) (λi=>s.size-(intOf i).toNat);case atStart=>exact⟨j,NLN,h,rfl,rfl⟩
 obtain⟨k,m,n,rfl,he⟩:=hrel;have c:=Ab he;clear he;by_cases g:k<s.size
 .have l:(k:Int)<(s.size:Int):=Oa;cases a:PX s[k]
  .have b:=Ab<|U4 g a;obtain⟨h1,h2,h3⟩:=Aey a;have d:=Ab h1;have f:=Ab h2;clear a h1 h2;go_wp2_with (first|(go_at_call 106;refine(Dl _ _).mono ?_;rintro e w' ⟨rfl,rfl⟩;rw[Aa d])|(go_at_call 149;refine(Ky _ _).mono ?_;rintro e w' ⟨rfl,rfl⟩;rw[Aa f]));go_ret;exact⟨MU Gc,rfl⟩
  have b:=Ab<|U5 g a;obtain h1|⟨h1,h2⟩|⟨h1,h2,h3⟩:=AhS a
  .have d:=Ab h1;clear a h1;go_wp2_with (go_at_call 106;refine(Dl _ _).mono ?_;rintro e w' ⟨rfl,rfl⟩;rw[Aa d]);go_round;case rel=>exact⟨k+1,Oa,Oa,O0,Gc⟩
   simp[intOf];omega
  .have d:=Ab h1;have f:=Ab h2;clear a h1 h2;go_wp2_with (first|(go_at_call 106;refine(Dl _ _).mono ?_;rintro e w' ⟨rfl,rfl⟩;rw[Aa d])|(go_at_call 149;refine(Ky _ _).mono ?_;rintro e w' ⟨rfl,rfl⟩;rw[Aa f]));go_round;case rel=>exact⟨k+1,Oa,Oa,O0,Gc⟩
   simp[intOf];omega
  clear a h1 h2;go_wp2_with (first|(go_at_call 106;refine(Dl _ _).mono ?_;rintro e w' ⟨rfl,rfl⟩;rw[show Zd 95=jI from Ob])|(go_at_call 149;refine(Ky _ _).mono ?_;rintro e w' ⟨rfl,rfl⟩;rw[show dgI 95=jI from Ob]));go_round;case rel=>exact⟨k+1,Oa,Oa,O0,Gc⟩
  simp[intOf];omega
 have b:=Ab<|Zf (p:=PX) (s:=s) (j:=k) Oa;have l:¬ ((k:Int)<(s.size:Int)):=Oa;go_wp2;go_ret;exact⟨MU Gc,rfl⟩
set_option maxHeartbeats 800000
theorem DV(c:Int)(w:jD):Calls jZ 154 #[T .u8 c] w λe w'=>e=jN (.bool<|Zd c)/\w'=w:=by go_enter func154,ntmps154;go_wp2;all_goals go_ret;refine⟨Ae ?_,rfl⟩;rw[zM];simp_all[Zd];try omega
theorem NB(c:Int)(w:jD):Calls jZ 156 #[T .u8 c] w λe w'=>e=jN (.bool<|wdI c)/\w'=w:=by
 cases h1:Zd c
 .cases h2:dgI c
  .go_enter func156,ntmps156;go_wp2_with (first|(go_at_call 154;refine(DV _ _).mono ?_;rintro e w' ⟨rfl,rfl⟩;rw[h1])|(go_at_call 177;refine(JQ _ _).mono ?_;rintro e w' ⟨rfl,rfl⟩;rw[h2]));go_ret;refine⟨Ae ?_,rfl⟩;rw[wdI,h1,h2];simp;rfl
  go_enter func156,ntmps156;go_wp2_with (first|(go_at_call 154;refine(DV _ _).mono ?_;rintro e w' ⟨rfl,rfl⟩;rw[h1])|(go_at_call 177;refine(JQ _ _).mono ?_;rintro e w' ⟨rfl,rfl⟩;rw[h2]));go_ret;refine⟨Ae ?_,rfl⟩;rw[wdI,h1,h2];simp
 go_enter func156,ntmps156;go_wp2_with (go_at_call 154;refine(DV _ _).mono ?_;rintro e w' ⟨rfl,rfl⟩;rw[h1]);go_ret;refine⟨Ae ?_,rfl⟩;rw[wdI,h1];simp
theorem Ze(s:M1)(w:jD)(hs:s.size<=maxLen):Calls jZ 155 #[jA s,.func (Fn.func 156) #[] #[]] w λe w'=>e=jN (T U (Lc PX (JB s):Nat))/\w'=w:=by
 unfold maxLen at hs;rw[<-U3];go_enter func155,ntmps155;go_wp2;go_loop[5] (λi=>∃k:Nat,k<=s.size/\i=T U k/\NC PX s 0=NC PX s k) (λi=>s.size-(intOf i).toNat);case atStart=>exact⟨0,zH _,rfl,rfl⟩
 obtain⟨k,h,rfl,he⟩:=hrel;have c:=Ab he;clear he;by_cases f:k<s.size
 .have g:(k:Int)<(s.size:Int):=Oa;cases a:PX s[k]
  .have b:=Ab<|U4 f a;have d:=Ab<|show wdI (s[k].toNat:Int)=jI from a;clear a;go_wp2_with (go_at_call 156;refine(NB _ _).mono ?_;rintro e w' ⟨rfl,rfl⟩;rw[Aa d]);go_ret;exact⟨MU Gc,rfl⟩
  have b:=Ab<|U5 f a;have d:=Ab<|show wdI (s[k].toNat:Int)=jG from a;clear a;go_wp2_with (go_at_call 156;refine(NB _ _).mono ?_;rintro e w' ⟨rfl,rfl⟩;rw[Aa d]);go_round;case rel=>exact⟨k+1,Oa,O0,Gc⟩
  simp[intOf];omega
 have b:=Ab<|Zf (p:=PX) (s:=s) (j:=k) Oa;have g:¬ ((k:Int)<(s.size:Int)):=Oa;go_wp2;go_ret;exact⟨MU Gc,rfl⟩
set_option maxHeartbeats 6400000
theorem Zg{l:N9}:NE l=jG↔l∈Im:=by rw[NE,List.contains_iff_mem]
theorem Cr(h:(s.toList==x)=jG)(hx:x∈Im):NE (JB s)=jG:=by rw[zD,z9]at h;rw[Zg,JB,h];exact hx
theorem AeB(h:∀x∈Im,(s.toList==x)=jI):NE (JB s)=jI:=by
 cases a:NE (JB s)
 .rfl
 have:=h _<|Zg.1 a;rw[z9,JB]at this;simp at this
theorem Abw(s:M1)(w:jD):Calls jZ 157 #[jA s] w λe w'=>e=jN (.bool<|NE<|JB s)/\w'=w:=by
 obtain h0|h0:=zt<|s.toList==[108,101,116]
 .rw[Cr h0 Ob];go_enter func157,ntmps157;go_wp2;go_ret;exact⟨rfl,rfl⟩
 obtain h1|h1:=zt<|s.toList==[119,104,101,110]
 .rw[Cr h1 Ob];go_enter func157,ntmps157;go_wp2;go_ret;exact⟨rfl,rfl⟩
 obtain h2|h2:=zt<|s.toList==[101,108,115,101]
 .rw[Cr h2 Ob];go_enter func157,ntmps157;go_wp2;go_ret;exact⟨rfl,rfl⟩
 obtain h3|h3:=zt<|s.toList==[100,101,110,121]
 .rw[Cr h3 Ob];go_enter func157,ntmps157;go_wp2;go_ret;exact⟨rfl,rfl⟩
 obtain h4|h4:=zt<|s.toList==[103,114,97,110,116]
 .rw[Cr h4 Ob];go_enter func157,ntmps157;go_wp2;go_ret;exact⟨rfl,rfl⟩
 obtain h5|h5:=zt<|s.toList==[105,102]
 .rw[Cr h5 Ob];go_enter func157,ntmps157;go_wp2;go_ret;exact⟨rfl,rfl⟩
 obtain h6|h6:=zt<|s.toList==[116,104,101,110]
 .rw[Cr h6 Ob];go_enter func157,ntmps157;go_wp2;go_ret;exact⟨rfl,rfl⟩
 obtain h7|h7:=zt<|s.toList==[110,111,116]
 .rw[Cr h7 Ob];go_enter func157,ntmps157;go_wp2;go_ret;exact⟨rfl,rfl⟩
 obtain h8|h8:=zt<|s.toList==[97,110,100]
 .rw[Cr h8 Ob];go_enter func157,ntmps157;go_wp2;go_ret;exact⟨rfl,rfl⟩
 obtain h9|h9:=zt<|s.toList==[111,114]
 .rw[Cr h9 Ob];go_enter func157,ntmps157;go_wp2;go_ret;exact⟨rfl,rfl⟩
 obtain h10|h10:=zt<|s.toList==[105,110]
 .rw[Cr h10 Ob];go_enter func157,ntmps157;go_wp2;go_ret;exact⟨rfl,rfl⟩
 obtain h11|h11:=zt<|s.toList==[119,105,116,104,105,110]
 .rw[Cr h11 Ob];go_enter func157,ntmps157;go_wp2;go_ret;exact⟨rfl,rfl⟩
 obtain h12|h12:=zt<|s.toList==[115,105,122,101]
 .rw[Cr h12 Ob];go_enter func157,ntmps157;go_wp2;go_ret;exact⟨rfl,rfl⟩
 obtain h13|h13:=zt<|s.toList==[116,114,117,101]
 .rw[Cr h13 Ob];go_enter func157,ntmps157;go_wp2;go_ret;exact⟨rfl,rfl⟩
 obtain h14|h14:=zt<|s.toList==[102,97,108,115,101]
 .rw[Cr h14 Ob];go_enter func157,ntmps157;go_wp2;go_ret;exact⟨rfl,rfl⟩
 rw[AeB (s:=s) (by intro x hx;simp only[Im,zS,Z9,or_false]at hx;obtain rfl|rfl|rfl|rfl|rfl|rfl|rfl|rfl|rfl|rfl|rfl|rfl|rfl|rfl|rfl:=hx<;>assumption)];go_enter func157,ntmps157;go_wp2;go_ret;exact⟨rfl,rfl⟩
set_option maxHeartbeats 1600000
def Wo(L:List N9):Array jF:=(L.map λl=>Value.string<|ofL l).toArray
theorem Aez(h:L[k]?=Z x):(Wo L)[k]?=Z (jA<|ofL x):=by simp[Wo,h]
theorem Wp(h:(s.toList==(ofL x).toList)=jG):JB s=x:=by rw[zD,z9,z9]at h;exact h
theorem TD(h:(s.toList==(ofL x).toList)=jI):JB s≠x:=by rw[zA,z9,z9]at h;exact h
def Md(L:List N9)(k:Nat)(l:N9):Prop:=∀i,i<k->L[i]?≠Z l
theorem Md.next{l x:N9}(h:Md L k l)(hx:L[k]?=Z x)(a:l≠x):Md L (k+1) l:=λi hi e=>by
 by_cases b:i=k
 .subst b;rw[hx]at e;exact a (Mk e).symm
 exact h i Oa e
theorem Md.all{l:N9}(h:Md L (Y L) l):L.contains l=jI:=by rw[<-Bool.not_eq_true,List.contains_iff_mem];intro hm;obtain⟨i,hi,e⟩:=zk hm;exact h i hi (by rw[zE hi,e])
theorem AeA(h:L[k]?=Z x):L.contains x=jG:=by grind
theorem Abv(s:M1)(w:jD):Calls jZ 108 #[jA s] w λe w'=>e=jN (.bool<|NE<|JB s)/\Ak w w':=by
 have R:Ah (jK w<|jC #[jA ⟨#[108,101,116]⟩,jA ⟨#[119,104,101,110]⟩,jA ⟨#[101,108,115,101]⟩,jA ⟨#[100,101,110,121]⟩,jA ⟨#[103,114,97,110,116]⟩,jA ⟨#[105,102]⟩,jA ⟨#[116,104,101,110]⟩,jA ⟨#[110,111,116]⟩,jA ⟨#[97,110,100]⟩,jA ⟨#[111,114]⟩,jA ⟨#[105,110]⟩,jA ⟨#[119,105,116,104,105,110]⟩,jA ⟨#[115,105,122,101]⟩,jA ⟨#[116,114,117,101]⟩,jA ⟨#[102,97,108,115,101]⟩] 9) (jh<|Q w) (Wo Im) 9:=Ah.new w (Wo Im) 9;have a:=Ar w<|jC #[jA ⟨#[108,101,116]⟩,jA ⟨#[119,104,101,110]⟩,jA ⟨#[101,108,115,101]⟩,jA ⟨#[100,101,110,121]⟩,jA ⟨#[103,114,97,110,116]⟩,jA ⟨#[105,102]⟩,jA ⟨#[116,104,101,110]⟩,jA ⟨#[110,111,116]⟩,jA ⟨#[97,110,100]⟩,jA ⟨#[111,114]⟩,jA ⟨#[105,110]⟩,jA ⟨#[119,105,116,104,105,110]⟩,jA ⟨#[115,105,122,101]⟩,jA ⟨#[116,114,117,101]⟩,jA ⟨#[102,97,108,115,101]⟩] 9;go_enter func108,ntmps108;go_wp2;generalize jK w (jC #[jA ⟨#[108,101,116]⟩,jA ⟨#[119,104,101,110]⟩,jA ⟨#[101,108,115,101]⟩,jA ⟨#[100,101,110,121]⟩,jA ⟨#[103,114,97,110,116]⟩,jA ⟨#[105,102]⟩,jA ⟨#[116,104,101,110]⟩,jA ⟨#[110,111,116]⟩,jA ⟨#[97,110,100]⟩,jA ⟨#[111,114]⟩,jA ⟨#[105,110]⟩,jA ⟨#[119,105,116,104,105,110]⟩,jA ⟨#[115,105,122,101]⟩,jA ⟨#[116,114,117,101]⟩,jA ⟨#[102,97,108,115,101]⟩] 9)=f at R a|-;go_loop[7] (λi=>∃k:Nat,k<=15/\i=T U k/\Md Im k (JB s)) (λi=>15-(intOf i).toNat);case atStart=>exact⟨0,Oa,rfl,λi hi=>Oa⟩
 obtain⟨k,g,rfl,c⟩:=hrel;by_cases d:k<15
 .have j:(k:Int)<15:=Oa;obtain⟨x,hx⟩:∃x,Im[k]?=Z x:=⟨Im[k]'d,zE d⟩;have hc:=(R.cell k).trans<|Aez hx;obtain h|h:=zt<|s.toList==(ofL x).toList
  .have b:=Ab (show NE (JB s)=jG by rw[Wp h];exact AeA hx);go_wp2;go_ret;exact⟨Ae (Aa b).symm,a⟩
  have b:=Ab<|c.next hx<|TD h;go_wp2;go_round;case rel=>exact⟨k+1,Oa,O0,Aa b⟩
  simp[intOf];omega
 have e:k=15:=Oa;subst e;go_wp2;go_ret;exact⟨Ae (Aa<|Ab<|show NE (JB s)=jI from Md.all c).symm,a⟩
def eqS(a b:M1):Bool:=a.toList==b.toList
theorem Hu(a b:M1):eqS a b=jG↔a=b:=by grind[eqS,Og,Go.ByteArray.toList_eq]
def KY(ss:M6)(s:M1):Bool:=ss.any λx=>eqS x s
theorem Gj(ss:M6)(s:M1):KY ss s=jG↔s∈ss:=by grind[KY,Hu]
theorem M5(ss:M6)(s:M1):s∈ss↔∃j,j<Y ss/\AB ss j=s:=by
 constructor
 .intro h;obtain⟨j,a,rfl⟩:=zk h;exact⟨j,a,Dw ss j a⟩
 grind[Dw]
theorem Acx(ss:M6)(s:M1)(j:Nat)(a:j<Y ss)(h:eqS (AB ss j) s=jG):KY ss s=jG:=by grind[Gj,Hu,M5]
theorem Oj(ss:M6)(s:M1)(h:∀j,j<Y ss->eqS (AB ss j) s=jI):KY ss s=jI:=by grind[Gj,Hu,M5]
def CX(ss tt:M6)(b:Bool):M6:=ss.filter λs=>KY tt s==b
theorem Do(ss:M6)(k:Nat)(h:k<Y ss):ss.take (k+1)=ss.take k++[AB ss k]:=by rw[Dw ss k h,zY h]
theorem Ri(ss tt:M6)(b:Bool)(k:Nat)(h:k<Y ss)(a:(KY tt (AB ss k)==b)=jG):CX (ss.take<|k+1) tt b=CX (ss.take k) tt b++[AB ss k]:=by grind[CX,Do]
theorem VO(ss tt:M6)(b:Bool)(k:Nat)(h:k<Y ss)(a:(KY tt (AB ss k)==b)=jI):CX (ss.take<|k+1) tt b=CX (ss.take k) tt b:=by grind[CX,Do]
theorem IH(ss tt:M6)(b:Bool):Y (CX ss tt b)<=Y ss:=List.length_filter_le _ _
theorem AG{base e n:Nat}{a:N4}(h:World.ownsRow w base e 1 v n a):∃x c,v=.slice x n c:=by obtain⟨rfl,rfl⟩|⟨g,cap,b,rfl,_⟩:=h.2;all_goals grind
theorem Rh(ss tt:M6)(b:Bool)(h:∀j,j<Y ss->(AB ss j).size<=maxLen):∀j,j<Y (CX ss tt b)->(AB (CX ss tt b) j).size<=maxLen:=by grind[CX,Dw,AB,zI,M5]
theorem EF{c:Exit->Act->jD->Prop}(k:o.guard=V)(ty:jR)(x:Operand)(l:o.op=.load ty x)(g:Nat)(hx:a.eval x=.pointer (Z<|jB g 0 V))(cs:Array jF)(d:TypeDesc)(hc:∀j,jE w (jB g j V)=cs[j]?)(hu:P.underlying ty=Z d)(hd:(match d with|.struct _|.array _ _=>jG|_=>jI)=jG)(hi:(P.info? ty).map (·.size)=Z cs.size)(h:wpList P b c rest (a.put o.dst<|jL cs) w):wpList P b c (o::rest) a w:=wpList_plain k λ_ m=>by
  have f:(loadCells (jB g 0 V)<|Y cs.toList).run P w=.ok cs.toList.toArray w:=run_loadCells_list (P:=P) w (jB g 0 V) cs.toList (λj v n=>by
    have p:((jB g 0 V):Addr).add j=(jB g j V):=by unfold Addr.add;split<;>simp_all
    rw[p,hc j];simpa using n);have q:(loadVar ty<|jB g 0 V).run P w=.ok (jL cs) w:=by cases hq:P.info? ty with|none=>simp[hq]at hi|some i=>
    have hs:i.size=cs.size:=by simpa[hq]using hi
    have r:(isAgg ty).run P w=.ok jG w:=by unfold isAgg;rw[Sem.run_bind,L3 hu w];cases d<;>simp_all
    simp only[Array.length_toList,Array.toArray_toList]at f;simp[loadVar,Sem.run_bind,r,sizeOf,typeInfo,hq,hs,f]
  unfold Oper.wp execOp;simp only[l,hx,Instr.loadAt,Instr.sureAddr,Sem.run_bind,Sem.run_pure,Result.andThen_ok,q];exact m _ _ h
theorem BT{c:Array Oper}(g:o.guard=V)(ty:jR)(x y:Operand)(j:o.op=.index ty x y)(cs:Array jF)(hx:a.eval x=jL cs)(k:Nat)(hy:a.eval y=T U k)(n:Nat)(e:jR)(hu:P.underlying ty=Z (.array n e))(l:k<n)(d:TypeDesc)(m:P.underlying e=Z d)(hd:(match d with|.struct _|.array _ _=>jG|_=>jI)=jG)(sz:Nat)(hi:(P.info? e).map (·.size)=Z sz)(b:Array jF)(p:cs.extract (k*sz) (k*sz+sz)=b)(h:wpList P c f rest (a.put o.dst<|jL b) w):wpList P c f (o::rest) a w:=wpList_plain g λ_ q=>by
  have hq:(Instr.index ty (jL cs)<|T U k).run P w=.ok (jL b) w:=by cases hq:P.info? e with|none=>simp[hq]at hi|some i=>
    have hs:i.size=sz:=by simpa[hq]using hi
    have r:(isAgg e).run P w=.ok jG w:=by unfold isAgg;rw[Sem.run_bind,L3 m w];cases d<;>simp_all
    have s:(0:Int)<=(k:Int)/\(k:Int)<(n:Int):=⟨Oa,Oa⟩;simp[Instr.index,run_underlying hu,asIntOf,s,l,part,Sem.run_bind,r,sizeOf,typeInfo,hq,hs,p]
  unfold Oper.wp execOp;simp only[j,hx,hy,Sem.run_bind,hq,Sem.run_pure,Result.andThen_ok];exact q _ _ h
set_option maxRecDepth 100000
set_option maxHeartbeats 6400000
def VX:Array jF:=#[T U 26,T U 1,jA ⟨#[111,114]⟩,T U 25,T U 2,jA ⟨#[97,110,100]⟩,T U 19,T U 4,jA ⟨#[61,61]⟩,T U 20,T U 4,jA ⟨#[33,61]⟩,T U 21,T U 4,jA ⟨#[60]⟩,T U 22,T U 4,jA ⟨#[60,61]⟩,T U 23,T U 4,jA ⟨#[105,110]⟩,T U 24,T U 4,jA ⟨#[119,105,116,104,105,110]⟩,T U 11,T U 5,jA ⟨#[43]⟩,T U 12,T U 5,jA ⟨#[45]⟩,T U 16,T U 5,jA ⟨#[124]⟩,T U 18,T U 5,jA ⟨#[92]⟩,T U 13,T U 6,jA ⟨#[42]⟩,T U 14,T U 6,jA ⟨#[47]⟩,T U 15,T U 6,jA ⟨#[37]⟩,T U 17,T U 6,jA ⟨#[38]⟩]
structure Opr where
 op:Int
 lv:Int
 text:M1
def opr:Nat->Opr|0=>⟨26,1,⟨#[111,114]⟩⟩|1=>⟨25,2,⟨#[97,110,100]⟩⟩|2=>⟨19,4,⟨#[61,61]⟩⟩|3=>⟨20,4,⟨#[33,61]⟩⟩|4=>⟨21,4,⟨#[60]⟩⟩|5=>⟨22,4,⟨#[60,61]⟩⟩|6=>⟨23,4,⟨#[105,110]⟩⟩|7=>⟨24,4,⟨#[119,105,116,104,105,110]⟩⟩|8=>⟨11,5,⟨#[43]⟩⟩|9=>⟨12,5,⟨#[45]⟩⟩|10=>⟨16,5,⟨#[124]⟩⟩|11=>⟨18,5,⟨#[92]⟩⟩|12=>⟨13,6,⟨#[42]⟩⟩|13=>⟨14,6,⟨#[47]⟩⟩|14=>⟨15,6,⟨#[37]⟩⟩|15=>⟨17,6,⟨#[38]⟩⟩|_=>⟨0,0,⟨#[]⟩⟩
theorem AhU:∀k,k<16->VX.extract (k*3) (k*3+3)=#[T U (opr k).op,T U (opr k).lv,jA (opr k).text]|0,_=>rfl|1,_=>rfl|2,_=>rfl|3,_=>rfl|4,_=>rfl|5,_=>rfl|6,_=>rfl|7,_=>rfl|8,_=>rfl|9,_=>rfl|10,_=>rfl|11,_=>rfl|12,_=>rfl|13,_=>rfl|14,_=>rfl|15,_=>rfl|n+16,h=>K4 h Oa
theorem AhV(op:Int)(h:11<=op/\op<=26):∃k,k<16/\(opr k).op=op:=by
 have:op=11\/op=12\/op=13\/op=14\/op=15\/op=16\/op=17\/op=18\/op=19\/op=20\/op=21\/op=22\/op=23\/op=24\/op=25\/op=26:=Oa;obtain e|e|e|e|e|e|e|e|e|e|e|e|e|e|e|e:=this<;>subst e
 .exact⟨8,Ob,rfl⟩
 .exact⟨9,Ob,rfl⟩
 .exact⟨12,Ob,rfl⟩
 .exact⟨13,Ob,rfl⟩
 .exact⟨14,Ob,rfl⟩
 .exact⟨10,Ob,rfl⟩
 .exact⟨15,Ob,rfl⟩
 .exact⟨11,Ob,rfl⟩
 .exact⟨2,Ob,rfl⟩
 .exact⟨3,Ob,rfl⟩
 .exact⟨4,Ob,rfl⟩
 .exact⟨5,Ob,rfl⟩
 .exact⟨6,Ob,rfl⟩
 .exact⟨7,Ob,rfl⟩
 .exact⟨1,Ob,rfl⟩
 exact⟨0,Ob,rfl⟩
theorem AlW:∀k,k<16->11<=(opr k).op/\(opr k).op<=26|0,_|1,_|2,_|3,_|4,_|5,_|6,_|7,_|8,_|9,_|10,_|11,_|12,_|13,_|14,_|15,_=>Ob|n+16,h=>K4 h Oa
def Vb(op:Int):Bool:=decide (11<=op/\op<=26)
def AlX(op:Int)(e:Ending):Prop:=∃ (x y:Int) (s:M1),e=jN (.tuple #[jL #[T U x,T U y,jA s],.bool<|Vb op])
theorem BC{b:Nat}{a c d:jF}{t:jR}(R:Ah w b #[a,c,d] t):jE w (jB b 0 V)=Z a/\jE w (jB b 1 V)=Z c/\jE w (jB b 2 V)=Z d/\∀j,World.frozen? w (jB b j V)=jI:=⟨R.cell 0,R.cell 1,R.cell 2,λj=>R.frozen j⟩
theorem Ada{fn:Func}{a b:Tmp}(h:fn.results=#[.cell a 239,.tmp b]){tmps:Array jF}{g:Nat}{c f u:jF}(i:tmps.getD a undef=.pointer (Z<|jB g 0 V))(j:tmps.getD b undef=u)(g0:jE w (jB g 0 V)=Z c)(g1:jE w (jB g 1 V)=Z d)(g2:jE w (jB g 2 V)=Z f):(results fn tmps).run jZ w=.ok (.tuple #[jL #[c,d,f],u]) w:=by rw[Array.getD_eq_getD_getElem?]at i j;simp[results,h,i,j,go_sem,g0,g1,g2]
theorem GC(op:Int)(w:jD)(z:7<R (Q w))(hc:∀k,jE w ⟨7,k,V⟩=VX[k]?):Calls jZ 152 #[T U op] w λe w'=>AlX op e/\Ak w w':=by
 have s:=Ab (show ∀k,jE (jK w<|jC #[T U 0,T U 0,jA ⟨#[]⟩] 239) ⟨7,k,V⟩=VX[k]?from λk=>(World.cell?_alloc_lt _ _ ⟨7,k,V⟩ z).trans<|hc k);clear hc;have t:=Ar w<|jC #[T U 0,T U 0,jA ⟨#[]⟩] 239;have u:=Ah.new w #[T U 0,T U 0,jA ⟨#[]⟩] 239;go_enter func152,ntmps152;go_wp2_with (refine EF rfl 282 _ rfl 7 rfl VX _ (Aa s) underlying282 rfl Ok ?_);clear s;go_loopw[7] (λi wr=>∃k:Nat,k<=16/\i=T U k/\Ak w wr/\Ah wr (R<|Q w) #[T U 0,T U 0,jA ⟨#[]⟩] 239/\∀j,j<k->(opr j).op≠op) (λi _=>16-(intOf i).toNat);case atStart=>exact⟨0,Oa,rfl,t,u,λj h=>K4 h Oa⟩
 obtain⟨k,K,rfl,d,a,v⟩:=hrel;have f:=Ab v;clear v t u;by_cases g:k<16
 .have L:(k:Int)<16:=Oa;have q:=Ab<|AhU k g;have x:=Ab<|AlW k g;have l:=Ab g;have z1:=a.lt;have m:=Ab (show(opr k).op≠op->∀j,j<k+1->(opr j).op≠op from λe j y=>by
   by_cases A:j=k
   .subst A;exact e
   exact Aa f j Oa);have b:=Ab (show(opr k).op=op->Vb op=jG from λe=>by rw[<-e];exact zc<|Aa x);clear f x g;generalize opr k=o at q m b;have B:=d.alloc d.size<|jC #[T U o.op,T U o.lv,jA o.text] 239;have C:=a.alloc<|jC #[T U o.op,T U o.lv,jA o.text] 239;by_cases c:o.op=op
  .have eo:(o.op==op)=jG:=zD.2 c;have D:=Ab<|Aa b c;clear c b m;obtain⟨E,F,G,H⟩:=BC a;go_wp2_with (refine BT rfl 282 _ _ rfl VX rfl k rfl 16 239 underlying282 (Aa l) _ underlying239 rfl 3 Ok _ (Aa q) ?_);have r:Ah _ (R<|Q w) #[T U o.op,T U o.lv,jA o.text] 239:=(((a.set 0<|T U o.op).set 1<|T U o.lv).set 2<|jA o.text).alloc<|jC #[T U o.op,T U o.lv,jA o.text] 239;have n:=(((d.setCell (p:=⟨R<|Q w,0,V⟩) NLN<|T U o.op).setCell (p:=⟨R<|Q w,1,V⟩) NLN<|T U o.lv).setCell (p:=⟨R<|Q w,2,V⟩) NLN<|jA o.text);have I:=n.alloc n.size<|jC #[T U o.op,T U o.lv,jA o.text] 239;obtain⟨g0,g1,g2,gf⟩:=BC r;exact K8 (Ada results152 rfl rfl g0 g1 g2) rfl ⟨⟨_,_,_,by rw[Aa D];rfl⟩,I⟩
  have eo:(o.op==op)=jI:=zA.2 c;have J:=Ab<|Aa m c;clear c b m;go_wp2_with (refine BT rfl 282 _ _ rfl VX rfl k rfl 16 239 underlying282 (Aa l) _ underlying239 rfl 3 Ok _ (Aa q) ?_);go_roundw;case rel=>exact⟨k+1,Aa l,O0,B,C,Aa J⟩
  have:=Aa l;simp[intOf];omega
 have e:k=16:=Oa;subst e;have b:=Ab (show Vb op=jI from za λh=>by obtain⟨j,y,e⟩:=AhV op h;exact Aa f j y e);clear f;obtain⟨E,F,G,H⟩:=BC a;go_wp2_with fail;have r:Ah _ (R<|Q w) #[T U 0,T U 0,jA ⟨#[]⟩] 239:=((a.set 0<|T U 0).set 1<|T U 0).set 2<|jA ⟨#[]⟩;have n:=(((d.setCell (p:=⟨R<|Q w,0,V⟩) NLN<|T U 0).setCell (p:=⟨R<|Q w,1,V⟩) NLN<|T U 0).setCell (p:=⟨R<|Q w,2,V⟩) NLN<|jA ⟨#[]⟩);obtain⟨g0,g1,g2,gf⟩:=BC r;exact K8 (Ada results152 rfl rfl g0 g1 g2) rfl ⟨⟨_,_,_,by rw[Aa b];rfl⟩,n⟩
theorem IY(op:Int)(w:jD)(c:7<R (Q w))(hc:∀k,jE w ⟨7,k,V⟩=VX[k]?):Calls jZ 111 #[T U op] w λe w'=>e=jN (T U<|Ci op)/\Ak w w':=by
 have d:=Ab hc;by_cases h0:1<=op/\op<=7
 .have:op=1\/op=2\/op=3\/op=4\/op=5\/op=6\/op=7:=Oa;obtain e|e|e|e|e|e|e:=this<;>subst e<;>(go_enter func111,ntmps111;go_wp2;go_ret;exact⟨rfl,BRN⟩)
 by_cases h1:8<=op/\op<=10
 .have:op=8\/op=9\/op=10:=Oa;obtain e|e|e:=this<;>subst e<;>(go_enter func111,ntmps111;go_wp2;go_ret;exact⟨rfl,BRN⟩)
 by_cases h3:op=27
 .subst h3;go_enter func111,ntmps111;go_wp2;go_ret;exact⟨rfl,BRN⟩
 have f:=Ab (show Ci op=if Vb op=jG then 2 else-1 by
  rw[Ci,K0 h0,K0 h1,Vb];by_cases h2:11<=op/\op<=26
  .rw[K1 h2,K1<|zc h2]
  rw[K0 h2,K0 h3,K0<|by rw[za h2];decide]);have e1:(op==1)=jI:=zA.2 Oa;have e2:(op==2)=jI:=zA.2 Oa;have e3:(op==3)=jI:=zA.2 Oa;have e4:(op==4)=jI:=zA.2 Oa;have e5:(op==5)=jI:=zA.2 Oa;have l:(op==6)=jI:=zA.2 Oa;have m:(op==7)=jI:=zA.2 Oa;have e8:(op==8)=jI:=zA.2 Oa;have n:(op==9)=jI:=zA.2 Oa;have o:(op==10)=jI:=zA.2 Oa;have p:(op==27)=jI:=zA.2 Oa;go_enter func111,ntmps111;cases g:Vb op
 .have a:=Ab g;go_wp2_with (go_at_call 152;refine(GC _ _ c<|Aa d).mono ?_;rintro e w2 ⟨⟨h,i,j,rfl⟩,b⟩;rw[Aa a]);go_ret;exact⟨by rw[Aa f,Aa a];rfl,b.alloc b.size _⟩
 have a:=Ab g;go_wp2_with (go_at_call 152;refine(GC _ _ c<|Aa d).mono ?_;rintro e w2 ⟨⟨h,i,j,rfl⟩,b⟩;rw[Aa a]);go_ret;exact⟨by rw[Aa f,Aa a];rfl,b.alloc b.size _⟩
end Go.Proofs.YtlcfoihgfcmfeaaGreatDoor
