import Derived.Test.YtppafecmccdplaaGreatMXAH
import Derived.Test.YtppafecmccdplaaGreatMXAN
open Go.Proofs.Tryz
open Option renaming none->T,some->Y
open Go.Value renaming int->U,slice->X,string->Q,agg->jE
open Go.IntKind renaming i64->V
open Go renaming World->Z,Value->jB,Addr->jD,TypeId->jI
open Bool renaming true->R,false->jA
open Go.Obj renaming cells->jC
open Go.Ending renaming returned->jF
open Go.Proofs.Tryz renaming prog->jL
namespace Go.Proofs.YtppafecmccdplaaGreat
open Go.RowKit
set_option linter.unusedVariables false
set_option maxRecDepth 100000
set_option maxHeartbeats 6400000
variable {b:Bool}{s:ByteArray}{bs:List Bool}{ss tt:List ByteArray}{B c cx hi':Nat}{a:Option jD}{v v':jB}{w w':Z}
theorem Acw (op a:Int)(h: 8<=op/\op<=10):CD op [a]=Ca op [a]:=by
 have:op=8\/op=9\/op=10:=by omega
 rcases this with rfl|rfl|rfl
 ·by_cases h:a=2<;>simp[CD,CG,Ca,Gd,h]
 ·by_cases h:a=1<;>simp[CD,CG,Ca,Gd,h]
 ·by_cases h:a=4<;>simp[CD,CG,Ca,Gd,h]
theorem AaF (op a b:Int)(h: 11<=op/\op<=26)(f:a≠0):CD op [a,b]=Ca op [a,b]:=by
 have:op=11\/op=12\/op=13\/op=14\/op=15\/op=16\/op=17\/op=18\/op=19\/op=20\/op=21\/op=22\/op=23\/op=24\/op=25\/op=26:=by omega
 rcases this with rfl|rfl|rfl|rfl|rfl|rfl|rfl|rfl|rfl|rfl|rfl|rfl|rfl|rfl|rfl|rfl
 all_goals
  first
   |(by_cases e:b=a<;>first|(subst e;simp[CD,CG,Ca,Gd,f];done)|(have e2:a≠b:=fun k=>e k.symm;simp[CD,CG,Ca,Gd,f,e,e2];done))
   |(by_cases c:a=1<;>by_cases d:b=1<;>simp[CD,CG,Ca,Gd,c,d];done)
   |(by_cases c:a=2<;>by_cases d:b=2<;>simp[CD,CG,Ca,Gd,c,d];done)
   |(by_cases c:a=4<;>by_cases d:b=4<;>simp[CD,CG,Ca,Gd,c,d];done)
   |(by_cases c:a=3<;>by_cases d:b=4<;>simp[CD,CG,Ca,Gd,c,d];done)
theorem AaG (a b c:Int)(d:b≠0):CD 27 [a,b,c]=Ca 27 [a,b,c]:=by
 simp[CD,CG,Ca,Gd,d];by_cases h1:a=1<;>by_cases f:c=b<;>simp_all<;>omega
theorem VJ (op a:Int):AeR (nz (Ca op [a])):=fun t h=>by
 obtain⟨h1,b⟩:=H6 h;rw[Ca]at h1
 repeat' split at h1
 all_goals omega
theorem VK (op a b:Int):AeR (nz (Ca op [a,b])):=fun t h=>by
 obtain⟨h1,c⟩:=H6 h;rw[Ca]at h1;clear h
 repeat' split at h1
 all_goals
  subst h1
  first
   |decide
   |exact absurd rfl c
theorem VM (a b c:Int)(d: 1<=b/\b<=4):AeR (nz (Ca 27 [a,b,c])):=fun t h=>by
 obtain⟨h1,f⟩:=H6 h;rw[Ca]at h1
 repeat' split at h1
 all_goals omega
theorem Agi (ts:List Int)(i op:Int)(k:Ex):AE ts (.un i op k)=(AE ts k).bind fun a1=>nz (Ca op [a1]):=by rw[AE];cases AE ts k<;>rfl
theorem AeS (ts:List Int)(i op:Int)(k l:Ex):AE ts (.bin i op k l)=(AE ts k).bind fun a1=>(AE ts l).bind fun a2=>nz (Ca op [a1,a2]):=by rw[AE];cases AE ts k<;>cases AE ts l<;>rfl
theorem AeT (ts:List Int)(i:Int)(k l m:Ex):AE ts (.ite i k l m)=(AE ts k).bind fun a1=>(AE ts l).bind fun a2=>(AE ts m).bind fun a3=>nz (Ca 27 [a1,a2,a3]):=by rw[AE];cases AE ts k<;>cases AE ts l<;>cases AE ts m<;>rfl
theorem AcN {ts:List Int}(h:∀t∈ts,1<=t/\t<=4):∀(e:Ex),AeR (AE ts e)
 |.int ..,a,k=>by cases k;omega
 |.text ..,a,k=>by cases k;omega
 |.bool ..,a,k=>by cases k;omega
 |.set ..,a,k=>by cases k;omega
 |.name ..,a,k=>by cases k
 |.attr _ n,a,k=>by cases k;exact Qt n
 |.lett _ n,a,k=>by
  rw[AE]at k;split at k
  ·exact h a (zu k)
  ·cases k
 |.un i op e,a,k=>by
  rw[Agi]at k;cases he:AE ts e with
  |none=>rw[he]at k;cases k
  |some b=>rw[he]at k;exact VJ op b a k
 |.bin i op e f,a,k=>by
  rw[AeS]at k;cases he:AE ts e with
  |none=>rw[he]at k;cases k
  |some b=>
   rw[he]at k;cases j:AE ts f with
   |none=>rw[j]at k;cases k
   |some c=>rw[j]at k;exact VK op b c a k
 |.ite i e f g,a,k=>by
  rw[AeT]at k;cases he:AE ts e with
  |none=>rw[he]at k;cases k
  |some b=>
   rw[he]at k;cases j:AE ts f with
   |none=>rw[j]at k;cases k
   |some c=>
    rw[j]at k;cases hg:AE ts g with
    |none=>rw[hg]at k;cases k
    |some d=>rw[hg]at k;exact VM b c d (AcN h f c j) a k
def Bm:List ByteArray:= [⟨#[99,108,105,101,110,116]⟩,⟨#[117,115,101,114]⟩,⟨#[108,101,118,101,108]⟩,⟨#[110,111,119]⟩,⟨#[97,115,107,101,100]⟩,⟨#[97,103,114,101,101,100]⟩]
section
open Classical in
noncomputable def AD (s:ByteArray):List ByteArray->Int->Int
 |[],_=>-1
 |x ::r,k=>if x=s then k else AD s r (k+1)
theorem Eb (s:ByteArray):∀(L:List ByteArray) (k:Int),0<=k->(0<=AD s L k↔s∈L)
 |[],k,h=>by simp[AD]
 |x ::r,k,h=>by
  rw[AD];by_cases e:x=s
  ·rw[if_pos e];simp[e,h]
  ·rw[if_neg e,Eb s r (k+1) (by omega)];simp[Ne.symm e]
theorem Xv {L:List ByteArray}{k:Nat}(h:k<L.length):AD s (L.drop k) k=if L[k]=s then (k:Int)else AD s (L.drop (k+1)) ((k+1 :Nat):Int):=by
 rw[Z4 h,AD];rfl
theorem Pe (x s:ByteArray):(x.toList==s.toList)=R↔x=s:=by
 rw[zF];constructor
 ·intro h;rw[zy,zy]at h;cases x;cases s;simp only[ByteArray.mk.injEq];exact Array.toList_inj.1 h
 ·rintro rfl;rfl
def Nms (w:Z) (a:Option jD) (L:List ByteArray):Prop:=∀j,(h:j<L.length)->∃b off,a=Y ⟨b,off,T⟩/\b<w.heap.size/\w.cell? ⟨b,off+j,T⟩=Y (Q L[j])
theorem Nms.below {L:List ByteArray}(h:Nms w a L)(c:Below B w w')(k:w.heap.size<=B):Nms w' a L:=fun j f=>by
 obtain⟨b,d,g,i,c0⟩:=h j f;exact⟨b,d,g,zR i c.size,(c.cell (p:=⟨b,d+j,T⟩) (by show b<B;omega)).trans c0⟩
theorem AfJ (w:Z)(t:jI)(L:List ByteArray):Nms (w.alloc (jC (L.map Value.string).toArray t)) (Y ⟨w.heap.size,0,T⟩) L:=fun j a=>by
 refine⟨w.heap.size,0,rfl,by simp,?_⟩;rw[zP,(Ah.new w (L.map Value.string).toArray t).cell j];simp[a]
theorem GI (s:ByteArray)(w:Z):
  Calls jL 70 #[Q s] w fun r w'=>r=jF (U V (AD s Bm 0))/\An w w':=by
 have g:=AN w (jC (Bm.map Value.string).toArray 9);have j:=AfJ w 9 Bm;have l:=Ab (show Bm.length=6 from rfl);have m:=Ab (show w.alloc (jC (Bm.map Value.string).toArray 9)=w.alloc (jC #[Q ⟨#[99,108,105,101,110,116]⟩,Q ⟨#[117,115,101,114]⟩,Q ⟨#[108,101,118,101,108]⟩,Q ⟨#[110,111,119]⟩,Q ⟨#[97,115,107,101,100]⟩,Q ⟨#[97,103,114,101,101,100]⟩] 9)from rfl);go_enter func70,ntmps70
 go_wp2_with fail
 rw[<-Aa m];clear m;generalize w.alloc (jC (Bm.map Value.string).toArray 9)=p at g j|-;go_loopw [7] (fun i wr=>∃k:Nat,k<=6/\i=U V k/\An w wr/\An p wr/\Hid (AD s Bm 0=AD s ((Bm:List ByteArray).drop k) k)) (fun i _=>6-(intOf i).toNat)
 case atStart=>exact⟨0,by omega,rfl,g,BRN,Ab rfl⟩
 case round=>
  obtain⟨k,hk,rfl,c,n,d⟩:=hrel;by_cases f:k<6
  ·have x:(k:Int)<(6 :Int):=by omega
   have h1:k<(Bm:List ByteArray).length:=by rw[Aa l];exact f
   obtain⟨b1,q,t,y,c0⟩:=(j.below n NLN) k h1;obtain⟨rfl,rfl⟩:b1=w.heap.size/\q=0:=by simpa[eq_comm]using t
   simp only[zP]at c0;have a:=Ab ((Aa d).trans (Xv h1));have o:=Ab f;generalize (Bm:List ByteArray)[k]=u at c0 a;clear f h1 d;by_cases hu:u=s
   ·have v:(u.toList==s.toList)=R:=(Pe u s).2 hu;have b:=Ab ((Aa a).trans (if_pos hu));clear a hu;go_wp2
    go_ret
    exact⟨by rw[Aa b];rfl,c⟩
   ·have v:(u.toList==s.toList)=jA:=by rw[Z0];exact fun h=>hu ((Pe u s).1 h)
    have b:=Ab ((Aa a).trans (if_neg hu));clear a hu;go_wp2
    go_roundw
    case rel=>exact⟨k+1,Aa o,by go_num,c,n,b⟩
    case measure=>have:=Aa o;simp[intOf];omega
  ·have e:k=6:=by omega
   subst e;have b:=Ab (show AD s Bm 0= -1 by rw[Aa d,yG (by rw[Aa l];omega)];rfl);go_wp2
   go_ret
   exact⟨by rw[Aa b];rfl,c⟩
theorem Mt (j:Nat)(a:Option jD)(n c:Nat)(L:List ByteArray)(s:ByteArray)(w:Z)(h0:w.cell? ⟨j,0,T⟩=Y (X a n c))(D:j<w.heap.size)(p:L.length=n)(E:n<=1048576)(q:Nms w a L):
  Calls jL 71 #[.pointer (Y ⟨j,0,T⟩),Q s] w fun r w'=>r=jF (U V (AD s L 0))/\An w w':=by
 have t:=Ab p;obtain⟨b,g⟩:∃b,b=w:=⟨_,rfl⟩
 have z:An w b:=by rw[g];exact BRN
 have A:Nms b a L:=by rw[g];exact q
 have v:=Ab g;clear g p q;go_enter func71,ntmps71
 go_wp2_with fail
 rw[<-Aa v];clear v;go_loopw [12] (fun i wr=>∃k:Nat,k<=n/\i=U V k/\An w wr/\An b wr/\Hid (AD s L 0=AD s ((L:List ByteArray).drop k) k)) (fun i _=>n-(intOf i).toNat)
 case atStart=>exact⟨0,by omega,rfl,z,BRN,Ab rfl⟩
 case round=>
  obtain⟨k,hk,rfl,l,x,m⟩:=hrel;by_cases o:k<n
  ·have F:(k:Int)<(n:Int):=by omega
   have h1:k<(L:List ByteArray).length:=by rw[Aa t];exact o
   obtain⟨b1,G,B,H,c0⟩:=(A.below x NLN) k h1;subst B;have d:=Ab ((Aa m).trans (Xv h1));have y:=Ab o;generalize (L:List ByteArray)[k]=u at c0 d;clear o h1 m;by_cases hu:u=s
   ·have C:(u.toList==s.toList)=R:=(Pe u s).2 hu;have f:=Ab ((Aa d).trans (if_pos hu));clear d hu;go_wp2
    go_ret
    exact⟨by rw[Aa f];rfl,l⟩
   ·have C:(u.toList==s.toList)=jA:=by rw[Z0];exact fun h=>hu ((Pe u s).1 h)
    have f:=Ab ((Aa d).trans (if_neg hu));clear d hu;go_wp2
    go_roundw
    case rel=>exact⟨k+1,Aa y,by go_num,l,x,f⟩
    case measure=>have:=Aa y;simp[intOf];omega
  ·have e:k=n:=by omega
   subst e;have f:=Ab (show AD s L 0= -1 by rw[Aa m,yG (by rw[Aa t];omega)];rfl);go_wp2
   go_ret
   exact⟨by rw[Aa f];rfl,l⟩
end
theorem AaN (w:Z)(a c d f g:jB)(t:jI)(b:Nat)(i:b=w.heap.size):∀j u,([a,c,d,f,g]:List jB)[j]? =Y u->(w.alloc (jC #[a,c,d,f,g] t)).cell? ((⟨b,0,T⟩:jD).add j)=Y u:=fun j u h=>by
 subst i;have k:(⟨w.heap.size,0,T⟩:jD).add j=⟨w.heap.size,j,T⟩:=by by_cases e:j=0<;>simp[Addr.add,e]
 rw[k,(Ah.new w #[a,c,d,f,g] t).cell j,<-h];simp
section
open Go.RowKit Go.Extern.Stop Go.Stop Go.Extern
end
def Wd (w:Z) (x:jD) (n:Nat) (t:jI):Prop:=∃q cs,x=⟨q,0,T⟩/\Ah w q cs t/\cs.size=n
theorem AcZ {j:Nat}(h:j<ss.length):Ck ss j=ss[j]:=by simp[Ck,h]
theorem Yv {A B:List ByteArray}(a:A.length=B.length):A=B↔∀j,j<A.length->Ck A j=Ck B j:=by
 constructor
 ·rintro rfl j _;rfl
 ·intro h;refine List.ext_getElem a (fun j h1 b=>?_);have:=h j h1
  rwa[AcZ h1,AcZ b]at this
section
variable {aS aO aZ aW : jD} {G : Nat -> Prop}
theorem Mp {n:Nat}(h:AJ w a n c ss):∀j,j<ss.length->(Ck ss j).size<=maxLen:=fun j b=>h.sizes j (by rw[h.len];exact b)
end
section
open Classical in
noncomputable def Vp (num num':Int) (text text':ByteArray) (A A':List ByteArray):Bool:=decide (num=num'/\text=text'/\A=A')
open Classical in
theorem EJ (c0 num:Int) (text:ByteArray) (a:Option jD) (n c:Nat) (A:List ByteArray) (c0' num':Int) (text':ByteArray) (a':Option jD) (n' c':Nat) (A':List ByteArray) (w:Z) (h:AJ w a n c A) (h':AJ w a' n' c' A'):
  Calls jL 81 #[jE #[U V c0,U V num,Q text,X a n c],jE #[U V c0',U V num',Q text',X a' n' c']] w fun r w'=>r=jF (.bool (Vp num num' text text' A A'))/\An w w':=by
 have B0:=(AN w (jC #[U V c0,U V num,Q text,X a n c] 149)).alloc (by simp) (jC #[U V c0',U V num',Q text',X a' n' c'] 149);have R0:=(Ah.new w #[U V c0,U V num,Q text,X a n c] 149).alloc (jC #[U V c0',U V num',Q text',X a' n' c'] 149);have R1:=Ah.new (w.alloc (jC #[U V c0,U V num,Q text,X a n c] 149)) #[U V c0',U V num',Q text',X a' n' c'] 149;simp only[World.size_alloc]at R1;have H0:=h.below B0 NLN;have H1:=h'.below B0 NLN;have s1:n<=9223372036854775807:=by have:=h.cap;have:=h.small;unfold maxLen at this;omega
 have HA:=Ab h.len;have HB:=Ab h'.len;clear h h';by_cases hn:num=num'
 ·have en:(num !=num')=jA:=by rw[hn];simp
  by_cases ht:text=text'
  ·have et:(text.toList !=text'.toList)=jA:=by rw[ht];simp
   have et2:(text.toList==text'.toList)=R:=by rw[ht];simp
   by_cases hl:n=n'
   ·have el:((n:Int)!=(n':Int))=jA:=by rw[hl];simp
    have HE:=Ab (Yv (A:=A) (B:=A') (by rw[<-Aa HA,<-Aa HB,hl]));have HQ:=Ab (show Vp num num' text text' A A'=decide (A=A') by simp[Vp,hn,ht]);have Hnm:=Ab hl;clear hn ht hl;go_enter func81,ntmps81
    go_wp2_with fail
    generalize ((w.alloc (jC #[U V c0,U V num,Q text,X a n c] 149)).alloc (jC #[U V c0',U V num',Q text',X a' n' c'] 149))=W1 at B0 R0 R1 H0 H1|-;go_loopw [31] (fun i wr=>∃k:Nat,k<=n/\i=U V k/\An W1 wr/\Hid (∀j,j<k->Ck A j=Ck A' j)) (fun i _=>n-(intOf i).toNat)
    case atStart=>exact⟨0,by omega,rfl,BRN,Ab (fun j h=>absurd h (by omega))⟩
    case round=>
     obtain⟨k,hk,rfl,D1,Ha⟩:=hrel;have B1:=B0.trans (D1.mono B0.size);by_cases hlt:k<n
     ·have ilt:(k:Int)<(n:Int):=by omega
      have ilm:(k:Int)<(n':Int):=by have:=Aa Hnm;omega
      obtain⟨b1,o1,rfl,hl1,c1⟩:=(H0.below D1 NLN).cells k hlt;obtain⟨b2,o2,rfl,hl2,c2⟩:=(H1.below D1 NLN).cells k (by have:=Aa Hnm;omega);have q3:wr.cell? ⟨w.heap.size+1,3,T⟩=Y (X (Y ⟨b2,o2,T⟩) n' c'):=(R1.after D1 NLN).cell 3;have Hno:=Ab (show Ck A k≠Ck A' k->decide (A=A')=jA from fun e=>zI (fun e'=>e ((Aa HE).1 e' k (by rw[<-Aa HA];exact hlt))));have HN:=Ab (show Ck A k=Ck A' k->∀j,j<k+1->Ck A j=Ck A' j from fun e j h'=>by
       by_cases ej:j=k
       ·subst ej;exact e
       ·exact Aa Ha j (by omega))
      have Hlt:=Ab hlt;clear Ha hlt;generalize Ck A k=x at c1 Hno HN;generalize Ck A' k=y at c2 Hno HN;by_cases hxy:x=y
      ·have exy:(y.toList==x.toList)=R:=(Pe y x).2 hxy.symm;have HN2:=Ab (Aa HN hxy);clear hxy Hno HN;go_wp2
       go_roundw
       case rel=>exact⟨k+1,Aa Hlt,by go_num,D1,HN2⟩
       case measure=>have:=Aa Hlt;simp[intOf];omega
      ·have exy:(y.toList==x.toList)=jA:=by rw[Z0];exact fun h=>hxy ((Pe y x).1 h).symm
       have HX:=Ab (Aa Hno hxy);clear hxy Hno HN;go_wp2
       go_ret
       exact⟨Ag ((Aa HQ).trans (Aa HX)).symm,B1⟩
     ·have e:k=n:=by omega
      subst e;have HX:=Ab (show decide (A=A')=R from zN ((Aa HE).2 (fun j hj=>Aa Ha j (by have:=Aa HA;omega))));go_wp2
      go_ret
      exact⟨Ag ((Aa HQ).trans (Aa HX)).symm,B1⟩
   ·have el:((n:Int)!=(n':Int))=R:=zp.2 (by omega);have HX:=Ab (show Vp num num' text text' A A'=jA from zI (fun e=>hl (by rw[Aa HA,Aa HB,e.2.2])));clear hn ht hl;go_enter func81,ntmps81
    go_wp2
    go_ret
    exact⟨Ag (Aa HX).symm,B0⟩
  ·have et:(text.toList !=text'.toList)=R:=by rw[bne,Z0.2 (fun k=>ht ((Pe _ _).1 k))];rfl
   have et2:(text.toList==text'.toList)=jA:=Z0.2 (fun k=>ht ((Pe _ _).1 k));have HX:=Ab (show Vp num num' text text' A A'=jA from zI (fun e=>ht e.2.1));clear hn ht;go_enter func81,ntmps81
   go_wp2
   go_ret
   exact⟨Ag (Aa HX).symm,B0⟩
 ·have en:(num !=num')=R:=zp.2 hn;have HX:=Ab (show Vp num num' text text' A A'=jA from zI (fun e=>hn e.1));clear hn;go_enter func81,ntmps81
  go_wp2
  go_ret
  exact⟨Ag (Aa HX).symm,B0⟩
end
def ZS (w:Z) (a:Option jD) (c:Nat):Prop:=(a=T->c=0)/\∀ad,a=Y ad->∃cs,Ah w ad.block cs 9
theorem ZS.below (h:ZS w a c)(b:Below B w w')(d:w.heap.size<=B):ZS w' a c:=⟨h.1,fun f e=>by
 obtain⟨g,r⟩:=h.2 f e;exact⟨g,r.after b d⟩⟩
theorem ZS.setCell {w:Z}{a:Option jD}{c:Nat}(h:ZS w a c)(b j:Nat)(u:jB):ZS (w.setCell ⟨b,j,T⟩ u) a c:=⟨h.1,fun d e=>by
 obtain⟨f,r⟩:=h.2 d e;by_cases hp:d.block=b
 ·rw[hp]at r|-;exact⟨_,r.set j u⟩
 ·exact⟨f,r.setFar hp u⟩⟩
theorem ZS.of_owns {x:Option jD}{n:Nat}{a:List jB}(h:w.ownsRow B 9 1 (X x n cx) n a):ZS w x cx:=by
 rcases h.2 with⟨q,_⟩|⟨g,cap,b,q,_,hg,_⟩
 ·simp only[Value.slice.injEq]at q;obtain⟨rfl,_,rfl⟩:=q;exact⟨fun _=>rfl,fun c e=>nomatch e⟩
 ·simp only[Value.slice.injEq]at q;obtain⟨rfl,_,rfl⟩:=q;exact⟨fun e=>(nomatch e),fun c e=>⟨b,by cases e;exact⟨hg⟩⟩⟩
def MVs (w:Z) (num:Int) (text:ByteArray) (a:Option jD) (n c:Nat):Vv->Prop
 |.bool b=>num=(if b then 1 else 0)/\text=⟨#[]⟩/\a=T/\n=0/\c=0
 |.int k=>(num=k/\FJ k)/\text=⟨#[]⟩/\a=T/\n=0/\c=0
 |.text s=>num=0/\text=s/\a=T/\n=0/\c=0
 |.set ss=>num=0/\text=⟨#[]⟩/\AJ w a n c ss/\ss.length<=1048576/\ZS w a c
theorem MVs.below {w w':Z}{B:Nat}{num:Int}{text:ByteArray}{a:Option jD}{n c:Nat}{v:Vv}(h:MVs w num text a n c v)(d:Below B w w')(f:w.heap.size<=B):MVs w' num text a n c v:=by
 cases v with
 |bool b=>exact h
 |int k=>exact h
 |text s=>exact h
 |set ss=>
  obtain⟨h1,g,i,j,h5⟩:=h;exact⟨h1,g,i.below d f,j,h5.below d f⟩
def Vv.names:Vv->List ByteArray
 |.set ss=>ss
 |_=> []
def VE (o:Ev) (w:Z) (r:Ending) (w':Z):Prop:=
 (∃code num text a n c,r=jF (jE #[U V code,U V num,Q text,X a n c])/\(match o with
  |.ok v=>code=0/\MVs w' num text a n c v
  |.err e=>code=e/\e≠0))/\An w w'
theorem VF (b:Bool)(w:Z):Calls jL 129 #[.bool b] w (VE (.ok (.bool b)) w):=by
 have a:∀c,An w (w.alloc (jC c 149)):=fun c=>AN w _;cases b with
 |true=>
  go_enter func129,ntmps129
  go_wp2_with fail
  refine bodyPost_ret (v:= jE #[U V 0,U V 1,Q ⟨#[]⟩,X T 0 0]) (by simp[results,results129,go_sem]) rfl ?_
  exact⟨⟨_,_,_,_,_,_,rfl,rfl,rfl,rfl,rfl,rfl,rfl⟩,a _⟩
 |false=>
  go_enter func129,ntmps129
  go_wp2_with fail
  refine bodyPost_ret (v:= jE #[U V 0,U V 0,Q ⟨#[]⟩,X T 0 0]) (by simp[results,results129,go_sem]) rfl ?_
  exact⟨⟨_,_,_,_,_,_,rfl,rfl,rfl,rfl,rfl,rfl,rfl⟩,a _⟩
structure K5 where
 op:Int
 num:Int
 text:ByteArray
 an:Option jD
 nn:Nat
 cn:Nat
 ka:Option jD
 kn:Nat
 kc:Nat
abbrev CZ (k:K5):Obj:= jC #[U V k.op,U V k.num,Q k.text,X k.an k.nn k.cn,X k.ka k.kn k.kc] 101
abbrev Gm:Obj:= jC #[U V 0,U V 0,Q ⟨#[]⟩,X T 0 0,X T 0 0] 101
def K5.cs (k:K5):List jB:= [U V k.op,U V k.num,Q k.text,X k.an k.nn k.cn,X k.ka k.kn k.kc]
def IG (lo hi:Nat) (w W:Z):Prop:=hi<=W.heap.size/\∀q,lo<=q->q<hi->W.heap[q]? =w.heap[q]?
theorem IG.trans {lo hi:Nat}{w a w2:Z}(h:IG lo hi w a)(k:IG lo hi a w2):IG lo hi w w2:=⟨k.1,fun q h1 b=>(k.2 q h1 b).trans (h.2 q h1 b)⟩
theorem IG.of_below {lo hi B:Nat}{a:Z}(h:Below B w a)(h1:hi<=B)(b:hi<=w.heap.size):IG lo hi w a:=⟨zC b h.size,fun q _ c=>h.block q (by omega)⟩
theorem IG.sub {lo hi lo':Nat}{a:Z}(h:IG lo hi w a)(h1:lo<=lo')(b:hi'<=hi):IG lo' hi' w a:=⟨zC b h.1,fun q c d=>h.2 q (by omega) (by omega)⟩
theorem AdV (a:List K5)(j:Nat)(h:j<a.length):∀r,r<5->(a.flatMap K5.cs)[j*5+r]? =(a[j].cs)[r]? :=by
 induction a generalizing j with
 |nil=>simp at h
 |cons k a c=>
  intro r d;have b:k.cs.length=5:=rfl;cases j with
  |zero=>
   rw[zm,z2 (by rw[b];omega)];simp
  |succ j=>
   rw[zm,z8 (by rw[b];omega),b,show(j+1)*5+r-5=j*5+r by omega,c j (by simpa using h) r d];simp
def AO (w:Z) (ka:Option jD) (vs:List K5):Prop:=∀j,(h:j<vs.length)->∃b off,ka=Y ⟨b,off,T⟩/\b<w.heap.size/\∀r,r<5->w.cell? ⟨b,off+j*5+r,T⟩=(vs[j].cs)[r]?
theorem AO.below {ka:Option jD}{a:List K5}(h:AO w ka a)(c:Below B w w')(l:w.heap.size<=B):AO w' ka a:=fun j f=>by
 obtain⟨b,d,h1,g,i⟩:=h j f;exact⟨b,d,h1,zR g c.size,fun r k=>(c.cell (p:=⟨b,d+j*5+r,T⟩) (by show b<B;omega)).trans (i r k)⟩
def Tq (w:Z):Ex->K5->Prop
 |.un _ op c,k=>k.op=op/\k.num=0/\k.text=⟨#[]⟩/\k.nn=0/\k.kn=1/\∃k1,AO w k.ka [k1]/\Tq w c k1
 |.bin _ op l r,k=>k.op=op/\k.num=0/\k.text=⟨#[]⟩/\k.nn=0/\k.kn=2/\∃k1 k2,AO w k.ka [k1,k2]/\Tq w l k1/\Tq w r k2
 |.ite _ c t e,k=>k.op=27/\k.num=0/\k.text=⟨#[]⟩/\k.nn=0/\k.kn=3/\∃k1 k2 k3,AO w k.ka [k1,k2,k3]/\Tq w c k1/\Tq w t k2/\Tq w e k3
 |e,k=>k.op=(Ed e).op/\k.num=(Ed e).num/\k.text=(Ed e).text/\k.kn=0/\AJ w k.an k.nn k.cn (Ed e).names/\(Ed e).names.length<=1048576/\ZS w k.an k.cn
theorem Tq.below {w w':Z}{B:Nat}(a:Below B w w')(b:w.heap.size<=B):∀{e:Ex} {k:K5},Tq w e k->Tq w' e k
 |.un ..,k,h=>by
  obtain⟨h1,c,d,f,h5,g,i,j⟩:=h;exact⟨h1,c,d,f,h5,g,i.below a b,j.below a b⟩
 |.bin ..,k,h=>by
  obtain⟨h1,c,d,f,h5,g,l,i,j,m⟩:=h;exact⟨h1,c,d,f,h5,g,l,i.below a b,j.below a b,m.below a b⟩
 |.ite ..,k,h=>by
  obtain⟨h1,c,d,f,h5,g,l,n,i,j,m,o⟩:=h;exact⟨h1,c,d,f,h5,g,l,n,i.below a b,j.below a b,m.below a b,o.below a b⟩
 |.int ..,k,h=>⟨h.1,h.2.1,h.2.2.1,h.2.2.2.1,h.2.2.2.2.1.below a b,h.2.2.2.2.2.1,h.2.2.2.2.2.2.below a b⟩
 |.text ..,k,h=>⟨h.1,h.2.1,h.2.2.1,h.2.2.2.1,h.2.2.2.2.1.below a b,h.2.2.2.2.2.1,h.2.2.2.2.2.2.below a b⟩
 |.bool ..,k,h=>⟨h.1,h.2.1,h.2.2.1,h.2.2.2.1,h.2.2.2.2.1.below a b,h.2.2.2.2.2.1,h.2.2.2.2.2.2.below a b⟩
 |.set ..,k,h=>⟨h.1,h.2.1,h.2.2.1,h.2.2.2.1,h.2.2.2.2.1.below a b,h.2.2.2.2.2.1,h.2.2.2.2.2.2.below a b⟩
 |.name ..,k,h=>⟨h.1,h.2.1,h.2.2.1,h.2.2.2.1,h.2.2.2.2.1.below a b,h.2.2.2.2.2.1,h.2.2.2.2.2.2.below a b⟩
 |.attr ..,k,h=>⟨h.1,h.2.1,h.2.2.1,h.2.2.2.1,h.2.2.2.2.1.below a b,h.2.2.2.2.2.1,h.2.2.2.2.2.2.below a b⟩
 |.lett ..,k,h=>⟨h.1,h.2.1,h.2.2.1,h.2.2.2.1,h.2.2.2.2.1.below a b,h.2.2.2.2.2.1,h.2.2.2.2.2.2.below a b⟩
def FO:Ex->Int
 |.un _ op _=>op
 |.bin _ op _ _=>op
 |.ite .. =>27
 |e=>(Ed e).op
theorem Tq.op {w:Z}{e:Ex}{k:K5}(h:Tq w e k):k.op=FO e:=by cases e<;>exact h.1
def Aba:Ex->Int
 |.un .. =>0
 |.bin .. =>0
 |.ite .. =>0
 |e=>(Ed e).num
theorem Tq.num {w:Z}{e:Ex}{k:K5}(h:Tq w e k):k.num=Aba e:=by cases e<;>exact h.2.1
def Ahx:Ex->List ByteArray
 |.set _ _ _ _ ss=>ss
 |_=> []
theorem Tq.nn {w:Z}{e:Ex}{k:K5}(h:Tq w e k):k.nn=(Ahx e).length:=by
 cases e with
 |un=>exact h.2.2.2.1
 |bin=>exact h.2.2.2.1
 |ite=>exact h.2.2.2.1
 |_=>exact h.2.2.2.2.1.len
def Bi:Ex->Bool
 |.un _ op k=>decide (8<=op/\op<=10)&&Bi k
 |.bin _ op l r=>decide (11<=op/\op<=26)&&(Bi l&&Bi r)
 |.ite _ c t e=>Bi c&&(Bi t&&Bi e)
 |_=>R
theorem Cv {ts:List Int} :∀(e:Ex) (t:Int),AE ts e=Y t->Bi e=R
 |.un _ op k,t,h=>by
  rw[AE]at h;cases hk:AE ts k with
  |none=>rw[hk]at h;cases h
  |some a=>
   rw[hk]at h;have:=Ft h;simp only[Bi,Cv k a hk,Bool.and_true,zG];omega
 |.bin _ op x y,t,h=>by
  rw[AE]at h;cases hx:AE ts x with
  |none=>rw[hx]at h;cases h
  |some a=>
   cases hy:AE ts y with
   |none=>rw[hx,hy]at h;cases h
   |some b=>
    rw[hx,hy]at h;have:=EP h;simp only[Bi,Cv x a hx,Cv y b hy,Bool.and_true,zG];omega
 |.ite _ x y z,t,h=>by
  rw[AE]at h;cases hx:AE ts x with
  |none=>rw[hx]at h;cases h
  |some a=>
   cases hy:AE ts y with
   |none=>rw[hx,hy]at h;cases h
   |some b=>
    cases c:AE ts z with
    |none=>rw[hx,hy,c]at h;cases h
    |some d=>simp[Bi,Cv x a hx,Cv y b hy,Cv z d c]
 |.int ..,_,_=>rfl
 |.text ..,_,_=>rfl
 |.bool ..,_,_=>rfl
 |.set ..,_,_=>rfl
 |.name ..,_,_=>rfl
 |.attr ..,_,_=>rfl
 |.lett ..,_,_=>rfl
theorem YF {e:Ex}(h:Bi e=R):e.con=decide (1<=FO e/\FO e<=4):=by
 cases e with
 |un i op k=>
  simp only[Bi,zD,zG]at h;exact(zI (by show ¬ (1<=op/\op<=4);omega)).symm
 |bin i op l r=>
  simp only[Bi,zD,zG]at h;exact(zI (by show ¬ (1<=op/\op<=4);omega)).symm
 |_=>rfl
theorem Agv {n:Int}{e:Ex}(h:Bi e=R):U9 n e=(decide (FO e=1)&&decide (Aba e=n)):=by
 cases e with
 |un i op k=>
  simp only[Bi,zD,zG]at h;rw[zI (show ¬ FO (.un i op k)=1 by show ¬ op=1;omega)];rfl
 |bin i op l r=>
  simp only[Bi,zD,zG]at h;rw[zI (show ¬ FO (.bin i op l r)=1 by show ¬ op=1;omega)];rfl
 |_=>rfl
theorem Agw {e:Ex}(h:Bi e=R):isB b e=(decide (FO e=3)&&decide (Aba e=if b then 1 else 0)):=by
 cases e with
 |un i op k=>
  simp only[Bi,zD,zG]at h;rw[zI (show ¬ FO (.un i op k)=3 by show ¬ op=3;omega)];rfl
 |bin i op l r=>
  simp only[Bi,zD,zG]at h;rw[zI (show ¬ FO (.bin i op l r)=3 by show ¬ op=3;omega)];rfl
 |bool i c=>cases b<;>cases c<;>rfl
 |_=>rfl
theorem Agx {e:Ex}(h:Bi e=R):SI e=(decide (FO e=4)&&decide ((Ahx e).length=0)):=by
 cases e with
 |un i op k=>
  simp only[Bi,zD,zG]at h;rw[zI (show ¬ FO (.un i op k)=4 by show ¬ op=4;omega)];rfl
 |bin i op l r=>
  simp only[Bi,zD,zG]at h;rw[zI (show ¬ FO (.bin i op l r)=4 by show ¬ op=4;omega)];rfl
 |_=>rfl
def Ry (b:Bool) (w:Z) (r:Ending) (w':Z):Prop:=r=jF (.bool b)/\An w w'
set_option maxHeartbeats 3200000
def Fq (op:Int) (bs:List Bool):Bool:=!decide (op=8\/(11<=op/\op<=16))&&bs.all id
theorem Xh {j:Nat}(h:j<bs.length)(a:(bs.take j).all id=R)(b:bs[j]=R):(bs.take (j+1)).all id=R:=by
 rw[zc h,List.all_append,a];simp[b]
theorem AdU {j:Nat}(h:j<bs.length)(a:bs[j]=jA):bs.all id=jA:=by
 rw[List.all_eq_false];exact⟨bs[j],zH h,by simp[a]⟩
theorem Dz (op num:Int)(text:ByteArray)(an:Option jD)(nn cn:Nat)(ka:Option jD)(m kc:Nat)(hm:m<=1048576)(c:List K5)(S:c.length=m)(bs:List Bool)(W:bs.length=m)(w:Z)(aa:AO w ka c)
  (ab:∀j,(h1:j<c.length)->(aq:j<bs.length)->∀L,An w L->Calls jL 48 #[jE #[U V c[j].op,U V c[j].num,Q c[j].text,X c[j].an c[j].nn c[j].cn,X c[j].ka c[j].kn c[j].kc]] L (Ry bs[j] L)):
  Calls jL 48 #[jE #[U V op,U V num,Q text,X an nn cn,X ka m kc]] w (Ry (Fq op bs) w):=by
 have ac:=Ah.new w #[U V op,U V num,Q text,X an nn cn,X ka m kc] 101;have a:=AN w (Bs op num text an nn cn ka m kc);have ad:=Ab ab;have ae:=Ab S;have J:=Ab W;have K:=aa.below a NLN;clear ab S W aa;by_cases s:op=8\/(11<=op/\op<=16)
 ·have o:=Ab (show Fq op bs=jA by rw[Fq,zN s];rfl);rcases s with af|⟨ag,ah⟩
  ·subst af;go_enter func48,ntmps48
   go_wp2
   go_ret
   exact⟨by rw[Aa o];rfl,a⟩
  ·have e8:(op==8)=jA:=zA.2 (by omega);go_enter func48,ntmps48
   go_wp2
   go_ret
   exact⟨by rw[Aa o];rfl,a⟩
 ·have o:=Ab (show Fq op bs=bs.all id by rw[Fq,zI s];rfl);have e8:(op==8)=jA:=zA.2 (by omega);by_cases ag: 11<=op
  ·have ah: ¬ (op<=16):=by omega
   clear s;go_enter func48,ntmps48
   go_wp2_with fail
   generalize w.alloc (Bs op num text an nn cn ka m kc)=M at ac a K|-;go_loopw [21] (fun i wr=>∃j:Nat,j<=m/\i=U V j/\An M wr/\Hid ((bs.take j).all id=R)) (fun i _=>m-(intOf i).toNat)
   case atStart=>exact⟨0,zE _,rfl,BRN,Ab rfl⟩
   case round=>
    obtain⟨j,ai,rfl,d,t⟩:=hrel;by_cases g:j<m
    ·have aj:(j:Int)<(m:Int):=by omega
     have p:j<c.length:=by rw[Aa ae];exact g
     have l:j<bs.length:=by rw[Aa J];exact g
     obtain⟨b,ak,rfl,al,hc⟩:=(K.below d NLN) j p;have c0:=hc 0 (by decide);have c1:=hc 1 (by decide);have c2:=hc 2 (by decide);have c3:=hc 3 (by decide);have c4:=hc 4 (by decide);simp only[K5.cs,ze,z4,z1]at c0 c1 c2 c3 c4;have n:=Ab (Aa ad j p l);have u:=Ab (show bs[j]=R->(bs.take (j+1)).all id=R from fun h=>Xh l (Aa t) h);have v:=Ab (show bs[j]=jA->bs.all id=jA from fun h=>AdU l h);have x:=Ab g;generalize c[j]=k at c0 c1 c2 c3 c4 n;generalize bs[j]=N at n u v;obtain⟨y,z,A,B,C,D,E,F,G⟩:=k;dsimp only at c0 c1 c2 c3 c4 n;clear hc g p l;have H:=a.trans (d.mono a.size);have q:=AN wr (Bs y z A B C D E F G);have O:=H.trans (q.mono H.size);obtain⟨ao,d1,d2,d3,d4,_⟩:=Aq (Ah.new wr #[U V y,U V z,Q A,X B C D,X E F G] 101);go_wp2_with fail
     refine(Aa n _ O).mono ?_;rintro r ap ⟨rfl,P⟩;have I:=(d.trans (q.mono d.size)).trans (P.mono (zC d.size q.size));cases N with
     |false=>
      have f:=Ab (Aa v rfl);dsimp only;go_wp2
      go_ret
      exact⟨by rw[Aa o,Aa f];rfl,a.trans (I.mono a.size)⟩
     |true=>
      have f:=Ab (Aa u rfl);dsimp only;go_wp2
      go_roundw
      case rel=>exact⟨j+1,Aa x,by go_num,I,f⟩
      case measure=>have:=Aa x;simp[intOf];omega
    ·have e:j=m:=by omega
     subst e;have f:=Ab (show bs.all id=R by rw[<-Aa t,zf (by rw[Aa J];exact NLN)]);go_wp2
     go_ret
     exact⟨by rw[Aa o,Aa f];rfl,a.trans (d.mono a.size)⟩
  ·clear s;go_enter func48,ntmps48
   go_wp2_with fail
   generalize w.alloc (Bs op num text an nn cn ka m kc)=M at ac a K|-;go_loopw [21] (fun i wr=>∃j:Nat,j<=m/\i=U V j/\An M wr/\Hid ((bs.take j).all id=R)) (fun i _=>m-(intOf i).toNat)
   case atStart=>exact⟨0,zE _,rfl,BRN,Ab rfl⟩
   case round=>
    obtain⟨j,ai,rfl,d,t⟩:=hrel;by_cases g:j<m
    ·have aj:(j:Int)<(m:Int):=by omega
     have p:j<c.length:=by rw[Aa ae];exact g
     have l:j<bs.length:=by rw[Aa J];exact g
     obtain⟨b,ak,rfl,al,hc⟩:=(K.below d NLN) j p;have c0:=hc 0 (by decide);have c1:=hc 1 (by decide);have c2:=hc 2 (by decide);have c3:=hc 3 (by decide);have c4:=hc 4 (by decide);simp only[K5.cs,ze,z4,z1]at c0 c1 c2 c3 c4;have n:=Ab (Aa ad j p l);have u:=Ab (show bs[j]=R->(bs.take (j+1)).all id=R from fun h=>Xh l (Aa t) h);have v:=Ab (show bs[j]=jA->bs.all id=jA from fun h=>AdU l h);have x:=Ab g;generalize c[j]=k at c0 c1 c2 c3 c4 n;generalize bs[j]=N at n u v;obtain⟨y,z,A,B,C,D,E,F,G⟩:=k;dsimp only at c0 c1 c2 c3 c4 n;clear hc g p l;have H:=a.trans (d.mono a.size);have q:=AN wr (Bs y z A B C D E F G);have O:=H.trans (q.mono H.size);obtain⟨ao,d1,d2,d3,d4,_⟩:=Aq (Ah.new wr #[U V y,U V z,Q A,X B C D,X E F G] 101);go_wp2_with fail
     refine(Aa n _ O).mono ?_;rintro r ap ⟨rfl,P⟩;have I:=(d.trans (q.mono d.size)).trans (P.mono (zC d.size q.size));cases N with
     |false=>
      have f:=Ab (Aa v rfl);dsimp only;go_wp2
      go_ret
      exact⟨by rw[Aa o,Aa f];rfl,a.trans (I.mono a.size)⟩
     |true=>
      have f:=Ab (Aa u rfl);dsimp only;go_wp2
      go_roundw
      case rel=>exact⟨j+1,Aa x,by go_num,I,f⟩
      case measure=>have:=Aa x;simp[intOf];omega
    ·have e:j=m:=by omega
     subst e;have f:=Ab (show bs.all id=R by rw[<-Aa t,zf (by rw[Aa J];exact NLN)]);go_wp2
     go_ret
     exact⟨by rw[Aa o,Aa f];rfl,a.trans (d.mono a.size)⟩
def BoA (b:Bool) (w:Z) (r:Ending) (w':Z):Prop:=r=jF (.bool b)/\An w w'
theorem DX {e:Ex}{k:K5}(h:Tq w e k)(d:Bi e=R):Calls jL 99 #[jE #[U V k.op,U V k.num,Q k.text,X k.an k.nn k.cn,X k.ka k.kn k.kc]] w (BoA e.con w):=by
 have h0:=YF d;rw[<-h.op]at h0;have b:=AN w (CZ k);by_cases h1: 1<=k.op
 ·by_cases c:k.op<=4
  ·have a:e.con=R:=h0.trans (zN ⟨h1,c⟩);rw[a];go_enter func99,ntmps99
   go_wp2
   go_ret
   exact⟨rfl,b⟩
  ·have a:e.con=jA:=h0.trans (zI (fun e=>c e.2));rw[a];go_enter func99,ntmps99
   go_wp2
   go_ret
   exact⟨rfl,b⟩
 ·have a:e.con=jA:=h0.trans (zI (fun e=>h1 e.1));rw[a];go_enter func99,ntmps99
  go_wp2
  go_ret
  exact⟨rfl,b⟩
theorem UM {e:Ex}{k:K5}(h:Tq w e k)(d:Bi e=R)(n:Int):Calls jL 119 #[jE #[U V k.op,U V k.num,Q k.text,X k.an k.nn k.cn,X k.ka k.kn k.kc],U V n] w (BoA (U9 n e) w):=by
 have h0:=Agv (n:=n) d;rw[<-h.op,<-h.num]at h0;have c:=AN w (CZ k);by_cases h1:k.op=1
 ·have f:(k.op==1)=R:=zF.2 h1;by_cases b:k.num=n
  ·have g:(k.num==n)=R:=zF.2 (by omega);have a:U9 n e=R:=h0.trans (by rw[zN h1,zN b];rfl);clear h1 b h0;rw[a];go_enter func119,ntmps119
   go_wp2
   go_ret
   exact⟨rfl,c⟩
  ·have g:(k.num==n)=jA:=zA.2 (by omega);have a:U9 n e=jA:=h0.trans (by rw[zN h1,zI b];rfl);clear h1 b h0;rw[a];go_enter func119,ntmps119
   go_wp2
   go_ret
   exact⟨rfl,c⟩
 ·have f:(k.op==1)=jA:=zA.2 h1;have a:U9 n e=jA:=h0.trans (by rw[zI h1];rfl);clear h1 h0;rw[a];go_enter func119,ntmps119
  go_wp2
  go_ret
  exact⟨rfl,c⟩
theorem Gb {e:Ex}{k:K5}(h:Tq w e k)(g:Bi e=R)(b:Bool)(z:Int)(f:z=if b then 1 else 0):Calls jL 74 #[jE #[U V k.op,U V k.num,Q k.text,X k.an k.nn k.cn,X k.ka k.kn k.kc],U V z] w (BoA (isB b e) w):=by
 have h0:=Agw (b:=b) g;rw[<-h.op,<-h.num,<-f]at h0;clear f;have d:=AN w (CZ k);by_cases h1:k.op=3
 ·have i:(k.op==3)=R:=zF.2 h1;by_cases c:k.num=z
  ·have j:(k.num==z)=R:=zF.2 (by omega);have a:isB b e=R:=h0.trans (by rw[zN h1,zN c];rfl);clear h1 c h0;rw[a];go_enter func74,ntmps74
   go_wp2
   go_ret
   exact⟨rfl,d⟩
  ·have j:(k.num==z)=jA:=zA.2 (by omega);have a:isB b e=jA:=h0.trans (by rw[zN h1,zI c];rfl);clear h1 c h0;rw[a];go_enter func74,ntmps74
   go_wp2
   go_ret
   exact⟨rfl,d⟩
 ·have i:(k.op==3)=jA:=zA.2 h1;have a:isB b e=jA:=h0.trans (by rw[zI h1];rfl);clear h1 h0;rw[a];go_enter func74,ntmps74
  go_wp2
  go_ret
  exact⟨rfl,d⟩
theorem NT {e:Ex}{k:K5}(h:Tq w e k)(d:Bi e=R):Calls jL 118 #[jE #[U V k.op,U V k.num,Q k.text,X k.an k.nn k.cn,X k.ka k.kn k.kc]] w (BoA (SI e) w):=by
 have h0:=Agx d;rw[<-h.op,<-h.nn]at h0;have c:=AN w (CZ k);by_cases h1:k.op=4
 ·have f:(k.op==4)=R:=zF.2 h1;by_cases b:k.nn=0
  ·have g:((k.nn:Int)==0)=R:=zF.2 (by omega);have a:SI e=R:=h0.trans (by rw[zN h1,zN b];rfl);clear h1 b h0;rw[a];go_enter func118,ntmps118
   go_wp2
   go_ret
   exact⟨rfl,c⟩
  ·have g:((k.nn:Int)==0)=jA:=zA.2 (by omega);have a:SI e=jA:=h0.trans (by rw[zN h1,zI b];rfl);clear h1 b h0;rw[a];go_enter func118,ntmps118
   go_wp2
   go_ret
   exact⟨rfl,c⟩
 ·have f:(k.op==4)=jA:=zA.2 h1;have a:SI e=jA:=h0.trans (by rw[zI h1];rfl);clear h1 h0;rw[a];go_enter func118,ntmps118
  go_wp2
  go_ret
  exact⟨rfl,c⟩
theorem LZ (h:AR ss=R):ss.length<=64/\JF ss=R/\Fo ss=R:=by
 simp[AR]at h;exact h
theorem Aad (h1:ss.length<=64)(a:JF ss=R)(b:Fo ss=R):AR ss=R:=by
 simp[AR,h1,a,b]
theorem AdS {q:Bool}{x:ByteArray} :x∈ED ss tt q↔x∈ss/\Oe tt x=q:=by
 unfold ED;rw[List.mem_filter,zF]
theorem Abf (tt:List ByteArray)(q:Bool)(h:Fo ss=R):Fo (ED ss tt q)=R:=by
 rw[Fo,zG]at h|-;exact h.filter _
theorem Pp {K:List ByteArray}(h:JF ss=R)(hk:∀x∈K,x∈ss):JF K=R:=by
 rw[JF,zt]at h|-;exact fun x hx=>h x (hk x hx)
theorem TZ (tt:List ByteArray)(q:Bool)(h:AR ss=R):AR (ED ss tt q)=R:=by
 obtain⟨h1,a,b⟩:=LZ h;exact Aad (zC (IP ss tt q) h1) (Pp a fun x hx=>(AdS.1 hx).1) (Abf tt q b)
theorem AdT (h:JF ss=R)(h':JF tt=R):JF (ss++tt)=R:=by
 rw[JF,List.all_append,zD];exact⟨h,h'⟩
theorem WJ {M:List ByteArray}(h1:AR ss=R)(b:AR tt=R)(a:Cu (ss++tt) M)(c:M.length<=64):AR M=R:=by
 obtain⟨_,a1,_⟩:=LZ h1;obtain⟨_,a2,_⟩:=LZ b;exact Aad c (Pp (AdT a1 a2) fun x hx=>(a.mem x).1 hx) a.rise
theorem Aa8 (h1:AR ss=R)(a:AR tt=R):AR (DB ss tt)=R:=by
 have e1:DB ss tt=ED ss tt R:=by simp[DB,h1,a]
 rw[e1];exact TZ tt R h1
theorem WM (h1:AR ss=R)(a:AR tt=R):AR (Cb ss tt)=R:=by
 have e1:Cb ss tt=ED ss tt jA:=by simp[Cb,h1,a]
 rw[e1];exact TZ tt jA h1
structure Wr (w:Z) (g:Nat) (h0 h1 h2:Int) (v:jB) (O:List Int):Prop where
 row:Ah w g #[U V h0,U V h1,U V h2,v] 39
 own:w.ownsRow (g+1) 5 1 v O.length (AA O)
def WK (g:Nat) (w:Z) (v:jB) (w':Z) (v':jB):Prop:=(∀k,k<w.heap.size->k≠g->Y k≠v.ownBlock->w'.heap[k]? =w.heap[k]?)/\(∀q,v'.ownBlock=Y q->v.ownBlock=Y q\/w.heap.size<=q)/\w.heap.size<=w'.heap.size
theorem WK.refl (g:Nat)(w:Z)(v:jB):WK g w v w v:=⟨fun _ _ _ _=>rfl,fun q h=> .inl h,NLN⟩
theorem WK.trans {g:Nat}{w a w2:Z}{v b c:jB}(h:WK g w v a b)(k:WK g a b w2 c):WK g w v w2 c:=
 ⟨fun j d hg f=>(k.1 j (zR d h.2.2) hg (fun e=>by
  rcases h.2.1 j e.symm with e'|e'
  ·exact f e'.symm
  ·omega)).trans (h.1 j d hg f),fun q i=>by
  rcases k.2.1 q i with e|e
  ·exact h.2.1 q e
  ·exact .inr (zC h.2.2 e),zC h.2.2 k.2.2⟩
theorem Ah.wk {g:Nat}{b:Nat}{a:Array jB}{t:jI}(R:Ah w b a t)(h:WK g w v w' v')(hg:b≠g)(c:v.ownBlock≠Y b):Ah w' b a t:=⟨(h.1 b R.lt hg (fun e=>c e.symm)).trans R.out⟩
theorem AaC {g:Nat}{o:Obj}{b n c:Nat}(hg:(w.alloc o).grownBy w' v.ownBlock)(a:v.ownBlock=Y b\/b=w.heap.size+1)(u:jB):WK g w v (w'.setCell ⟨g,3,T⟩ u) (X (Y ⟨b,0,T⟩) n c):=
 ⟨fun k hk d f=>(heap_setCell_other w' ⟨g,3,T⟩ k u d).trans ((hg.block k (by simp;omega) f).trans (Below.heap_alloc w o k hk)),fun q h=>by
  have:b=q:=by simpa[Value.ownBlock]using h
  subst this;rcases a with e|e
  ·exact .inl e
  ·right;omega,by have:=hg.size;simp at this|-;omega⟩
def VI (w:Z) (g:Nat) (h0 h1 h2:Int) (v:jB) (R:List Int) (e:Ending) (w':Z):Prop:=e=jF (.tuple #[])/\∃v',Wr w' g h0 h1 h2 v' R/\WK g w v w' v'/\Below g w w'
theorem Nw {g:Nat}{u:jB}{n:Nat}{a:List jB}(h:w.ownsRow (g+1) 5 1 v n a):(w.setCell ⟨g,3,T⟩ u).ownsRow (g+1) 5 1 v n a:=by
 refine⟨h.1,?_⟩;rcases h.2 with b|⟨q,cap,c,hv,h1,d,f⟩
 ·exact .inl b
 ·exact .inr ⟨q,cap,c,hv,h1,(heap_setCell_other w ⟨g,3,T⟩ q u (by show q≠g;omega)).trans d,f⟩
theorem Cy (g:Nat)(h0 h1 h:Int)(v:jB)(O:List Int)(num:Int)(b:Nat)(w:Z)(C:Wr w g h0 h1 h v O)(M:b<=8)(N:O.length<=100000000):
  Calls jL 36 #[.pointer (Y ⟨g,0,T⟩),U V num,U V b] w fun e w'=>VI w g h0 h1 h v (O++BS num b) e w':=by
 obtain⟨i,hi,D,E,F⟩:=info_parts Mm;go_enter func36,ntmps36
 go_wp2_with fail
 go_loopw [6] (fun i wr=>∃ (k:Nat) (v':jB) (a:List Int),k<=b/\i=U V ((k:Int)-1)/\Hid (a++BS num k=O++BS num b)/\a.length+k=O.length+b/\Wr wr g h0 h1 h v' a/\WK g w v wr v'/\Below g w wr) (fun i _=>(intOf i+1).toNat)
 case atStart=>exact⟨b,v,O,NLN,rfl,Ab rfl,rfl,C,WK.refl _ _ _,BRN⟩
 case round=>
  obtain⟨k,v',a,hk,rfl,l,P,d,s,t⟩:=hrel;cases k with
  |zero=>
   have G:=Ab (show a=O++BS num b by have:=Aa l;rw[BS,zd]at this;exact this);go_wp2_with fail
   exact bodyPost_end (by simp[results,results36,go_sem]) rfl ⟨rfl,v',by rw[<-Aa G];exact d,s,t⟩
  |succ k=>
   have H:(((k+1 :Nat):Int)-1)=(k:Int):=by omega
   rw[H];have S:(k:Int)<=7:=by omega
   have W:(0 :Int)<=(k:Int):=by omega
   have aa:∀w,(Op.shift .shr V num V (IntKind.i64.wrap (8*(k:Int)))).run jL w= .ok (U V (num / 2 ^ (8*k))) w:=fun w=>by
    rw[IntKind.wrap_i64,show(8*(k:Int)+9223372036854775808) % 18446744073709551616-9223372036854775808=8*(k:Int) by omega,shift_shr V V num (8*(k:Int)) (by omega) (by show 8*(k:Int)<=64;omega),show(8*(k:Int)).toNat=8*k by omega];rfl
   have ab:IntKind.u8.wrap (num / 2 ^ (8*k))=BQ num k:=Yc _;have I:=Ab (show(a++[BQ num k])++BS num k=O++BS num b by have:=Aa l;rw[BS]at this;rw[<-this,zJ];rfl);obtain⟨x,c,rfl⟩:=Au d.own;have y:=d.row.cell 3;have J:=d.row.frozen 3;simp only[List.getElem?_toArray,z1,z4]at y;clear l;go_wp2_with fail
   have ac:wr.drew.cell? ⟨g,3,T⟩=Y (X x a.length c)/\wr.drew.frozen? ⟨g,3,T⟩=jA:=⟨y,J⟩
   have ad:=d.row.lt;have z:∀q,(Value.slice x a.length c).ownBlock=Y q->g+1<=q:=fun q m=>(d.own.lt q m).1;have A:(wr.alloc (jC #[U .u8 (BQ num k)] 5)).drew.ownsRow (g+1) 5 1 (X x a.length c) a.length (AA a):=(d.own.alloc _).drew;go_region_law (refine step_append_lies _ rfl _ _ 22 rfl (g+1) 5 i (U .u8 0) 1 1 underlying22 hi D E F rfl (by decide) (X x a.length c) a.length (AA a) rfl A ⟨wr.heap.size,0,T⟩ 1 1 [U .u8 (BQ num k)] rfl rfl (Dr wr _ _ _ rfl) (by intro u hu;simp at hu;subst hu;rfl) (by decide) (by unfold maxLen;omega) (by omega) (by simp;omega) _ rfl ?_;intro b1 c1 j B f hat ae;have o:Ah j g #[U V h0,U V h1,U V h,X x a.length c] 39:=⟨(f.block g (by simp;omega) (fun e=>by have:=z g e.symm;omega)).trans (d.row.alloc (jC #[U .u8 (BQ num k)] 5)).out⟩;have s1:j.cell? ⟨g,3,T⟩=Y (X x a.length c)/\j.frozen? ⟨g,3,T⟩=jA:=⟨o.cell 3,o.frozen 3⟩;obtain⟨af,ag⟩:=s1)
   all_goals
    have r:(wr.alloc (jC #[U .u8 (BQ num k)] 5)).grownBy j (Value.slice x a.length c).ownBlock:=⟨f.os,f.tape,f.output,f.size,f.block⟩
    have K2:=s.trans (AaC (n:=a.length+1) (c:=c1) r (hat.imp id (fun e=>by rw[e];show(wr.alloc _).heap.size=_;simp)) (X (Y ⟨b1,0,T⟩) (a.length+1) c1));have K:=((t.alloc (by omega) (jC #[U .u8 (BQ num k)] 5)).grown r (by simp;omega) (fun q m=>by have:=z q m;omega)).setCell (p:=⟨g,3,T⟩) NLN (X (Y ⟨b1,0,T⟩) (a.length+1) c1);have L:Wr (j.setCell ⟨g,3,T⟩ (X (Y ⟨b1,0,T⟩) (a.length+1) c1)) g h0 h1 h (X (Y ⟨b1,0,T⟩) (a.length+1) c1) (a++[BQ num k]):=⟨o.set 3 _,Nw (LA B)⟩
    clear f r hat B A;go_wp2
    go_roundw
    case rel=>exact⟨k,_,a++[BQ num k],by omega,by go_num,I,by rw[zB,zg];omega,L,K2,K⟩
    case measure=>simp[intOf]
section
variable {aS aO aZ aW : jD} {G : Nat -> Prop}
end
section
open Go.RowKit Go.Extern.Stop Go.Stop Go.Extern
variable {aS aO aZ aW : jD}
end
theorem P6 (a f:Option jD)(n c c':Nat)(ss:List ByteArray)(w:Z)(h:AJ w a n c ss)(h':AJ w f n c' ss):
  Calls jL 19 #[X a n c,X f n c'] w fun e w'=>e=jF (.bool R)/\An w w':=by
 have m:n<=9223372036854775807:=by have:=h.cap;have:=h.small;unfold maxLen at this;omega
 go_enter func19,ntmps19
 go_wp2
 go_loopw [5,6,14] (fun _ _ i wr=>∃k:Nat,k<=n/\i=U V k/\An w wr) (fun _ _ i _=>n-(intOf i).toNat)
 case atStart=>exact⟨0,zE _,rfl,BRN⟩
 case round=>
  obtain⟨k,hk,rfl,d⟩:=hrel;by_cases g:k<n
  ·obtain⟨b,o,j,_,hc⟩:=(h.below d NLN).cells k g;obtain⟨p,q,l,_,r⟩:=(h'.below d NLN).cells k g;subst j;subst l;have s:(k:Int)<(n:Int):=by omega
   go_wp2
   first
    |go_roundw
     case rel=>exact⟨k+1,by omega,by go_num,d⟩
     case measure=>simp[intOf]<;>omega
    |go_quiet (fail)
     go_wp2
     go_roundw
     case rel=>exact⟨k+1,by omega,by go_num,below_drewN d _⟩
     case measure=>simp[intOf]<;>omega
  ·go_wp2
   go_ret
   exact⟨rfl,d⟩
end Go.Proofs.YtppafecmccdplaaGreat
