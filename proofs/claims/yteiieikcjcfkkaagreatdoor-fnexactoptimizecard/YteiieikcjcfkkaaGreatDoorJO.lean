import Derived.Test.YteiieikcjcfkkaaGreatDoorMXAG
open Go.Proofs.Tryz
open Option renaming none->T,some->X
open Go.Value renaming int->U,string->Q,iface->jB,pointer->jK,nilIface->jL,tuple->jO
open Go.IntKind renaming i64->V
open Go renaming World->Z,Value->R,Addr->jD,bodyPost_ret->jN,results->jR
open Bool renaming true->jA,false->jC
open Go.Proofs.Tryz renaming prog->j4
namespace Go.Proofs.YteiieikcjcfkkaaGreatDoor
set_option maxRecDepth 100000
set_option maxHeartbeats 6400000
open Go.RowKit
set_option linter.unusedVariables false
variable {op:Int}
def Ix:List (Int×Int×Int×Int):= [(8,2,0,2),(9,1,0,1),(10,4,0,2),(11,2,2,2),(12,2,2,2),(13,2,2,2),(14,2,2,2),(15,2,2,2),(16,4,4,4),(17,4,4,4),(18,4,4,4),(21,2,2,1),(22,2,2,1),(23,3,4,1),(24,4,4,1),(25,1,1,1),(26,1,1,1)]
def YI (op l r:Int) (s:Int×Int×Int×Int):Bool:=s.1==op&&(s.2.1==l&&s.2.2.1==r)
def opT (op l r:Int):Option Int:=if op=19\/op=20 then (if l=r then X 1 else T)else (Ix.find? (YI op l r)).map fun s=>s.2.2.2
def MY:Array R:=#[U V 8,U V 2,U V 0,U V 2,U V 9,U V 1,U V 0,U V 1,U V 10,U V 4,U V 0,U V 2,U V 11,U V 2,U V 2,U V 2,U V 12,U V 2,U V 2,U V 2,U V 13,U V 2,U V 2,U V 2,U V 14,U V 2,U V 2,U V 2,U V 15,U V 2,U V 2,U V 2,U V 16,U V 4,U V 4,U V 4,U V 17,U V 4,U V 4,U V 4,U V 18,U V 4,U V 4,U V 4,U V 21,U V 2,U V 2,U V 1,U V 22,U V 2,U V 2,U V 1,U V 23,U V 3,U V 4,U V 1,U V 24,U V 4,U V 4,U V 1,U V 25,U V 1,U V 1,U V 1,U V 26,U V 1,U V 1,U V 1]
theorem VY:∀k,k<17->MY.extract (k*4) (k*4+4)= #[U V (Ix.getD k (0,0,0,0)).1,U V (Ix.getD k (0,0,0,0)).2.1,U V (Ix.getD k (0,0,0,0)).2.2.1,U V (Ix.getD k (0,0,0,0)).2.2.2]
 |0,_=>rfl
 |1,_=>rfl
 |2,_=>rfl
 |3,_=>rfl
 |4,_=>rfl
 |5,_=>rfl
 |6,_=>rfl
 |7,_=>rfl
 |8,_=>rfl
 |9,_=>rfl
 |10,_=>rfl
 |11,_=>rfl
 |12,_=>rfl
 |13,_=>rfl
 |14,_=>rfl
 |15,_=>rfl
 |16,_=>rfl
 |n+17,h=>absurd h (by omega)
def PZ:Array R:=#[Q ⟨#[99,108,105,101,110,116]⟩,U V 3,Q ⟨#[117,115,101,114]⟩,U V 3,Q ⟨#[108,101,118,101,108]⟩,U V 2,Q ⟨#[110,111,119]⟩,U V 2,Q ⟨#[97,115,107,101,100]⟩,U V 4,Q ⟨#[97,103,114,101,101,100]⟩,U V 4]
structure N9 (w:Z) (aT:jD):Prop where
 s: 6 <w.heap.size
 sc:∀k,w.cell? ⟨6,k,T⟩=MY[k]?
 a: 0 <w.heap.size
 ac:∀k,w.cell? ⟨0,k,T⟩=PZ[k]?
 e: 1 <w.heap.size
 ec:w.cell? ⟨1,0,T⟩=X (jB 297 (jK (X aT)))
theorem N9.below {w w':Z}{aT:jD}{B:Nat}(h:N9 w aT)(b:Below B w w')(hB:w.heap.size<=B):N9 w' aT:=
 ⟨zE h.s b.size,fun k=>(b.cell (p:=⟨6,k,T⟩) (zE h.s hB)).trans (h.sc k),zE h.a b.size,fun k=>(b.cell (p:=⟨0,k,T⟩) (zE h.a hB)).trans (h.ac k),zE h.e b.size,(b.cell (p:=⟨1,0,T⟩) (zE h.e hB)).trans h.ec⟩
def Agf (b:Bool) (aT:jD):R:=match b with|true=> jL|false=> jB 297 (jK (X aT))
def AdB (o:Option Int) (aT:jD) (e:Ending):Prop:=e= .returned (jO #[U V (o.getD 0),Agf o.isSome aT])
theorem Aaw (p:Int×Int×Int×Int->Bool):∀(l:List (Int×Int×Int×Int)) (k:Nat) (h:k<l.length),(∀j,j<k->(a:j<l.length)->p l[j]=jC)->p l[k]=jA->l.find? p=X l[k]
 |x ::l,0,_,_,hp=>by simp at hp;simp[List.find?,hp]
 |x ::l,k+1,h,hn,hp=>by
  have h0:=hn 0 (by omega) (by simp);simp at h0;rw[List.find?_cons_of_neg (by simp[h0])];have:=Aaw p l k (by simpa using h) (fun j a b=>by have:=hn (j+1) (by omega) (by simpa using b);simpa using this) (by simpa using hp);simpa using this
theorem Agg (p:Int×Int×Int×Int->Bool)(l:List (Int×Int×Int×Int))(h:∀j,(a:j<l.length)->p l[j]=jC):l.find? p=T:=by
 rw[List.find?_eq_none];intro x hx;obtain⟨j,a,rfl⟩:=zy hx;rw[h j a];decide
theorem Gq (op l a:Int)(aT:jD)(w:Z)(h:N9 w aT):
  Calls j4 185 #[U V op,U V l,U V a] w fun e w'=>AdB (opT op l a) aT e/\Ah w w':=by
 have ec:=h.ec;have B:=Ab h.sc;have F:=Ab h.e;by_cases d:op=19\/op=20
 ·by_cases f:l=a
  ·have q:=Ab (show opT op l a=X 1 by rw[opT,if_pos d,if_pos f]);have G:(l !=a)=jC:=by simp[f]
   have H:(l==a)=jA:=zM.2 f;clear h;rcases d with rfl|rfl
   all_goals
    subst f;go_enter func185,ntmps185
    go_wp2_with fail
    exact jN (v:= jO #[U V 1,jL]) (by simp[jR,results185,go_sem]) rfl ⟨by rw[Aa q];rfl,BRN⟩
  ·have q:=Ab (show opT op l a=T by rw[opT,if_pos d,if_neg f]);have G:(l !=a)=jA:=zc.2 f;have H:(l==a)=jC:=zA.2 f;clear h f;rcases d with rfl|rfl
   all_goals
    go_enter func185,ntmps185
    go_wp2_with fail
    go_region
    all_goals
     go_wp2_with fail
     exact jN (v:= jO #[U V 0,jB 297 (jK (X aT))]) (by simp[jR,results185,go_sem]) rfl ⟨by rw[Aa q];rfl,BRN.drew⟩
 ·have L:(op==19)=jC:=zA.2 (fun e=>d (.inl e));have M:(op==20)=jC:=zA.2 (fun e=>d (.inr e));have q:=Ab (show opT op l a=(Ix.find? (YI op l a)).map (fun s=>s.2.2.2) by rw[opT,if_neg d]);clear h d;go_enter func185,ntmps185
  go_wp2_with (refine Ek rfl 284 _ rfl 6 rfl MY _ (Aa B) underlying284 rfl (by kernel_rfl) ?_)
  clear B;have N:Ix.length=17:=rfl;go_loopw [21] (fun i wr=>∃k:Nat,k<=17/\i=U V k/\Ah w wr/\∀j,j<k->(t:j<Ix.length)->YI op l a Ix[j]=jC) (fun i _=>17-(intOf i).toNat)
  case atStart=>exact⟨0,by omega,rfl,BRN,fun j h=>absurd h (by omega)⟩
  case round=>
   obtain⟨k,O,rfl,u,C⟩:=hrel;have r:=Ab C;clear C;have P:=(u.cell (p:=⟨1,0,T⟩) (Aa F)).trans ec;by_cases y:k<17
   ·have S:(k:Int)<17:=by omega
    have D:k<Ix.length:=by omega
    have m:=Ab (VY k y);have b:=Ab y;have hg:Ix.getD k (0,0,0,0)=Ix[k]:=by rw[List.getD,zG D];rfl
    rw[hg]at m;have g:=Ab (show YI op l a Ix[k]=jC->∀j,j<k+1->(t:j<Ix.length)->YI op l a Ix[j]=jC from fun e j t I=>by
     by_cases J:j=k
     ·subst J;exact e
     ·exact Aa r j (by omega) I)
    have n:=Ab (show YI op l a Ix[k]=jA->opT op l a=X Ix[k].2.2.2 from fun e=>by rw[Aa q,Aaw _ _ k D (Aa r) e];rfl);clear y hg r;generalize Ix[k]=s at m g n;obtain⟨o,s1,s2,z⟩:=s;simp only at m n;have x:=u.alloc u.size (.cells #[U V o,U V s1,U V s2,U V z] 283);have e0:YI op l a (o,s1,s2,z)=(o==op&&(s1==l&&s2==a)):=rfl;by_cases h0:o=op
    ·by_cases h1:s1=l
     ·by_cases h2:s2=a
      ·subst h0 h1 h2;have c:=Ab (Aa n (by rw[e0];simp));clear n g e0;go_wp2_with (refine Bq rfl 284 _ _ rfl MY rfl k rfl 17 283 underlying284 (Aa b) _ underlying283 rfl 4 (by kernel_rfl) _ (Aa m) ?_)
       exact jN (v:= jO #[U V z,jL]) (by simp[jR,results185,go_sem]) rfl ⟨by rw[Aa c];rfl,x⟩
      ·have A:(o==op)=jA:=zM.2 h0;have E:(s1==l)=jA:=zM.2 h1;have K:(s2==a)=jC:=zA.2 h2;have c:=Ab (Aa g (by rw[e0,K];simp));clear n g e0 h0 h1 h2;go_wp2_with (refine Bq rfl 284 _ _ rfl MY rfl k rfl 17 283 underlying284 (Aa b) _ underlying283 rfl 4 (by kernel_rfl) _ (Aa m) ?_)
       go_roundw
       case rel=>exact⟨k+1,Aa b,by go_num,x,Aa c⟩
       case measure=>have:=Aa b;simp[intOf];omega
     ·have A:(o==op)=jA:=zM.2 h0;have E:(s1==l)=jC:=zA.2 h1;have c:=Ab (Aa g (by rw[e0,E];simp));clear n g e0 h0 h1;go_wp2_with (refine Bq rfl 284 _ _ rfl MY rfl k rfl 17 283 underlying284 (Aa b) _ underlying283 rfl 4 (by kernel_rfl) _ (Aa m) ?_)
      go_roundw
      case rel=>exact⟨k+1,Aa b,by go_num,x,Aa c⟩
      case measure=>have:=Aa b;simp[intOf];omega
    ·have A:(o==op)=jC:=zA.2 h0;have c:=Ab (Aa g (by rw[e0,A];simp));clear n g e0 h0;go_wp2_with (refine Bq rfl 284 _ _ rfl MY rfl k rfl 17 283 underlying284 (Aa b) _ underlying283 rfl 4 (by kernel_rfl) _ (Aa m) ?_)
     go_roundw
     case rel=>exact⟨k+1,Aa b,by go_num,x,Aa c⟩
     case measure=>have:=Aa b;simp[intOf];omega
   ·have e:k=17:=by omega
    subst e;have c:=Ab (show opT op l a=T by rw[Aa q,Agg _ _ (fun j t=>Aa r j (by omega) t)];rfl);clear r;go_wp2_with fail
    go_region
    all_goals
     go_wp2_with fail
     exact jN (v:= jO #[U V 0,jB 297 (jK (X aT))]) (by simp[jR,results185,go_sem]) rfl ⟨by rw[Aa c];rfl,u.drew⟩
theorem AhX (h: 8<=op/\op<=10)(a:Int)(b: 1<=a/\a<=4):opT op a 0=nz (Ba op [a]):=by
 have h1:op=8\/op=9\/op=10:=by omega
 have h2:a=1\/a=2\/a=3\/a=4:=by omega
 rcases h1 with rfl|rfl|rfl<;>rcases h2 with rfl|rfl|rfl|rfl<;>decide
theorem Agh (h: 11<=op/\op<=26)(a b:Int)(c: 1<=a/\a<=4)(d: 1<=b/\b<=4):opT op a b=nz (Ba op [a,b]):=by
 have h1:op=11\/op=12\/op=13\/op=14\/op=15\/op=16\/op=17\/op=18\/op=19\/op=20\/op=21\/op=22\/op=23\/op=24\/op=25\/op=26:=by omega
 have h2:a=1\/a=2\/a=3\/a=4:=by omega
 have h3:b=1\/b=2\/b=3\/b=4:=by omega
 rcases h1 with rfl|rfl|rfl|rfl|rfl|rfl|rfl|rfl|rfl|rfl|rfl|rfl|rfl|rfl|rfl|rfl<;>rcases h2 with rfl|rfl|rfl|rfl<;>rcases h3 with rfl|rfl|rfl|rfl<;>decide
theorem P4 (a b c:Int)(aT:jD)(w:Z)(h:N9 w aT)(g: 1<=b/\b<=4):
  Calls j4 186 #[U V a,U V b,U V c] w fun e w'=>AdB (nz (Ba 27 [a,b,c])) aT e/\Ah w w':=by
 have ec:=h.ec;have d:=Ab (show nz (Ba 27 [a,b,c])=if a=1/\b=c then X b else T by
  rw[Ba,nz];by_cases h1:a=1/\b=c
  ·rw[if_pos h1,if_neg (by omega),if_pos h1]
  ·rw[if_neg h1,if_pos rfl,if_neg h1])
 clear h;by_cases h1:a=1
 ·have e1:(a !=1)=jC:=by simp[h1]
  by_cases h2:b=c
  ·have e2:(b !=c)=jC:=by simp[h2]
   have f:=Ab ((Aa d).trans (if_pos ⟨h1,h2⟩));clear h1 h2 d;go_enter func186,ntmps186
   go_wp2_with fail
   exact jN (v:= jO #[U V b,jL]) (by simp[jR,results186,go_sem]) rfl ⟨by rw[Aa f];rfl,BRN⟩
  ·have e2:(b !=c)=jA:=zc.2 h2;have f:=Ab ((Aa d).trans (if_neg (fun k=>h2 k.2)));clear h1 h2 d;go_enter func186,ntmps186
   go_wp2_with fail
   go_region
   all_goals
    go_wp2_with fail
    exact jN (v:= jO #[U V 0,jB 297 (jK (X aT))]) (by simp[jR,results186,go_sem]) rfl ⟨by rw[Aa f];rfl,BRN.drew⟩
 ·have e1:(a !=1)=jA:=zc.2 h1;have f:=Ab ((Aa d).trans (if_neg (fun k=>h1 k.1)));clear h1 d;go_enter func186,ntmps186
  go_wp2_with fail
  go_region
  all_goals
   go_wp2_with fail
   exact jN (v:= jO #[U V 0,jB 297 (jK (X aT))]) (by simp[jR,results186,go_sem]) rfl ⟨by rw[Aa f];rfl,BRN.drew⟩
end Go.Proofs.YteiieikcjcfkkaaGreatDoor
