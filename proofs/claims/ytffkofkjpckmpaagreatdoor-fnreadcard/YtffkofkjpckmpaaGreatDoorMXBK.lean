/-
  KTF, QS. Own work.
-/
import Derived.Test.YtffkofkjpckmpaaGreatDoorMXBF
import Derived.Test.YtffkofkjpckmpaaGreatDoorMXBN
import Derived.Test.YtffkofkjpckmpaaGreatDoorMXBD
namespace Go.Proofs.YtffkofkjpckmpaaGreatDoor
set_option maxRecDepth 100000
set_option maxHeartbeats 12800000
open Go.RowKit
set_option linter.unusedVariables false
theorem Xb {B R d:Nat}{a:Option Addr}{n c:Nat}{L:List (ByteArray × Int)}{lt:Value}(f:L.length≤100):ExD B R d a n c L lt 0:=by
 intro ty m nd w g hm h;have i:m+1≤1000000:=hm;go_enter Tryz.func62,Tryz.ntmps62
 go_wp2_with fail
 refine (H4 h i f ty g).mono ?_;intro r k b;have j:=Ab b;obtain ⟨⟨l,rfl⟩,-⟩:=b;dsimp only;go_wp2_with fail
 go_ret
 exact Aa j
theorem UF {B R i:Nat}{a:Option Addr}{n c d:Nat}{L:List (ByteArray × Int)}{lt:Value}(s:L.length≤100)(aA:d≤10)(E:ExD B R i a n c L lt d)(ty:Int)(m:Nat)(nd:Value)(w:World)(O:ty=1∨ty=2∨ty=3∨ty=4)(F:m+Z5 (d+1)≤1000000)(h:IQ B R i a n c m L nd lt w):
  Calls Tryz.prog 62 #[.pointer (some ⟨i,0,none⟩),.int .i64 ty,.int .i64 ((d:Int)+1)] w (UE B R i a n c m (Z5 (d+1)) L nd lt w):=by
 have j:=Ab E;unfold ExD at j;rw[Z5] at F ⊢;obtain ⟨t,u⟩:∃ t,t=Z5 d:=⟨_,rfl⟩
 rw[← u] at F ⊢;have f:=Ab u.symm;clear E u;obtain ⟨P,Q,S,T,U,k,v,l,c1,c2,c3⟩:=h.cells;have aB: ¬ ((d:Int)+1≤0):=by omega
 go_enter Tryz.func62,Tryz.ntmps62
 go_wp2_with fail
 refine (Sf R a n c w h.lt.2.2).mono ?_;rintro r H ⟨y,rfl,aC,aD,z⟩;have g:=h.below z;have o:Gk B R i lt nd w nd H:=Gk.of_below z h.lt.1.1;clear l c1 c2 c3 k v;obtain ⟨P,Q,S,T,U,k,v,l,c1,c2,c3⟩:=g.cells;rw[k] at c1;clear h z k v;dsimp only;by_cases hy:y=0
 case' pos=>
  have V:(y== 0)=true:=zI.2 hy;have b:=o;clear hy;go_wp2_with fail
  refine (H4 g (by omega) s ty (by omega)).mono ?_
 case' neg=>
  have V:(y== 0)=false:=zA.2 hy;clear hy;by_cases aE: 300 < m
  case' pos=>
   have W:(300 :Int) < (m:Int):=by omega
   have b:=o;go_wp2_with fail
   refine (H4 g (by omega) s ty (by omega)).mono ?_
  case' neg=>
   have W: ¬ ((300 :Int) < (m:Int)):=by omega
   go_wp2_with fail
   refine (BJ R a n c H g.lt.2.2).mono ?_;rintro r aF ⟨x,rfl,aG,aH,hr2,A⟩;have p:=g.touch A hr2;have b:=o.trans (Gk.of_touch (nd:=nd) A g.lt.2.1.2 g.lt.1.2.2);clear g o A hr2 l c1 c2 c3;obtain ⟨aI,aJ,aK,aL,I,X,Y,l,c1,c2,c3⟩:=p.cells;clear X Y;dsimp only;by_cases q:x=201
   case' pos=>
    have Z:(x== 201)=true:=zI.2 q;have J:(x % 8== 7)=false:=zA.2 (by omega);have e2:x % 8 < 2:=by omega
    clear q;cases I
   case' neg=>
    have Z:(x== 201)=false:=zA.2 q;clear q;by_cases C:x % 8=7
    case' pos=>have J:(x % 8== 7)=true:=zI.2 C
    case' neg=>
     have J:(x % 8== 7)=false:=zA.2 C;by_cases e2:x % 8 < 2
     case' neg=>
      rcases O with rfl | rfl | rfl | rfl
      case' inl=>rcases (show x / 8 % 8=0∨x / 8 % 8=1∨x / 8 % 8=2∨x / 8 % 8=3∨x / 8 % 8=4∨x / 8 % 8=5∨x / 8 % 8=6∨x / 8 % 8=7 by omega) with ek | ek | ek | ek | ek | ek | ek | ek
      case' inr.inl=>rcases (show x / 8 % 8=6∨x / 8 % 8=7∨x / 8 % 8 < 6 by omega) with ek | ek | ek
      all_goals try (first | have aa:(x / 8 % 8== 0)=true:=zI.2 (by omega) | have aa:(x / 8 % 8== 0)=false:=zA.2 (by omega))
      all_goals try (first | have ab:(x / 8 % 8== 1)=true:=zI.2 (by omega) | have ab:(x / 8 % 8== 1)=false:=zA.2 (by omega))
      all_goals try (first | have ac:(x / 8 % 8== 2)=true:=zI.2 (by omega) | have ac:(x / 8 % 8== 2)=false:=zA.2 (by omega))
      all_goals try (first | have ad:(x / 8 % 8== 3)=true:=zI.2 (by omega) | have ad:(x / 8 % 8== 3)=false:=zA.2 (by omega))
      all_goals try (first | have ae:(x / 8 % 8== 4)=true:=zI.2 (by omega) | have ae:(x / 8 % 8== 4)=false:=zA.2 (by omega))
      all_goals try (first | have k5:(x / 8 % 8== 5)=true:=zI.2 (by omega) | have k5:(x / 8 % 8== 5)=false:=zA.2 (by omega))
      all_goals try (first | have af:(x / 8 % 8== 6)=true:=zI.2 (by omega) | have af:(x / 8 % 8== 6)=false:=zA.2 (by omega))
      all_goals try (first | have ag:(x / 8 % 8== 7)=true:=zI.2 (by omega) | have ag:(x / 8 % 8== 7)=false:=zA.2 (by omega))
      all_goals try clear ek
    all_goals clear C
    all_goals cases I
   all_goals go_wp2_with fail
   all_goals
    first
    |refine (H4 p (by omega) s _ (by omega)).mono ?_
    |refine (AaG (Aa j) p (by rw[Aa f];omega) _ _ _ (by omega) (by omega)).mono ?_
     rw[Aa f]
    |refine (Aa j _ m nd _ (by omega) (by rw[Aa f];omega) p).mono ?_
     rw[Aa f];rintro r aM ⟨⟨K,rfl⟩,ah,MI,a1,a2,M,ai⟩;replace b:=b.trans ai;dsimp only;go_wp2_with fail
     first
     |refine (L6 M (by omega) [K] _ 1 rfl rfl (by omega) _).mono ?_
     |refine (Aa j ty ah MI _ (by omega) (by rw[Aa f];omega) M).mono ?_
      rw[Aa f];rintro r aN ⟨⟨aj,rfl⟩,ak,al,a3,a4,S6,ao⟩;replace b:=b.trans ao;dsimp only;go_wp2_with fail
      refine (Aa j ty ak al _ (by omega) (by rw[Aa f];omega) S6).mono ?_;rw[Aa f];rintro r aO ⟨⟨ap,rfl⟩,aP,aQ,a5,a6,aq,ar⟩;replace b:=b.trans ar;dsimp only;go_wp2_with fail
      refine (L6 aq (by omega) [K,aj,ap] _ 3 rfl rfl (by omega) 27).mono ?_
 all_goals
  rintro r au ⟨⟨N,rfl⟩,av,aw,b1,b2,ax,ay⟩;have az:=Ab (show UE B R i a n c m (3 * t+1) L nd lt w (.returned (.int .i64 N)) au from ⟨⟨N,rfl⟩,av,aw,by omega,by omega,ax,b.trans ay⟩);dsimp only;go_wp2_with fail
  go_ret
  exact Aa az
theorem H5 {B R f:Nat}{a:Option Addr}{n c:Nat}{L:List (ByteArray × Int)}{lt:Value}(b:L.length≤100):∀ d,d≤10→ExD B R f a n c L lt d
 | 0,_=>Xb b
 |d+1,hd=>fun ty m nd w g hm h=>by
  have:=UF b (by omega) (H5 b d (by omega)) ty m nd w g hm h;rw[zU];exact this
theorem Abf {op:Int}(h: 11≤op∧op≤26):Ca op=1∨Ca op=2∨Ca op=4∨Ca op=5∨Ca op=6:=by
 have:op=11∨op=12∨op=13∨op=14∨op=15∨op=16∨op=17∨op=18∨op=19∨op=20∨op=21∨op=22∨op=23∨op=24∨op=25∨op=26:=by omega
 rcases this with e | e | e | e | e | e | e | e | e | e | e | e | e | e | e | e <;> subst e <;> decide
theorem Em (w:World)(a:Option Addr)(n c:Nat)(N:List Nd)(h:IZ w a n c N):∀ (e:Ex) (i:Nat),DK N i e→e.fit w→e.cnt≤4000→Ov w a n c i e.put
 |e,i,t,hf,hc=>by
  have E:=e.pr_size hf;have fin:∀ (x:Nd),N[i]? =some x→x.op=e.op→(1≤x.op∧x.op≤27)→InP w a n c i x.op e.pr→Ov w a n c i e.put:=fun x hx b z A=>by
   have:=ZK w a n c N h i x hx z e.pr (by omega) A;rw[b] at this;exact this
  cases t with
  |int hx b hk=>exact fin _ hx b (by omega) (by rw[b];exact Abb w a n c N h i _ hx b hf.1 hf.2)
  |text hx b hk=>exact fin _ hx b (by omega) (by rw[b];exact JX w a n c N h i _ hx _ b _ (.inl ⟨rfl,hf,rfl⟩))
  |@bool _ x hx b hk=>
   refine fin _ hx b (by omega) ?_;rw[b];by_cases h1:x.num=1
   ·rw[Ex.pr,zR h1];exact JX w a n c N h i _ hx _ b _ (.inr (.inr (.inl ⟨rfl,h1,rfl⟩)))
   ·rw[Ex.pr,zK h1];exact JX w a n c N h i _ hx _ b _ (.inr (.inr (.inr ⟨rfl,h1,rfl⟩)))
  |set hx b hk F H I=>exact fin _ hx b (by omega) (by rw[b];exact Abc w a n c N h i _ hx b (by have:=hf.1.len;have:=hf.2.1;omega) hf.2.2)
  |name hx b hk=>exact fin _ hx b (by omega) (by rw[b];exact JX w a n c N h i _ hx _ b _ (.inr (.inl ⟨rfl,rfl⟩)))
  |attr hx b hk=>exact absurd hf id
  |lett hx b hk=>exact absurd hf id
  |@un _ k x e hx b hk hi t=>
   have j:e.cnt≤4000:=by simp only[Ex.cnt] at hc;omega
   have o:=Em w a n c N h e k t hf.2 j;have p:∀ d,(e.put d).size≤50000000000:=fun d=>by have:=e.put_size hf.2 d;omega
   refine fin _ hx rfl (by omega) ?_;rw[AbH];have:x.op=8∨x.op=9∨x.op=10:=by omega
   rcases this with e1 | e1 | e1
   ·rw[e1];exact U0 w a n c N h i _ hx _ e1 k hk e.put o _ _ (.inl ⟨rfl,rfl,rfl⟩) (p _)
   ·rw[e1];exact U0 w a n c N h i _ hx _ e1 k hk e.put o _ _ (.inr (.inl ⟨rfl,rfl,rfl⟩)) (p _)
   ·rw[e1];exact U0 w a n c N h i _ hx _ e1 k hk e.put o _ _ (.inr (.inr ⟨rfl,rfl,rfl⟩)) (p _)
  |@bin _ k l x e f hx b hk hi t u=>
   have j:e.cnt≤4000∧f.cnt≤4000:=by simp only[Ex.cnt] at hc;omega
   have q:=Em w a n c N h e k t hf.2.1 j.1;have r:=Em w a n c N h f l u hf.2.2 j.2;have s:∀ d,(e.put d).size≤16000010:=fun d=>by have:=e.put_size hf.2.1 d;omega
   have y:∀ d,(f.put d).size≤16000010:=fun d=>by have:=f.put_size hf.2.2 d;omega
   refine fin _ hx rfl (by omega) ?_;rw[ZA,Zz,DV];rcases Abf b with e1 | e1 | e1 | e1 | e1 <;>
   (rw[e1];exact Abe w a n c N h i _ hx b _ e1 _ _ (by decide) k l hk e.put f.put q r (s _) (y _))
  |@ite _ k l m x e f g hx b hk hi t u v=>
   have j:e.cnt≤4000∧f.cnt≤4000∧g.cnt≤4000:=by simp only[Ex.cnt] at hc;omega
   have q:=Em w a n c N h e k t hf.1 j.1;have r:=Em w a n c N h f l u hf.2.1 j.2.1;have B:=Em w a n c N h g m v hf.2.2 j.2.2;have s:∀ d,(e.put d).size≤16000010:=fun d=>by have:=e.put_size hf.1 d;omega
   have y:∀ d,(f.put d).size≤16000010:=fun d=>by have:=f.put_size hf.2.1 d;omega
   have C:∀ d,(g.put d).size≤16000010:=fun d=>by have:=g.put_size hf.2.2 d;omega
   refine fin _ hx b (by omega) ?_;rw[b];have:=Abd w a n c N h i _ hx b k l m hk e.put f.put g.put q r B (s _) (y _) (C _);rw[BO,BO,BO] at this;exact this
termination_by e=>e
theorem Sk {w:World}{a:Option Addr}{n c:Nat}{N:List Nd}(h:IZ w a n c N)(o:∀ x∈N,Aw x=true)(p:∀ x∈N,x.num≤9223372036854775807)(q:∀ (i:Nat) (x:Nd),N[i]? =some x→∀ k∈x.kids,0≤k∧k < (i:Int)):
  ∃ Es:List Ex,Es.length=N.length∧(∀ j,(h:j < Es.length)→DK N j Es[j])∧∀ e∈Es,e.fit w:=by
 have:∀ k,k≤N.length→∃ Es:List Ex,Es.length=k∧(∀ j,(h:j < Es.length)→DK N j Es[j])∧∀ e∈Es,e.fit w:=by
  intro k
  induction k with
  |zero=>exact fun _=>⟨[],rfl,fun j g=>absurd g (by simp),fun e he=>by cases he⟩
  |succ k r=>
   intro hk;obtain ⟨Es,hl,l,hf⟩:=r (by omega);have d:k < N.length:=by omega
   have hx:N[k]? =some N[k]:=zM d;obtain ⟨b,u,_,_,an,nn,v,y,z,A,_,_,_,_,_,s,_⟩:=h.cells k d;obtain ⟨e,_,ht,t⟩:=ZC (w:=w) hx (o _ (zP d)) (q k _ hx) (p _ (zP d)) hl l hf s;refine ⟨Es ++ [e],by simp[hl],fun j g=>?_,fun f hf'=>?_⟩
   ·by_cases m:j < Es.length
    ·rw[zu m];exact l j m
    ·have:j=Es.length:=by simp at g;omega
     subst this;simp only[List.getElem_concat_length];rw[hl];exact ht
   ·rcases zH.1 hf' with hf' | hf'
    ·exact hf f hf'
    ·simp at hf';subst hf';exact t
 exact this N.length NLN
theorem DK.one {N:List Nd}{i:Nat}{e:Ex}(t:DK N i e):∀ {f:Ex},DK N i f→e.pr=f.pr∧e.op=f.op:=by
 induction t with
 |int h g hk=>intro f u;rcases u.inv h with ⟨b,r⟩ | ⟨b,r⟩ | ⟨b,r⟩ | ⟨b,r⟩ | ⟨b,r⟩ | ⟨b,r⟩ | ⟨b,r⟩ | ⟨b,r⟩ | ⟨b,r⟩ | ⟨b,r⟩ <;> first | omega | (subst r;exact ⟨rfl,rfl⟩)
 |text h g hk=>intro f u;rcases u.inv h with ⟨b,r⟩ | ⟨b,r⟩ | ⟨b,r⟩ | ⟨b,r⟩ | ⟨b,r⟩ | ⟨b,r⟩ | ⟨b,r⟩ | ⟨b,r⟩ | ⟨b,r⟩ | ⟨b,r⟩ <;> first | omega | (subst r;exact ⟨rfl,rfl⟩)
 |bool h g hk=>intro f u;rcases u.inv h with ⟨b,r⟩ | ⟨b,r⟩ | ⟨b,r⟩ | ⟨b,r⟩ | ⟨b,r⟩ | ⟨b,r⟩ | ⟨b,r⟩ | ⟨b,r⟩ | ⟨b,r⟩ | ⟨b,r⟩ <;> first | omega | (subst r;exact ⟨rfl,rfl⟩)
 |set h g hk a n c=>intro f u;rcases u.inv h with ⟨b,r⟩ | ⟨b,r⟩ | ⟨b,r⟩ | ⟨b,r⟩ | ⟨b,r⟩ | ⟨b,r⟩ | ⟨b,r⟩ | ⟨b,r⟩ | ⟨b,r⟩ | ⟨b,r⟩ <;> first | omega | (obtain ⟨_,_,_,r⟩:=r;subst r;exact ⟨rfl,rfl⟩)
 |name h g hk=>intro f u;rcases u.inv h with ⟨b,r⟩ | ⟨b,r⟩ | ⟨b,r⟩ | ⟨b,r⟩ | ⟨b,r⟩ | ⟨b,r⟩ | ⟨b,r⟩ | ⟨b,r⟩ | ⟨b,r⟩ | ⟨b,r⟩ <;> first | omega | (subst r;exact ⟨rfl,rfl⟩)
 |attr h g hk=>intro f u;rcases u.inv h with ⟨b,r⟩ | ⟨b,r⟩ | ⟨b,r⟩ | ⟨b,r⟩ | ⟨b,r⟩ | ⟨b,r⟩ | ⟨b,r⟩ | ⟨b,r⟩ | ⟨b,r⟩ | ⟨b,r⟩ <;> first | omega | (subst r;exact ⟨rfl,rfl⟩)
 |lett h g hk=>intro f u;rcases u.inv h with ⟨b,r⟩ | ⟨b,r⟩ | ⟨b,r⟩ | ⟨b,r⟩ | ⟨b,r⟩ | ⟨b,r⟩ | ⟨b,r⟩ | ⟨b,r⟩ | ⟨b,r⟩ | ⟨b,r⟩ <;> first | omega | (subst r;exact ⟨rfl,rfl⟩)
 |un h g hk hi t x=>
  intro f u;rcases u.inv h with ⟨b,r⟩ | ⟨b,r⟩ | ⟨b,r⟩ | ⟨b,r⟩ | ⟨b,r⟩ | ⟨b,r⟩ | ⟨b,r⟩ | ⟨b,s,e',d,j,r⟩ | ⟨b,r⟩ | ⟨b,r⟩ <;> first | omega | skip
  subst r;rw[hk] at d;obtain rfl:=Int.ofNat.inj (List.cons.inj d).1;obtain ⟨k,l⟩:=x j;exact ⟨by simp only[Ex.pr,k,l],rfl⟩
 |bin h g hk hi t u m o=>
  intro f v;rcases v.inv h with ⟨b,r⟩ | ⟨b,r⟩ | ⟨b,r⟩ | ⟨b,r⟩ | ⟨b,r⟩ | ⟨b,r⟩ | ⟨b,r⟩ | ⟨b,r⟩ | ⟨b,s,y,e',z,d,j,p,r⟩ | ⟨b,r⟩ <;> first | omega | skip
  subst r;rw[hk] at d;simp only[List.cons.injEq,and_true,Int.natCast_inj] at d;obtain ⟨rfl,rfl⟩:=d;obtain ⟨k,l⟩:=m j;obtain ⟨q,w⟩:=o p;exact ⟨by simp only[Ex.pr,k,l,q,w],rfl⟩
 |ite h g hk hi t u v m o A=>
  intro f B;rcases B.inv h with ⟨b,r⟩ | ⟨b,r⟩ | ⟨b,r⟩ | ⟨b,r⟩ | ⟨b,r⟩ | ⟨b,r⟩ | ⟨b,r⟩ | ⟨b,r⟩ | ⟨b,r⟩ | ⟨b,s,y,F,e',z,H,d,j,p,C,r⟩ <;> first | omega | skip
  subst r;rw[hk] at d;simp only[List.cons.injEq,and_true,Int.natCast_inj] at d;obtain ⟨rfl,rfl,rfl⟩:=d;obtain ⟨k,l⟩:=m j;obtain ⟨q,w⟩:=o p;obtain ⟨E,I⟩:=A C;exact ⟨by simp only[Ex.pr,k,q,E],rfl⟩
theorem Abg {N:List Nd}{Es a:List Ex}(h1:Es.length=N.length)(h2:a.length=N.length)(b:∀ j,(h:j < Es.length)→DK N j Es[j])(c:∀ j,(h:j < a.length)→DK N j a[j])(k:Int):XS Es k=XS a k:=by
 rw[XS,XS];by_cases hk:k.toNat < N.length
 ·rw[zM (by omega),zM (by omega)];exact ((b _ (by omega)).one (c _ (by omega))).1
 ·rw[List.getElem?_eq_none (by omega),List.getElem?_eq_none (by omega)]
theorem Abh {N:List Nd}{Es a:List Ex}(h1:Es.length=N.length)(h2:a.length=N.length)(b:∀ j,(h:j < Es.length)→DK N j Es[j])(c:∀ j,(h:j < a.length)→DK N j a[j])(L:List St):Gu Es L=Gu a L:=by
 have e:Lm Es=Lm a:=funext fun s=>by
  simp only[Lm,SA,Abg h1 h2 b c]
 rw[Gu,Gu,e]
theorem IY.one {N:List Nd}{L:List St}{s t:ByteArray}(h:IY N L s)(k:IY N L t):s=t:=by
 rcases h with ⟨h1,rfl⟩ | ⟨h1,Es,a1,a2,rfl⟩
 ·rcases k with ⟨_,rfl⟩ | ⟨a,_⟩
  ·rfl
  ·rw[h1] at a;cases a
 ·rcases k with ⟨a,_⟩ | ⟨_,b,b1,b2,rfl⟩
  ·rw[h1] at a;cases a
  ·exact Abh a1 b1 a2 b2 L
end Go.Proofs.YtffkofkjpckmpaaGreatDoor
