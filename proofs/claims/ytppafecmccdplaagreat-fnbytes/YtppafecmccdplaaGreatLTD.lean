import Derived.Test.YtppafecmccdplaaGreatMXAI
open Go.Proofs.Tryz
open Option renaming none->T,some->Y
open Go.Value renaming int->U,string->Q
open Go renaming World->Z
open Bool renaming true->R,false->jA
open Go.Proofs.Tryz renaming prog->jL
namespace Go.Proofs.YtppafecmccdplaaGreat
set_option maxRecDepth 100000
set_option maxHeartbeats 6400000
open Go.RowKit Go.ChangeShapes
set_option linter.unusedVariables false
variable {wild:Bool}{s:ByteArray}{r v:Int}{M:List Nd}{q:Nat}{a:Option Addr}{nd:Value}{w:Z}
def Ah3 (R:Nat) (a:Option Addr) (n c:Nat) (zs:List Int) (p:Nat) (w:Z) (e:Ending) (w':Z):Prop:=
 ∃ (r:Int) (q:Nat),e= .returned (U .i64 r)/\Hid (Sw zs p=(r,q))/\(-9223372036854775808<=r/\r<=9223372036854775807)/\KL w' R a n c zs q/\Al R (R+1) w w'
theorem Y1 (R:Nat)(a:Option Addr)(n c:Nat)(zs:List Int)(p:Nat)(w:Z)(h:KL w R a n c zs p):
  Calls jL 105 #[.pointer (Y ⟨R,0,T⟩)] w fun e w'=>Ah3 R a n c zs p w e w':=by
 go_enter func105,ntmps105
 go_wp2_with fail
 refine(BH R a n c zs p w h).mono ?_;rintro e H ⟨x,d,rfl,I,S,W,h1,f⟩;clear h;have g:=Ab (show Sw zs p=PY zs x d by rw[Sw,Aa I]);rcases(show x % 8=0\/x % 8=1\/x % 8=2\/x % 8=3\/x % 8=4\/x % 8=5\/x % 8=6\/x % 8=7 by omega)with e8|e8|e8|e8|e8|e8|e8|e8
 ·have b:=Ab e8;have j:(x % 8==0)=true:=zF.2 e8;clear e8;go_wp2
  go_ret
  exact⟨_,d,rfl,Ab (by rw[Aa g,PY];simp only[Aa b];simp),⟨by omega,by omega⟩,h1,f⟩
 ·have b:=Ab e8;have j:(x % 8==0)=jA:=zA.2 (by omega);have l:(x % 8==1)=true:=zF.2 e8;clear e8;go_wp2
  go_ret
  exact⟨_,d,rfl,Ab (by rw[Aa g,PY];simp only[Aa b];simp),⟨by omega,by omega⟩,h1,f⟩
 ·have b:=Ab e8;have j:(x % 8==0)=jA:=zA.2 (by omega);have l:(x % 8==1)=jA:=zA.2 (by omega);have o:(x % 8==2)=true:=zF.2 e8;clear e8;go_wp2
  go_ret
  exact⟨_,d,rfl,Ab (by rw[Aa g,PY];simp only[Aa b];simp),⟨by omega,by omega⟩,h1,f⟩
 ·have b:=Ab e8;have j:(x % 8==0)=jA:=zA.2 (by omega);have l:(x % 8==1)=jA:=zA.2 (by omega);have o:(x % 8==2)=jA:=zA.2 (by omega);have r:(x % 8==3)=true:=zF.2 e8;clear e8;go_wp2
  go_ret
  exact⟨_,d,rfl,Ab (by rw[Aa g,PY];simp only[Aa b];simp),⟨by omega,by omega⟩,h1,f⟩
 ·have b:=Ab e8;have j:(x % 8==0)=jA:=zA.2 (by omega);have l:(x % 8==1)=jA:=zA.2 (by omega);have o:(x % 8==2)=jA:=zA.2 (by omega);have r:(x % 8==3)=jA:=zA.2 (by omega);have A:(x % 8==4)=true:=zF.2 e8;clear e8;go_wp2_with fail
  refine(BH R a n c zs d H h1).mono ?_;rintro e w2 ⟨y,s,rfl,J,K,L,t,u⟩;go_wp2_with fail
  refine(BH R a n c zs s w2 t).mono ?_;rintro e M ⟨z,B,rfl,C,aa,ab,D,E⟩;go_wp2
  go_ret
  exact⟨_,B,rfl,Ab (by rw[Aa g,PY];simp only[Aa J,Aa C,Aa b];simp),⟨by omega,by omega⟩,D,(f.trans u).trans E⟩
 ·have b:=Ab e8;have j:(x % 8==0)=jA:=zA.2 (by omega);have l:(x % 8==1)=jA:=zA.2 (by omega);have o:(x % 8==2)=jA:=zA.2 (by omega);have r:(x % 8==3)=jA:=zA.2 (by omega);have A:(x % 8==4)=jA:=zA.2 (by omega);have F:(x % 8==5)=true:=zF.2 e8;clear e8;go_wp2_with fail
  go_loopw [5,6] (fun v i wr=>∃ (k:Nat) (m:Int) (q:Nat),k<=8/\i=U .i64 k/\v=U .i64 m/\Hid (Aaq zs 8 d 0=Aaq zs (8-k) q m)/\(-9223372036854775808<=m/\m<=9223372036854775807)/\KL wr R a n c zs q/\Al R (R+1) w wr) (fun _ i _=>8-(intOf i).toNat)
  case atStart=>exact⟨0,0,d,by omega,rfl,rfl,Ab rfl,⟨by omega,by omega⟩,h1,f⟩
  case round=>
   obtain⟨k,m,s,hk,rfl,rfl,G,hm,t,u⟩:=hrel;by_cases ac:k<8
   ·have N:(k:Int)<8:=by omega
    go_wp2_with (go_at_call 20;refine(BH R a n c zs s _ t).mono ?_;rintro e M ⟨y,B,rfl,C,K,L,D,E⟩)
    go_roundw
    case rel=>exact⟨k+1,_,B,by omega,by go_num,rfl,Ab (by rw[Aa G,show 8-k=(8-(k+1))+1 by omega,Aaq,Aa C]),bounds_i64 (wf_bits _ _ _ _),D,u.trans E⟩
    case measure=>simp[intOf];omega
   ·have N: ¬ (k:Int)<8:=by omega
    have O:=Ab (show k=8 by omega);go_wp2
    go_ret
    exact⟨_,s,rfl,Ab (by rw[Aa g,PY];simp only[Aa b];simp only[Aa G,Aa O];rfl),hm,t,u⟩
 ·have b:=Ab e8;have j:(x % 8==0)=jA:=zA.2 (by omega);have l:(x % 8==1)=jA:=zA.2 (by omega);have o:(x % 8==2)=jA:=zA.2 (by omega);have r:(x % 8==3)=jA:=zA.2 (by omega);have A:(x % 8==4)=jA:=zA.2 (by omega);have F:(x % 8==5)=jA:=zA.2 (by omega);have P:(x % 8==6)=true:=zF.2 e8;clear e8;go_wp2
  go_ret
  exact⟨_,d,rfl,Ab (by rw[Aa g,PY];simp only[Aa b];simp),⟨by omega,by omega⟩,h1,f⟩
 ·have b:=Ab e8;have j:(x % 8==0)=jA:=zA.2 (by omega);have l:(x % 8==1)=jA:=zA.2 (by omega);have o:(x % 8==2)=jA:=zA.2 (by omega);have r:(x % 8==3)=jA:=zA.2 (by omega);have A:(x % 8==4)=jA:=zA.2 (by omega);have F:(x % 8==5)=jA:=zA.2 (by omega);have P:(x % 8==6)=jA:=zA.2 (by omega);clear e8;go_wp2
  go_ret
  exact⟨_,d,rfl,Ab (by rw[Aa g,PY];simp only[Aa b];simp),⟨by omega,by omega⟩,h1,f⟩
theorem Ra (w:Z)(k:Nat)(hk:k<6):(Ln k).size<=10/\(w.alloc (.cells #[Q ⟨#[108,101,118,101,108]⟩,Q ⟨#[110,111,119]⟩,Q ⟨#[99,108,105,101,110,116]⟩,Q ⟨#[117,115,101,114]⟩,Q ⟨#[97,115,107,101,100]⟩,Q ⟨#[97,103,114,101,101,100]⟩] 9)).cell? ⟨w.heap.size,k,T⟩=Y (Q (Ln k)):=by
 have h:=(Ah.new w #[Q ⟨#[108,101,118,101,108]⟩,Q ⟨#[110,111,119]⟩,Q ⟨#[99,108,105,101,110,116]⟩,Q ⟨#[117,115,101,114]⟩,Q ⟨#[97,115,107,101,100]⟩,Q ⟨#[97,103,114,101,101,100]⟩] 9).cell k
 match k,hk with
 |0,_=>exact⟨by decide,h⟩
 |1,_=>exact⟨by decide,h⟩
 |2,_=>exact⟨by decide,h⟩
 |3,_=>exact⟨by decide,h⟩
 |4,_=>exact⟨by decide,h⟩
 |5,_=>exact⟨by decide,h⟩
def LtI (L:List (ByteArray×Int)) (ty x:Int) (w1:Z) (vi:Value) (wr:Z):Prop:=
 ∃i:Int,-1<=i/\i<(L.length:Int)/\vi=U .i64 i/\Hid (Gr L ty x L.length=Gr L ty x (i+1).toNat)/\An w1 wr
theorem Ka.let_at {B R f:Nat}{n c:Nat}{zs:List Int}{p:Nat}{N:List Nd}{L:List (ByteArray×Int)}{b:Option Addr}{cl:Nat}(h:Ka B R f a n c zs wild p N L nd (.slice b L.length cl) w)(j:Nat)(d:j<L.length):∃g,b=Y ⟨g,0,T⟩/\w.cell? ⟨g,j*2,T⟩=Y (Q L[j].1)/\w.cell? ⟨g,j*2+1,T⟩=Y (U .i64 L[j].2)/\L[j].1.size<=1000:=by
 obtain⟨k,l,C⟩:=h;obtain⟨m,c',h1,i⟩:=Ae C.lets;simp only[Value.slice.injEq]at h1;obtain⟨rfl,_,rfl⟩:=h1;obtain⟨g,rfl,_,hc⟩:=i (by omega);obtain⟨e1,e2⟩:=ZB L j d;exact⟨g,rfl,hc _ _ e1,hc _ _ e2,C.good.2 _ (zH d)⟩
theorem Aa0 {L:List (ByteArray×Int)}{ty x:Int}{j:Nat}(a:j<L.length):Gr L ty x (j+1)=if L[j].2=ty/\((j:Int)+x) % 2=0 then Y L[j].1 else Gr L ty x j:=by
 rw[Gr];simp[List.getD,a]
section
variable {zs : List Int} {L : List (ByteArray×Int)} {ty x : Int} {p p1 q0 : Nat} {N : List Nd} {y : Nd}
theorem lfx (X:Hid (nx zs p=(x,p1)))(hs:Snc q0 N y q M)(h:Pv zs L ty x p1 y q0):CU zs L ty p N q M:=by
 obtain⟨rfl,rfl⟩:=hs;exact⟨y,by rw[Aa X];exact h,rfl⟩
theorem Agl (e:x % 3=2)(h:Gr L ty x L.length=Y s):Pv zs L ty x p ⟨5,0,s,[],[]⟩ p:=by
 unfold Pv;rw[if_pos ⟨e,by rw[h];rfl⟩];exact⟨h.symm,rfl,rfl⟩
theorem UF (e:x % 3=1)(a:ty≠1):Pv zs L ty x p ⟨5,0,Ln ((ty-2)*2+x / 3 % 2).toNat,[],[]⟩ p:=by
 unfold Pv;rw[if_neg (by omega),if_pos ⟨e,a⟩];exact⟨rfl,rfl⟩
theorem ZD (h0: ¬ (x % 3=2/\(Gr L 1 x L.length).isSome=R)):Pv zs L 1 x p ⟨3,x / 3 % 2,⟨#[]⟩,[],[]⟩ p:=by
 unfold Pv;rw[if_neg h0,if_neg (by simp),if_pos rfl];exact⟨rfl,rfl⟩
theorem Ahr (h0: ¬ (x % 3=2/\(Gr L 3 x L.length).isSome=R))(h1: ¬ x % 3=1)(c: 250<x):Pv zs L 3 x p ⟨2,0,⟨#[]⟩,[],[]⟩ p:=by
 unfold Pv;rw[if_neg h0,if_neg (fun h=>h1 h.1),if_neg (by decide),if_pos rfl,if_pos c];exact⟨rfl,rfl⟩
theorem Ahs (h0: ¬ (x % 3=2/\(Gr L 3 x L.length).isSome=R))(h1: ¬ x % 3=1)(c: ¬ 250<x)(h:Hid (Hb zs p=(s,q))):Pv zs L 3 x p ⟨2,0,s,[],[]⟩ q:=by
 unfold Pv;rw[if_neg h0,if_neg (fun h=>h1 h.1),if_neg (by decide),if_pos rfl,if_neg c,Aa h];exact⟨rfl,rfl⟩
theorem Agm {K:List ByteArray}(h0: ¬ (x % 3=2/\(Gr L 4 x L.length).isSome=R))(h1: ¬ x % 3=1)(h:Hid (XC zs p K q)):Pv zs L 4 x p ⟨4,0,⟨#[]⟩,K,[]⟩ q:=by
 unfold Pv;rw[if_neg h0,if_neg (fun h=>h1 h.1),if_neg (by decide),if_neg (by decide),if_pos rfl];exact⟨rfl,Aa h⟩
theorem AfX (h0: ¬ (x % 3=2/\(Gr L 2 x L.length).isSome=R))(h1: ¬ x % 3=1)(c: 220<x)(h:Hid (Sw zs p=(r,q)))(hv:AeW r=v):Pv zs L 2 x p ⟨1,v,⟨#[]⟩,[],[]⟩ q:=by
 unfold Pv;rw[if_neg h0,if_neg (fun h=>h1 h.1),if_neg (by decide),if_neg (by decide),if_neg (by decide),if_pos c,Aa h,hv];exact⟨rfl,rfl⟩
theorem Aht (h0: ¬ (x % 3=2/\(Gr L 2 x L.length).isSome=R))(h1: ¬ x % 3=1)(c: ¬ 220<x):Pv zs L 2 x p ⟨1,x / 3 % 6,⟨#[]⟩,[],[]⟩ p:=by
 unfold Pv;rw[if_neg h0,if_neg (fun h=>h1 h.1),if_neg (by decide),if_neg (by decide),if_neg (by decide),if_neg c];exact⟨rfl,rfl⟩
end
theorem Kb {B R K:Nat}{n c:Nat}{zs:List Int}{p:Nat}{N:List Nd}{L:List (ByteArray×Int)}{lt:Value}(h:Ka B R K a n c zs wild p N L nd lt w)(hm:N.length+1<=1000000)(aM:L.length<=100)(ty:Int)(ac:ty=1\/ty=2\/ty=3\/ty=4):
  Calls jL 92 #[.pointer (some ⟨K,0,T⟩),U .i64 ty] w (ZC B R K a n c zs wild N 1 (CU zs L ty p N) L nd lt w):=by
 obtain⟨aN,cn,aw,cl,ax,ay,c0,c1,c2,c3⟩:=h.cells;subst ay;go_enter func92,ntmps92
 go_wp2_with fail
 refine(BH R a n c zs p w h.lt.2.2).mono ?_;rintro e k ⟨x,f,rfl,l,aO,aP,ad,P⟩;have A:=h.touch P ad;have F:Gk B R K (.slice aw L.length cl) nd w nd k:=Gk.of_touch P h.lt.2.1.2 h.lt.1.2.2;clear c0 c1 c2 c3 h P ad;obtain⟨aQ,aR,aS,aT,az,aA,c0,c1,c2,c3⟩:=A.cells;clear ax az aA;dsimp only;rcases(show x % 3=2\/x % 3=1\/x % 3=0 by omega)with e3|e3|e3
 case inr.inl=>
  have ae:(x % 3==2)=jA:=zA.2 (by omega);have af:(x % 3==1)=true:=zF.2 e3;have G:=Ab e3;have m:=Ab (show ¬ (x % 3=2/\(Gr L ty x L.length).isSome=true)from fun h=>by omega);clear e3;rcases ac with rfl|rfl|rfl|rfl
  ·go_wp2_with fail
   refine(Ec A hm 3 (x / 3 % 2) ⟨#[]⟩ (by omega) (by decide)).mono ?_;intro r o b;have d:=Ab (b.to F (Y:=CU zs L 1 p N) (fun q M hs=>lfx l hs (ZD (Aa m))) NLN);obtain⟨t,u,v,rfl,-⟩:=b;dsimp only;go_wp2
   go_ret
   exact Aa d
  case' inr.inl=>
   obtain⟨hs,hc⟩:=Ra k (x / 3 % 2).toNat (by omega);have D:=Ab (show Pv zs L 2 x f ⟨5,0,Ln (x / 3 % 2).toNat,[],[]⟩ f by
    have:=UF (zs:=zs) (L:=L) (p:=f) (ty:=2) (Aa G) (by decide);rw[show((2 :Int)-2)*2+x / 3 % 2=(x / 3 % 2) by omega]at this;exact this)
   generalize Ln (x / 3 % 2).toNat=s at hs hc D
  case' inr.inr.inl=>
   obtain⟨hs,hc⟩:=Ra k (2+x / 3 % 2).toNat (by omega);have D:=Ab (show Pv zs L 3 x f ⟨5,0,Ln (2+x / 3 % 2).toNat,[],[]⟩ f by
    have:=UF (zs:=zs) (L:=L) (p:=f) (ty:=3) (Aa G) (by decide);rw[show((3 :Int)-2)*2+x / 3 % 2=(2+x / 3 % 2) by omega]at this;exact this)
   generalize Ln (2+x / 3 % 2).toNat=s at hs hc D
  case' inr.inr.inr=>
   obtain⟨hs,hc⟩:=Ra k (4+x / 3 % 2).toNat (by omega);have D:=Ab (show Pv zs L 4 x f ⟨5,0,Ln (4+x / 3 % 2).toNat,[],[]⟩ f by
    have:=UF (zs:=zs) (L:=L) (p:=f) (ty:=4) (Aa G) (by decide);rw[show((4 :Int)-2)*2+x / 3 % 2=(4+x / 3 % 2) by omega]at this;exact this)
   generalize Ln (4+x / 3 % 2).toNat=s at hs hc D
  all_goals
   have S2:=A.below (AN k (.cells #[Q ⟨#[108,101,118,101,108]⟩,Q ⟨#[110,111,119]⟩,Q ⟨#[99,108,105,101,110,116]⟩,Q ⟨#[117,115,101,114]⟩,Q ⟨#[97,115,107,101,100]⟩,Q ⟨#[97,103,114,101,101,100]⟩] 9));have K2:=F.trans (Gk.of_below (nd:=nd) (AN k (.cells #[Q ⟨#[108,101,118,101,108]⟩,Q ⟨#[110,111,119]⟩,Q ⟨#[99,108,105,101,110,116]⟩,Q ⟨#[117,115,101,114]⟩,Q ⟨#[97,115,107,101,100]⟩,Q ⟨#[97,103,114,101,101,100]⟩] 9)) A.lt.1.1);go_wp2_with fail
   refine(Ec S2 hm 5 0 s (by omega) (by omega)).mono ?_;intro r o b;have d:=Ab (b.to K2 (Y:=CU zs L _ p N) (fun q M hs=>lfx l hs (Aa D)) NLN);obtain⟨t,u,v,rfl,-⟩:=b;dsimp only;go_wp2
   go_ret
   exact Aa d
 case' inl=>
  have ae:(x % 3==2)=true:=zF.2 e3;have af:(x % 3==1)=jA:=zA.2 (by omega);have G:=Ab e3;have C:=Ab (show ¬ x % 3=1 by omega);clear e3;have ag:=Ab (show LtI L ty x k (U .i64 ((L.length:Int)-1)) k from⟨(L.length:Int)-1,by omega,by omega,rfl,Ab (by rw[show((L.length:Int)-1+1).toNat=L.length by omega]),BRN⟩);have ah:=Ab A;have aB:=Ab F;clear A F;go_wp2_with fail
  go_loopw [6] (fun S wr=>LtI L ty x k S wr) (fun S _=>(intOf S+1).toNat)
  case atStart=>exact Aa ag
  case' round=>
   clear ag c0 c1 c2 c3;obtain⟨i,aU,aV,rfl,ai,W⟩:=hrel;have S2:=(Aa ah).below W;have K2:=(Aa aB).trans (Gk.of_below (nd:=nd) W (Aa ah).lt.1.1);obtain⟨aW,aX,aY,aZ,aC,aD,c0,c1,c2,c3⟩:=S2.cells;clear aC aD;by_cases hi: 0<=i
   case pos=>
    obtain⟨j,rfl⟩:=Z5 hi;have aj:j<L.length:=by omega
    obtain⟨g,rfl,aE,d1,aF⟩:=S2.let_at j aj;have H:=Ab (show Gr L ty x L.length=if L[j].2=ty/\((j:Int)+x) % 2=0 then some L[j].1 else Gr L ty x j by rw[Aa ai,show((j:Int)+1).toNat=j+1 by omega,Aa0 aj]);have ak:=Ab (show(intOf (U .i64 ((j:Int)-1))+1).toNat<(intOf (U .i64 (j:Int))+1).toNat by simp[intOf]);have al:=Ab (show Gr L ty x L.length=Gr L ty x j->LtI L ty x k (U .i64 ((j:Int)-1)) wr from fun aG=>⟨(j:Int)-1,by omega,by omega,rfl,Ab (by rw[aG,show((j:Int)-1+1).toNat=j by omega]),W⟩);generalize L[j].1=ls at aE aF H;generalize L[j].2=aH at d1 H;cases ao:(aH==ty)
    ·have I:=Ab (Aa al (by rw[Aa H,if_neg (fun h=>zA.1 ao h.1)]));go_wp2_with fail
     exact⟨Aa I,Aa ak⟩
    ·cases ap:(((j:Int)+x) % 2==0)
     ·have I:=Ab (Aa al (by rw[Aa H,if_neg (fun h=>zA.1 ap h.2)]));go_wp2_with fail
      exact⟨Aa I,Aa ak⟩
     ·have I:=Ab (show Gr L ty x L.length=some ls by rw[Aa H,if_pos ⟨zF.1 ao,zF.1 ap⟩]);go_wp2_with fail
      refine(Ec S2 hm 5 0 ls (by omega) (by omega)).mono ?_;intro r o b;have d:=Ab (b.to K2 (Y:=CU zs L ty p N) (fun q M hs=>lfx l hs (Agl (Aa G) (Aa I))) NLN);obtain⟨t,u,v,rfl,-⟩:=b;dsimp only;go_wp2
      go_ret
      exact Aa d
   case' neg=>
    have a0: ¬ ((0 :Int)<=i):=hi;have m:=Ab (show ¬ (x % 3=2/\(Gr L ty x L.length).isSome=true) by rw[Aa ai,show(i+1).toNat=0 by omega];simp[Gr]);clear hi
 case' inr.inr=>
  have ae:(x % 3==2)=jA:=zA.2 (by omega);have af:(x % 3==1)=jA:=zA.2 (by omega);have C:=Ab (show ¬ x % 3=1 by omega);have m:=Ab (show ¬ (x % 3=2/\(Gr L ty x L.length).isSome=true)from fun h=>by omega);clear e3;have S2:=A;have K2:=F
 all_goals
  rcases ac with rfl|rfl|rfl|rfl
  ·go_wp2_with fail
   refine(Ec S2 hm 3 (x / 3 % 2) ⟨#[]⟩ (by omega) (by decide)).mono ?_;intro r o b;have d:=Ab (b.to K2 (Y:=CU zs L 1 p N) (fun q M hs=>lfx l hs (ZD (Aa m))) NLN);obtain⟨t,u,v,rfl,-⟩:=b;dsimp only;go_wp2
   go_ret
   exact Aa d
  ·by_cases aq: 220<x
   ·have O:=Ab aq;go_wp2_with fail
    refine(Y1 R a n c zs f _ S2.lt.2.2).mono ?_;rintro r ar ⟨y,au,rfl,E,⟨a1,a2⟩,J,z⟩;have S5:=S2.touch z J;have K5:=K2.trans (Gk.of_touch z S2.lt.2.1.2 S2.lt.1.2.2);dsimp only;by_cases hy:y<0
    ·have aa:=Ab hy;go_wp2_with fail
     refine(Ec S5 hm 1 (-(y+1)) ⟨#[]⟩ (by omega) (by decide)).mono ?_;intro r o b;have d:=Ab (b.to K5 (Y:=CU zs L 2 p N) (fun q M hs=>lfx l hs (AfX (Aa m) (Aa C) (by have:=Aa O;omega) E (by rw[AeW,if_pos (by have:=Aa aa;omega)]))) NLN);obtain⟨t,u,v,rfl,-⟩:=b;dsimp only;go_wp2
     go_ret
     exact Aa d
    ·have aa:=Ab hy;go_wp2_with fail
     refine(Ec S5 hm 1 y ⟨#[]⟩ (by omega) (by decide)).mono ?_;intro r o b;have d:=Ab (b.to K5 (Y:=CU zs L 2 p N) (fun q M hs=>lfx l hs (AfX (Aa m) (Aa C) (by have:=Aa O;omega) E (by rw[AeW,if_neg (by have:=Aa aa;omega)]))) NLN);obtain⟨t,u,v,rfl,-⟩:=b;dsimp only;go_wp2
     go_ret
     exact Aa d
   ·have O:=Ab aq;go_wp2_with fail
    refine(Ec S2 hm 1 (x / 3 % 6) ⟨#[]⟩ (by omega) (by decide)).mono ?_;intro r o b;have d:=Ab (b.to K2 (Y:=CU zs L 2 p N) (fun q M hs=>lfx l hs (Aht (Aa m) (Aa C) (by have:=Aa O;omega))) NLN);obtain⟨t,u,v,rfl,-⟩:=b;dsimp only;go_wp2
    go_ret
    exact Aa d
  ·by_cases av: 250<x
   ·have ab:=Ab av;go_wp2_with fail
    refine(Ec S2 hm 2 0 ⟨#[]⟩ (by omega) (by decide)).mono ?_;intro r o b;have d:=Ab (b.to K2 (Y:=CU zs L 3 p N) (fun q M hs=>lfx l hs (Ahr (Aa m) (Aa C) (by have:=Aa ab;omega))) NLN);obtain⟨t,u,v,rfl,-⟩:=b;dsimp only;go_wp2
    go_ret
    exact Aa d
   ·have ab:=Ab av;go_wp2_with fail
    refine(PU R a n c zs f _ S2.lt.2.2).mono ?_;rintro r ar ⟨s,au,rfl,E,a3,J,z⟩;have S5:=S2.touch z J;have K5:=K2.trans (Gk.of_touch z S2.lt.2.1.2 S2.lt.1.2.2);dsimp only;go_wp2_with fail
    refine(Ec S5 hm 2 0 s (by omega) (by omega)).mono ?_;intro r o b;have d:=Ab (b.to K5 (Y:=CU zs L 3 p N) (fun q M hs=>lfx l hs (Ahs (Aa m) (Aa C) (by have:=Aa ab;omega) E)) NLN);obtain⟨t,u,v,rfl,-⟩:=b;dsimp only;go_wp2
    go_ret
    exact Aa d
  ·go_wp2_with fail
   refine(Y4 R a n c zs f _ S2.lt.2.2).mono ?_;rintro r ar ⟨aI,c5,aJ,au,rfl,E,aK,aL,J,z⟩;have K5:=K2.trans (Gk.of_touch z S2.lt.2.1.2 S2.lt.1.2.2);dsimp only;go_wp2_with fail
   refine(Ac1 S2 z J hm aJ aI c5 aL aK).mono ?_;intro r o b;have d:=Ab (b.to K5 (Y:=CU zs L 4 p N) (fun q M hs=>lfx l hs (Agm (Aa m) (Aa C) E)) NLN);obtain⟨t,u,v,rfl,-⟩:=b;dsimp only;go_wp2
   go_ret
   exact Aa d
end Go.Proofs.YtppafecmccdplaaGreat
