/-
  PPA, AQ0, PPB, PPC, PPD, PPE, GF, Laws, WD, QS0, GH, SN. Own work.
-/
import Derived.Test.YtoplnhndilmlcaaGreatDoorMXAB
import Derived.Test.YtoplnhndilmlcaaGreatDoorMXAA
import Derived.Lib.ItoaNum
import Derived.Test.YtoplnhndilmlcaaGreatDoorMXAD
import Derived.Test.YtoplnhndilmlcaaGreatDoorMXAK
import Derived.Test.YtoplnhndilmlcaaGreatDoorMXAJ
import Derived.Test.YtoplnhndilmlcaaGreatDoorMXAG
import Derived.Test.YtoplnhndilmlcaaGreatDoorMXAC
namespace Go.Proofs.YtoplnhndilmlcaaGreatDoor
open Go.RowKit
set_option linter.unusedVariables false
def Jc (r:List UInt8):Prop:=∃ c x,r=c ::x∧(c=32∨c=41∨c=59∨c=40)
theorem EM {c:UInt8}{x:List UInt8}(h:c=32∨c=41∨c=59∨c=40):Jc (c ::x):=⟨c,x,rfl,h⟩
theorem JM {p:UInt8→Bool}{a r:List UInt8}(b:a.all p=true)(d:∀ c x,r=c ::x→p c=false):AN p (a ++r)=a.length:=by
 induction a with
 | nil=>
  cases r with
  | nil=>rfl
  | cons c x=>simp[AN,d c x rfl]
 | cons c a f=>
  simp only[List.all_cons,Bool.and_eq_true] at b;rw[List.cons_append,List.length_cons,← f b.2];simp[AN,b.1]
theorem Pq {r:List UInt8}(h:Jc r):∀ c x,r=c ::x→DJ c=false:=by
 obtain ⟨d,y,rfl,a⟩:=h;intro c x e;injection e with e1 e2;subst e1;rcases a with rfl | rfl | rfl | rfl <;> decide
theorem Mf {c:UInt8}{r:List UInt8}(h: ¬ (c=32∨c=10∨c=9))(h2:c≠35):Fg false (c ::r)=c ::r:=by
 rw[Fg,if_neg h,if_neg h2]
theorem AaM {c:UInt8}(h:NY c=true): ¬ (c=32∨c=10∨c=9)∧c≠35:=by
 constructor
 ·rintro (rfl | rfl | rfl) <;> revert h <;> decide
 ·rintro rfl;revert h;decide
theorem AbV {c:UInt8}(h:FA c=true): ¬ (c=32∨c=10∨c=9)∧c≠35∧NY c=false:=by
 refine ⟨?_, ?_, ?_⟩
 ·rintro (rfl | rfl | rfl) <;> revert h <;> decide
 ·rintro rfl;revert h;decide
 ·cases a:NY c with
  | false=>rfl
  | true=>
   exfalso;simp only[NY,KW,FA,dgI,decide_eq_true_eq] at a h;omega
theorem NZ {n f:Nat}{c:UInt8}{a r:List UInt8}{out:List Ae}(hc:NY c=true)(b:a.all DJ=true)(k:a.length≤31)(g:∀ d x,r=d ::x→DJ d=false):
  AG n (f+1) (c ::(a ++r)) out=AG n f r (out ++ [⟨if FF (c ::a) then 4 else 3,0,Bg (c ::a),n - ((a ++r).length+1)⟩]):=by
 have h:DJ c=true:=by rw[DJ,VU];rw[NY] at hc;simp[hc]
 have i:AN DJ (c ::(a ++r))=a.length+1:=by
  have:=JM (p:=DJ) (a:=c ::a) (r:=r) (by simp[h,b]) g;simpa using this
 have ht:(c ::(a ++r)).take (a.length+1)=c ::a:=by simp
 have j:Dy (c ::(a ++r))= .tok (if FF (c ::a) then 4 else 3) 0 (c ::a) (a.length+1):=by
  rw[Dy,if_pos hc,CJ,i,ht,if_neg (by omega)]
 rw[Ez (Mf (AaM hc).1 (AaM hc).2) j];simp
theorem XV {n f:Nat}{a r:List UInt8}{out:List Ae}(h0:a≠ [])(b:a.all FA=true)(h:a.length≤19)(s:Ie a≤9223372036854775807)(g:∀ d x,r=d ::x→DJ d=false):
  AG n (f+1) (a ++r) out=AG n f r (out ++ [⟨1,Ie a,Bg [],n - (a ++r).length⟩]):=by
 cases a with
 | nil=>exact absurd rfl h0
 | cons c a=>
  simp only[List.all_cons,Bool.and_eq_true] at b;obtain ⟨i,j,k⟩:=AbV b.1;have l:∀ d x,r=d ::x→FA d=false:=fun d x e=>by
   have:=g d x e;rw[DJ,VU] at this;simp only[Bool.or_eq_false_iff] at this;rw[FA];exact this.1.2
  have m:AN FA (c ::(a ++r))=a.length+1:=by
   have:=JM (p:=FA) (a:=c ::a) (r:=r) (by simp[b]) l;simpa using this
  have ht:(c ::(a ++r)).take (a.length+1)=c ::a:=by simp
  have hf:Ci (c ::(a ++r)) (a.length+1)=false:=by
   have e:(c ::(a ++r))[a.length+1]? =r[0]? :=by
    rw[List.getElem?_cons_succ,List.getElem?_append_right NLN,Nat.sub_self]
   rw[Ci,e];cases r with
   | nil=>rfl
   | cons d x=>
    have:=g d x rfl;rw[DJ,VU] at this;simp only[Bool.or_eq_false_iff,decide_eq_false_iff_not] at this;show (NY d || decide (d=95))=false;have o:d≠95:=by rintro rfl;exact this.2 rfl
    rw[NY,this.1.1];simp[o]
  rw[List.length_cons] at h;have q:Dy (c ::(a ++r))= .tok 1 (Ie (c ::a)) [] (a.length+1):=by
   rw[Dy,if_neg (by simp[k]),if_pos b.1,EG,m,ht,hf,if_neg (by rw[not_or,not_or];exact ⟨by omega,by simp,by omega⟩)]
  rw[List.cons_append,Ez (Mf i j) q];simp
theorem VV {n f:Nat}{a r:List UInt8}{out:List Ae}(b:a.all Oc=true)(j:a.length≤32):
  AG n (f+1) (34 ::(a ++34 ::r)) out=AG n f r (out ++ [⟨2,0,Bg a,n - ((a ++34 ::r).length+1)⟩]):=by
 have d:AN Oc (a ++34 ::r)=a.length:=JM b (fun c x e=>by injection e with e1 e2;subst e1;decide);have g:(a ++34 ::r)[a.length]? =some 34:=by rw[List.getElem?_append_right NLN];simp
 have h:Dy (34 ::(a ++34 ::r))= .tok 2 0 a (a.length+2):=by
  rw[Dy,if_neg (by decide),if_neg (by decide),if_pos rfl,Du,d,g,if_neg (by rw[not_or,Decidable.not_not];exact ⟨by omega,rfl⟩)];simp
 rw[Ez (Mf (by decide) (by decide)) h];have i:(34 ::(a ++34 ::r)).drop (a.length+2)=r:=by
  rw[List.drop_succ_cons,show a.length+1=(a ++ [34]).length by simp,show a ++34 ::r=(a ++ [34]) ++r by simp,List.drop_left]
 rw[i]
theorem To {n f:Nat}{c:UInt8}{r:List UInt8}{out:List Ae}(hc:c∈Ih)(a:∀ d x,r=d ::x→d≠61∧d≠62):
  AG n (f+1) (c ::r) out=AG n f r (out ++ [⟨5,0,Bg [c],n - (r.length+1)⟩]):=by
 have b:∀ c∈Ih,NY c=false∧FA c=false∧c≠34∧¬ (c=32∨c=10∨c=9)∧c≠35:=by decide
 obtain ⟨h1,h2,h3,h4,h5⟩:=b c hc;have hs:CM.contains ((c ::r).take 2)=false:=by
  cases r with
  | nil=>simp[CM]
  | cons d x=>
   obtain ⟨g,h⟩:=a d x rfl;show CM.contains [c,d]=false;simp[CM,g,h]
 have i:Dy (c ::r)= .tok 5 0 [c] 1:=by
  rw[Dy,if_neg (by simp[h1]),if_neg (by simp[h2]),if_neg h3,BM,hs,if_neg (by simp),if_pos (by simpa using hc)]
 rw[Ez (Mf h4 h5) i];simp
theorem Tp {n f:Nat}{c d:UInt8}{r:List UInt8}{out:List Ae}(hc: [c,d]∈CM):
  AG n (f+1) (c ::d ::r) out=AG n f r (out ++ [⟨5,0,Bg [c,d],n - ((d ::r).length+1)⟩]):=by
 have a:∀ s∈CM,NY (s.headD 0)=false∧FA (s.headD 0)=false∧s.headD 0≠34∧¬ (s.headD 0=32∨s.headD 0=10∨s.headD 0=9)∧s.headD 0≠35:=by decide
 obtain ⟨h1,h2,h3,h4,h5⟩:=a _ hc;simp only[List.headD_cons] at h1 h2 h3 h4 h5;have b:Dy (c ::d ::r)= .tok 5 0 [c,d] 2:=by
  rw[Dy,if_neg (by simp[h1]),if_neg (by simp[h2]),if_neg h3,BM,if_pos (by simpa using hc)];rfl
 rw[Ez (Mf h4 h5) b];rfl
theorem BO {n f:Nat}{r:List UInt8}{out:List Ae} :AG n f (32 ::r) out=AG n f r out:=
 Df n f (by rw[Fg,if_pos (by decide)]) out
theorem ZJ {n f:Nat}{r:List UInt8}{out:List Ae} :AG n f (10 ::r) out=AG n f r out:=
 Df n f (by rw[Fg,if_pos (by decide)]) out
theorem GQ (g:Nat)(h:g < 10):(UInt8.ofNat (48+g)).toNat=48+g:=by
 rw[UInt8.toNat_ofNat'];omega
theorem Aaz (g:Nat)(h:g < 10):FA (UInt8.ofNat (48+g))=true:=by
 simp only[FA,dgI,decide_eq_true_eq,GQ g h];omega
theorem Jx {n:Nat}(h:n < 10):Lib.decDigits n= [UInt8.ofNat (48+n)]:=by rw[Lib.decDigits,dif_pos h]
theorem Ua {n:Nat}(h: 10≤n):Lib.decDigits n=Lib.decDigits (n / 10) ++ [UInt8.ofNat (48+n % 10)]:=by rw[Lib.decDigits,dif_neg (by omega)]
theorem Nw (n:Nat):Ie (Lib.decDigits n)=n∧(Lib.decDigits n).all FA=true∧1≤(Lib.decDigits n).length∧(1≤n→(Lib.decDigits n).head?≠some 48)∧(10≤n∨(Lib.decDigits n).length=1):=by
 induction n using Nat.strongRecOn with
 | _ n c=>
  by_cases h:n < 10
  ·rw[Jx h];refine ⟨?_, ?_,by simp, ?_,.inr rfl⟩
   ·simp only[Ie,List.foldl_cons,List.foldl_nil,GQ n h];omega
   ·simp only[List.all_cons,List.all_nil,Bool.and_true];exact Aaz n h
   ·intro h1 e;simp only[List.head?_cons,Option.some.injEq] at e;have:=congrArg UInt8.toNat e;rw[GQ n h] at this;have k:(48 :UInt8).toNat=48:=rfl;omega
  ·obtain ⟨d,f,b,g,_⟩:=c (n / 10) (by omega);rw[Ua (by omega)];refine ⟨?_, ?_,by simp, ?_,.inl (by omega)⟩
   ·rw[WC,d,GQ _ (by omega)];omega
   ·rw[List.all_append,f];simp only[List.all_cons,List.all_nil,Bool.and_true,Bool.true_and];exact Aaz _ (by omega)
   ·intro _;rw[List.head?_append];have:=g (by omega);cases a:(Lib.decDigits (n / 10)).head? with
    | none=>rw[List.head?_eq_none_iff] at a;rw[a] at b;simp at b
    | some x=>rw[a] at this;simpa using this
theorem Ub:∀ (k n:Nat),n < 10 ^ (k+1)→(Lib.decDigits n).length≤k+1
 | 0,n,h=>by rw[Jx (by simpa using h)];simp
 | k+1,n,h=>by
  by_cases h1:n < 10
  ·rw[Jx h1];simp
  ·rw[Ua (by omega),List.length_append];have:=Ub k (n / 10) (by rw[Nat.pow_succ] at h;omega);simp;omega
def Ex.okW:Ex→Prop
 | .int _ n=>0≤n∧n≤9223372036854775807
 | .text _ s=>BP s=true
 | .bool .. =>True
 | .set _ _ _ _ ss=>EN ss=true
 | .name _ s=>Bq s=true
 | .attr .. =>False
 | .lett .. =>False
 | .un _ op k=>(8≤op∧op≤10)∧k.okW
 | .bin _ op l r=>(11≤op∧op≤26)∧l.okW∧r.okW
 | .ite _ c t e=>c.okW∧t.okW∧e.okW
def scL:Bool→List ByteArray→List Ae→Prop
 | _, [],c=>c= []
 | f,x ::r,c=>∃ pre t c',c=pre ++t ::c'∧(if f then pre= [] else ∃ v,pre= [v]∧see Dr v=true)∧t.kind=2∧t.text=x∧scL false r c'
def YY (want op:Int) (R:List Ae→Pt→Prop) (T:List Ae) (p:Pt):Prop:=
 (want≤Bi op∧R T p)∨(Bi op < want∧∃ t T' u,T=t ::(T' ++ [u])∧see AV t=true∧see Br u=true∧R T' p)
def KI:Ex→List Ae→Pt→Prop
 | .int _ n,T,p=>∃ t,T= [t]∧t.kind=1∧t.num=n∧p= .int t.at_ n
 | .text _ s,T,p=>∃ t,T= [t]∧t.kind=2∧t.text=s∧p= .text t.at_ s
 | .bool _ b,T,p=>∃ t,T= [t]∧see (if b then Ca else Bu) t=true∧p= .bool t.at_ b
 | .set _ _ _ _ ss,T,p=>∃ t c u,T=t ::(c ++ [u])∧see Dq t=true∧see BT u=true∧scL true ss c∧p= .set t.at_ ss
 | .name _ s,T,p=>∃ t,T= [t]∧t.kind=3∧t.text=s∧p= .name t.at_ s
 | .attr ..,_,_=>False
 | .lett ..,_,_=>False
 | .un _ op k,T,p=>(op=8∧∃ t T' q,T=t ::T'∧see Cs t=true∧YY 7 k.op (KI k) T' q∧p= .un t.at_ 8 q)∨
   (op=9∧∃ t T' q,T=t ::T'∧see FE t=true∧YY 3 k.op (KI k) T' q∧p= .un t.at_ 9 q)∨
   (op=10∧∃ t u v T' q,T=t ::u ::(T' ++ [v])∧see Dp t=true∧see AV u=true∧see Br v=true∧KI k T' q∧p= .un t.at_ 10 q)
 | .bin _ op l r,T,p=>∃ t T1 T2 p1 p2,T=T1 ++t ::T2∧Co (Bi op).toNat t=some op∧YY (Dv op) l.op (KI l) T1 p1∧YY (Bi op+1) r.op (KI r) T2 p2∧p= .bin t.at_ op p1 p2
 | .ite _ c t e,T,p=>∃ t1 t2 t3 T1 T2 T3 p1 p2 p3,T=t1 ::(T1 ++t2 ::(T2 ++t3 ::T3))∧see Gm t1=true∧see Cm t2=true∧see AE t3=true∧KI c T1 p1∧KI t T2 p2∧KI e T3 p3∧p= .ite t1.at_ p1 p2 p3
theorem Ap (a b:ByteArray):Al (a ++b)=Al a ++Al b:=by simp[Al]
theorem Pu {k num:Int}{s:List UInt8}{a:Nat}(hk:k=4∨k=5):see s ⟨k,num,Bg s,a⟩=true:=by
 rcases hk with rfl | rfl <;> simp[see]
def FJ (n f:Nat) (l:List UInt8) (out T:List Ae) (r:List UInt8):Prop:=∃ f',r.length < f'∧AG n f l out=AG n f' r (out ++T)
theorem FJ.trans {n f:Nat}{l r q:List UInt8}{out T a:List Ae}(h:FJ n f l out T r)(k:∀ f,r.length < f→FJ n f r (out ++T) a q):FJ n f l out (T ++a) q:=by
 obtain ⟨f1,h1,h2⟩:=h;obtain ⟨f2,h3,h4⟩:=k f1 h1;exact ⟨f2,h3,by rw[h2,h4,List.append_assoc]⟩
theorem BV {n f:Nat}{c:UInt8}{a r:List UInt8}{out:List Ae}(hf:(c ::(a ++r)).length < f)(b:FF (c ::a)=true)(hc:NY c=true)(d:a.all DJ=true)(h:a.length≤31)(i:Jc r):
  ∃ t,see (c ::a) t=true∧FJ n f (c ::(a ++r)) out [t] r:=by
 obtain ⟨f,rfl⟩:∃ g,f=g+1:=⟨f - 1,by simp at hf;omega⟩
 refine ⟨⟨4,0,Bg (c ::a),n - ((a ++r).length+1)⟩,Pu (.inl rfl),f,by simp at hf;omega, ?_⟩;rw[NZ hc d h (Pq i),if_pos b]
theorem AO {n f:Nat}{c:UInt8}{r:List UInt8}{out:List Ae}(hf:(c ::r).length < f)(hc:c∈Ih)(a:∀ d x,r=d ::x→d≠61∧d≠62):
  ∃ t,see [c] t=true∧FJ n f (c ::r) out [t] r:=by
 obtain ⟨f,rfl⟩:∃ g,f=g+1:=⟨f - 1,by simp at hf;omega⟩
 exact ⟨⟨5,0,Bg [c],n - (r.length+1)⟩,Pu (.inr rfl),f,by simp at hf;omega,To hc a⟩
theorem F6 {n f:Nat}{c d:UInt8}{r:List UInt8}{out:List Ae}(hf:(c ::d ::r).length < f)(hc: [c,d]∈CM):
  ∃ t,see [c,d] t=true∧FJ n f (c ::d ::r) out [t] r:=by
 obtain ⟨f,rfl⟩:∃ g,f=g+1:=⟨f - 1,by simp at hf;omega⟩
 exact ⟨⟨5,0,Bg [c,d],n - ((d ::r).length+1)⟩,Pu (.inr rfl),f,by simp at hf;omega,Tp hc⟩
theorem Od {n f:Nat}{s:ByteArray}{r:List UInt8}{out:List Ae}(hf:(34 ::(Al s ++34 ::r)).length < f)(hs:BP s=true):
  ∃ t:Ae,t.kind=2∧t.text=s∧FJ n f (34 ::(Al s ++34 ::r)) out [t] r:=by
 obtain ⟨f,rfl⟩:∃ g,f=g+1:=⟨f - 1,by simp at hf;omega⟩
 simp only[BP,Bool.and_eq_true,decide_eq_true_eq] at hs;refine ⟨⟨2,0,Bg (Al s),n - ((Al s ++34 ::r).length+1)⟩,rfl,Cv s,f,by simp at hf;omega,VV hs.2 (by rw[Av];exact hs.1)⟩
theorem XW {n f k:Nat}{r:List UInt8}{out:List Ae}(hf:(Lib.decDigits k ++r).length < f)(hk:k≤9223372036854775807)(a:Jc r):
  ∃ t:Ae,t.kind=1∧t.num=k∧FJ n f (Lib.decDigits k ++r) out [t] r:=by
 obtain ⟨f,rfl⟩:∃ g,f=g+1:=⟨f - 1,by omega⟩
 obtain ⟨h1,h2,h3,_⟩:=Nw k;have h4:=Ub 18 k (by omega);refine ⟨⟨1,Ie (Lib.decDigits k),Bg [],n - (Lib.decDigits k ++r).length⟩,rfl,h1,f,by rw[List.length_append] at hf;omega,XV (fun e=>by rw[e] at h3;simp at h3) h2 h4 (by rw[h1];omega) (Pq a)⟩
theorem Oe {n f:Nat}{s:ByteArray}{r:List UInt8}{out:List Ae}(hf:(Al s ++r).length < f)(hs:Bq s=true)(d:Jc r):
  ∃ t:Ae,t.kind=3∧t.text=s∧FJ n f (Al s ++r) out [t] r:=by
 rw[Bq] at hs;have e:=Cv s;cases b:Al s with
 | nil=>rw[b] at hs;cases hs
 | cons c a=>
  rw[b] at hs hf e;simp only[Bool.and_eq_true,decide_eq_true_eq,Bool.not_eq_true',List.all_cons] at hs;obtain ⟨⟨⟨h1,h2⟩,h3⟩,h4⟩:=hs;obtain ⟨f,rfl⟩:∃ g,f=g+1:=⟨f - 1,by simp at hf;omega⟩
  refine ⟨⟨3,0,Bg (c ::a),n - ((a ++r).length+1)⟩,rfl,e,f,by simp at hf;omega, ?_⟩;rw[List.cons_append,NZ h2 h3.2 (by simp at h1;omega) (Pq d),h4];rfl
theorem VW {s:ByteArray}(h:vnB s=true):BP s=true:=by
 simp only[vnB,Bool.and_eq_true,decide_eq_true_eq] at h;simp only[BP,Bool.and_eq_true,decide_eq_true_eq];exact ⟨by omega,h.2⟩
theorem Mg {n:Nat}(r:List UInt8)(k:∃ x,r=125 ::x):∀ (a:List ByteArray) (b:Bool) (f:Nat) (out:List Ae),Mh a=true→(Al (AA b a) ++r).length < f→
  ∃ c,scL b a c∧FJ n f (Al (AA b a) ++r) out c r
 | [],b,f,out,_,hf=>⟨[],rfl,f,by simpa[AA,Al] using hf,by simp[AA,Al]⟩
 | x ::a,b,f,out,ha,hf=>by
  rw[Mh,List.all_cons,Bool.and_eq_true] at ha;have e:Al (AA b (x ::a)) ++r=(if b then [] else [44,32]) ++34 ::(Al x ++34 ::(Al (AA false a) ++r)):=by
   rw[AA,Ap,Ap,Ap,Ap];cases b <;> simp[Al]
  rw[e] at hf ⊢;have i:∀ (g:Nat) (h:List Ae),(34 ::(Al x ++34 ::(Al (AA false a) ++r))).length < g→∃ (t:Ae) (c:List Ae),t.kind=2∧t.text=x∧scL false a c∧FJ n g (34 ::(Al x ++34 ::(Al (AA false a) ++r))) h (t ::c) r:=fun g h l=>by
   obtain ⟨t,h1,h2,h3⟩:=Od (out:=h) l (VW ha.1);obtain ⟨m,hf',he⟩:=h3;obtain ⟨c,c1,f2,c2,c3⟩:=Mg r k a false m (h ++ [t]) ha.2 hf';exact ⟨t,c,h1,h2,c1,f2,c2,by rw[he,c3,List.append_assoc];rfl⟩
  cases b with
  | true=>
   simp only[if_true,List.nil_append] at hf ⊢;obtain ⟨t,c,h1,h2,h3,h4⟩:=i f out hf;exact ⟨t ::c,⟨[],t,c,rfl,rfl,h1,h2,h3⟩,h4⟩
  | false=>
   simp only[Bool.false_eq_true,if_false,List.cons_append,List.nil_append] at hf ⊢;obtain ⟨v,v1,f1,o,j⟩:=AO (n:=n) (f:=f) (c:=44) (r:=32 :: 34 ::(Al x ++34 ::(Al (AA false a) ++r))) (out:=out) hf (by decide) (fun d y e=>by injection e with e1 e2;subst e1;decide);rw[BO] at j;obtain ⟨t,c,h1,h2,h3,f2,h4,h5⟩:=i f1 (out ++ [v]) (by simp only[List.length_cons] at o ⊢;omega);exact ⟨v ::t ::c,⟨[v],t,c,rfl,⟨v,rfl,v1⟩,h1,h2,h3⟩,f2,h4,by rw[j,h5,List.append_assoc];rfl⟩
def XX (l:List UInt8):Prop:=∃ c x,l=c ::x∧c≠61∧c≠62
theorem XX.app {l:List UInt8}(h:XX l)(r:List UInt8):∀ d x,l ++r=d ::x→d≠61∧d≠62:=by
 obtain ⟨c,y,rfl,h1⟩:=h;intro d x e;rw[List.cons_append] at e;injection e with e1 e2;subst e1;exact h1
theorem QY {l:List UInt8}(h:XX l)(r:List UInt8):XX (l ++r):=by
 obtain ⟨c,x,rfl,h⟩:=h;exact ⟨c,x ++r,rfl,h⟩
theorem UB {b:Bool}{s:ByteArray}(h:XX (Al s)):XX (Al (par b s)):=by
 cases b with
 | false=>exact h
 | true=>
  rw[par,if_pos rfl,Ap,Ap];exact ⟨40,_,rfl,by decide⟩
theorem UC:∀ (e:Ex),e.okW→XX (Al e.pr)
 | .int _ n,_=>by
  obtain ⟨_,h2,h3,_⟩:=Nw n.toNat;show XX (Al (F7 n.toNat));rw[show Al (F7 n.toNat)=Lib.decDigits n.toNat by simp[F7,Al]];cases d:Lib.decDigits n.toNat with
  | nil=>rw[d] at h3;simp at h3
  | cons c x=>
   rw[d,List.all_cons,Bool.and_eq_true] at h2;refine ⟨c,x,rfl, ?_, ?_⟩ <;> (rintro rfl;exact absurd h2.1 (by decide))
 | .text _ s,_=>by
  show XX (Al (⟨#[34]⟩ ++s ++⟨#[34]⟩));rw[Ap,Ap];exact ⟨34,_,rfl,by decide⟩
 | .bool _ b,_=>by cases b <;> exact ⟨_,_,rfl,by decide⟩
 | .set _ _ _ _ ss,_=>by
  show XX (Al (⟨#[123]⟩ ++AA true ss ++⟨#[125]⟩));rw[Ap,Ap];exact ⟨123,_,rfl,by decide⟩
 | .name _ s,h=>by
  have a:Bq s=true:=h;show XX (Al s);rw[Bq] at a;cases f:Al s with
  | nil=>rw[f] at a;cases a
  | cons c x=>
   rw[f] at a;simp only[Bool.and_eq_true] at a;refine ⟨c,x,rfl, ?_, ?_⟩ <;> (rintro rfl;exact absurd a.1.1.2 (by decide))
 | .attr ..,h=>by cases h
 | .lett ..,h=>by cases h
 | .un _ op k,h=>by
  rw[Ex.pr];split
  ·rw[Ap];exact ⟨45,_,rfl,by decide⟩
  ·split
   ·rw[Ap];exact ⟨110,_,rfl,by decide⟩
   ·rw[Ap,Ap];exact ⟨115,_,rfl,by decide⟩
 | .bin _ op l r,h=>by
  rw[Ex.pr,Ap,Ap];exact QY (QY (UB (UC l h.2.1)) _) _
 | .ite _ c t e,h=>by
  rw[Ex.pr,Ap,Ap,Ap,Ap,Ap];exact ⟨105,_,rfl,by decide⟩
theorem BW {k:Nat}{t:Ae}{s:List UInt8}{op:Int}(h:see s t=true)(hm:(s,op)∈Cn k)(h1:∀ p∈Cn k,p.1=s→p.2=op):Co k t=some op:=by
 rw[Co];cases hf:(Cn k).find? (fun p=>see p.1 t) with
 | none=>
  rw[List.find?_eq_none] at hf;exact absurd h (hf _ hm)
 | some p=>
  have h2:=List.find?_some hf;have h3:=List.mem_of_find?_eq_some hf;have e:p.1=s:=by
   by_cases a:s=p.1
   ·exact a.symm
   ·rw[Am h a] at h2;cases h2
  rw[Option.map_some,h1 p h3 e]
theorem CC {c:UInt8}{x:List UInt8}{f:Nat}(h:(c ::x).length < f):x.length < f:=Nat.lt_of_succ_lt h
theorem BQ (r:List UInt8):Jc (32 ::r):=EM (.inl rfl)
theorem ZK {n f:Nat}{op:Int}{r:List UInt8}{out:List Ae}(h: 11≤op∧op≤26)(hf:(Al (Bo op) ++32 ::r).length < f):
  ∃ t,Co (Bi op).toNat t=some op∧FJ n f (Al (Bo op) ++32 ::r) out [t] (32 ::r):=by
 have b:∀ d x,(32 ::r:List UInt8)=d ::x→d≠61∧d≠62:=fun d x e=>by injection e with e1 e2;subst e1;decide
 have g:op=11∨op=12∨op=13∨op=14∨op=15∨op=16∨op=17∨op=18∨op=19∨op=20∨op=21∨op=22∨op=23∨op=24∨op=25∨op=26:=by omega
 rcases g with rfl | rfl | rfl | rfl | rfl | rfl | rfl | rfl | rfl | rfl | rfl | rfl | rfl | rfl | rfl | rfl
 ·obtain ⟨t,h1,h2⟩:=AO (n:=n) (c:=43) (out:=out) hf (by decide) b;exact ⟨t,BW h1 (by decide) (by decide),h2⟩
 ·obtain ⟨t,h1,h2⟩:=AO (n:=n) (c:=45) (out:=out) hf (by decide) b;exact ⟨t,BW h1 (by decide) (by decide),h2⟩
 ·obtain ⟨t,h1,h2⟩:=AO (n:=n) (c:=42) (out:=out) hf (by decide) b;exact ⟨t,BW h1 (by decide) (by decide),h2⟩
 ·obtain ⟨t,h1,h2⟩:=AO (n:=n) (c:=47) (out:=out) hf (by decide) b;exact ⟨t,BW h1 (by decide) (by decide),h2⟩
 ·obtain ⟨t,h1,h2⟩:=AO (n:=n) (c:=37) (out:=out) hf (by decide) b;exact ⟨t,BW h1 (by decide) (by decide),h2⟩
 ·obtain ⟨t,h1,h2⟩:=AO (n:=n) (c:=124) (out:=out) hf (by decide) b;exact ⟨t,BW h1 (by decide) (by decide),h2⟩
 ·obtain ⟨t,h1,h2⟩:=AO (n:=n) (c:=38) (out:=out) hf (by decide) b;exact ⟨t,BW h1 (by decide) (by decide),h2⟩
 ·obtain ⟨t,h1,h2⟩:=AO (n:=n) (c:=92) (out:=out) hf (by decide) b;exact ⟨t,BW h1 (by decide) (by decide),h2⟩
 ·obtain ⟨t,h1,h2⟩:=F6 (n:=n) (c:=61) (d:=61) (r:=32 ::r) (out:=out) hf (by decide);exact ⟨t,BW h1 (by decide) (by decide),h2⟩
 ·obtain ⟨t,h1,h2⟩:=F6 (n:=n) (c:=33) (d:=61) (r:=32 ::r) (out:=out) hf (by decide);exact ⟨t,BW h1 (by decide) (by decide),h2⟩
 ·obtain ⟨t,h1,h2⟩:=AO (n:=n) (c:=60) (out:=out) hf (by decide) b;exact ⟨t,BW h1 (by decide) (by decide),h2⟩
 ·obtain ⟨t,h1,h2⟩:=F6 (n:=n) (c:=60) (d:=61) (r:=32 ::r) (out:=out) hf (by decide);exact ⟨t,BW h1 (by decide) (by decide),h2⟩
 ·obtain ⟨t,h1,h2⟩:=BV (n:=n) (c:=105) (a:= [110]) (out:=out) hf (by decide) (by decide) (by decide) (by decide) (BQ r);exact ⟨t,BW h1 (by decide) (by decide),h2⟩
 ·obtain ⟨t,h1,h2⟩:=BV (n:=n) (c:=119) (a:= [105,116,104,105,110]) (out:=out) hf (by decide) (by decide) (by decide) (by decide) (BQ r);exact ⟨t,BW h1 (by decide) (by decide),h2⟩
 ·obtain ⟨t,h1,h2⟩:=BV (n:=n) (c:=97) (a:= [110,100]) (out:=out) hf (by decide) (by decide) (by decide) (by decide) (BQ r);exact ⟨t,BW h1 (by decide) (by decide),h2⟩
 ·obtain ⟨t,h1,h2⟩:=BV (n:=n) (c:=111) (a:= [114]) (out:=out) hf (by decide) (by decide) (by decide) (by decide) (BQ r);exact ⟨t,BW h1 (by decide) (by decide),h2⟩
def GoE (n:Nat) (e:Ex):Prop:=∀ (f:Nat) (r:List UInt8) (out:List Ae),Jc r→(Al e.pr ++r).length < f→∃ T p,KI e T p∧FJ n f (Al e.pr ++r) out T r
theorem Jd {n:Nat}{e:Ex}(b:GoE n e)(i:e.okW)(a:Int){f:Nat}{r:List UInt8}{out:List Ae}(g:Jc r)(hf:(Al (e.put a) ++r).length < f):
  ∃ T p,YY a e.op (KI e) T p∧FJ n f (Al (e.put a) ++r) out T r:=by
 by_cases h:Bi e.op < a
 ·have e1:Al (e.put a) ++r=40 ::(Al e.pr ++41 ::r):=by rw[UD h,Ap,Ap];simp[Al]
  rw[e1] at hf ⊢;obtain ⟨t,j,k⟩:=AO (n:=n) (c:=40) (out:=out) hf (by decide) ((UC e i).app _);obtain ⟨f1,f2,l⟩:=k;obtain ⟨T,p,h1,g1,g2,g3⟩:=b f1 (41 ::r) (out ++ [t]) (EM (.inr (.inl rfl))) f2;obtain ⟨u,m,o,q,s⟩:=AO (n:=n) (c:=41) (out:=out ++ [t] ++T) g2 (by decide) (fun d x e=>by
   obtain ⟨c,y,rfl,hc⟩:=g;injection e with e1 e2;subst e1;rcases hc with rfl | rfl | rfl | rfl <;> decide)
  refine ⟨t ::(T ++ [u]),p,.inr ⟨h,t,T,u,rfl,j,m,h1⟩,o,q, ?_⟩;rw[l,g3,s];simp
 ·rw[XY (by omega)] at hf ⊢;obtain ⟨T,p,h1,h2⟩:=b f r out g hf;exact ⟨T,p,.inl ⟨by omega,h1⟩,h2⟩
theorem Em (n:Nat):∀ (e:Ex),e.okW→GoE n e
 | .int _ k,h=>by
  intro f r out j hf;have e:Al (F7 k.toNat)=Lib.decDigits k.toNat:=by simp[F7,Al]
  have N: 0≤k∧k≤9223372036854775807:=h;show ∃ T p,_∧FJ n f (Al (F7 k.toNat) ++r) out T r;rw[show (Al (Ex.pr (.int _ k)) ++r)=Lib.decDigits k.toNat ++r by rw[← e];rfl] at hf;rw[e];obtain ⟨t,g,m,C⟩:=XW (n:=n) (out:=out) hf (by omega) j;exact ⟨[t],.int t.at_ k,⟨t,rfl,g,by rw[m];omega,rfl⟩,C⟩
 | .text i s,h=>by
  intro f r out j hf;have e:Al (Ex.pr (.text i s)) ++r=34 ::(Al s ++34 ::r):=by rw[Ex.pr,Ap,Ap];simp[Al]
  rw[e] at hf ⊢;obtain ⟨t,g,m,C⟩:=Od (n:=n) (out:=out) hf h;exact ⟨[t],.text t.at_ s,⟨t,rfl,g,m,rfl⟩,C⟩
 | .bool _ b,h=>by
  intro f r out j hf;cases b with
  | true=>
   obtain ⟨t,g,m⟩:=BV (n:=n) (c:=116) (a:= [114,117,101]) (out:=out) hf (by decide) (by decide) (by decide) (by decide) j;exact ⟨[t],.bool t.at_ true,⟨t,rfl,g,rfl⟩,m⟩
  | false=>
   obtain ⟨t,g,m⟩:=BV (n:=n) (c:=102) (a:= [97,108,115,101]) (out:=out) hf (by decide) (by decide) (by decide) (by decide) j;exact ⟨[t],.bool t.at_ false,⟨t,rfl,g,rfl⟩,m⟩
 | .set i a k c I,h=>by
  intro f r out j hf;have N:EN I=true:=h;rw[EN,Bool.and_eq_true,Bool.and_eq_true] at N;have e:Al (Ex.pr (.set i a k c I)) ++r=123 ::(Al (AA true I) ++125 ::r):=by rw[Ex.pr,Ng,Ap,Ap];simp[Al]
  rw[e] at hf ⊢;obtain ⟨t,g,f1,f2,o⟩:=AO (n:=n) (c:=123) (out:=out) hf (by decide) (fun d x E=>by
   cases I with
   | nil=>rw[AA] at E;simp[Al] at E;rw[← E.1];decide
   | cons y I=>rw[AA,Ap,Ap,Ap,Ap] at E;simp[Al] at E;rw[← E.1];decide)
  obtain ⟨cs,V,F,z,w⟩:=Mg (n:=n) (125 ::r) ⟨r,rfl⟩ I true f1 (out ++ [t]) N.2.1 f2;obtain ⟨u,O,J,K,H⟩:=AO (n:=n) (c:=125) (out:=out ++ [t] ++cs) z (by decide) (fun d x e=>by
   obtain ⟨c,y,rfl,hc⟩:=j;injection e with e1 e2;subst e1;rcases hc with rfl | rfl | rfl | rfl <;> decide)
  refine ⟨t ::(cs ++ [u]),.set t.at_ I,⟨t,cs,u,rfl,g,O,V,rfl⟩,J,K, ?_⟩;rw[o,w,H];simp
 | .name _ s,h=>by
  intro f r out j hf;obtain ⟨t,g,m,C⟩:=Oe (n:=n) (out:=out) hf h j;exact ⟨[t],.name t.at_ s,⟨t,rfl,g,m,rfl⟩,C⟩
 | .attr ..,h=>by cases h
 | .lett ..,h=>by cases h
 | .un i op k,h=>by
  intro f r out j hf;obtain ⟨Q,hk⟩:=h;have P:=Em n k hk;have W:op=8∨op=9∨op=10:=by omega
  rcases W with rfl | rfl | rfl
  ·have e:Al (Ex.pr (.un i 8 k)) ++r=45 ::(Al (k.put 7) ++r):=by rw[Ex.pr,if_pos rfl,Ap];simp[Al,Ex.put]
   rw[e] at hf ⊢;obtain ⟨t,g,f1,f2,o⟩:=AO (n:=n) (c:=45) (out:=out) hf (by decide) ((UB (UC k hk)).app _);obtain ⟨T,p,A,F,z,w⟩:=Jd (out:=out ++ [t]) P hk 7 j f2;exact ⟨t ::T,.un t.at_ 8 p,.inl ⟨rfl,t,T,p,rfl,g,A,rfl⟩,F,z,by rw[o,w];simp⟩
  ·have e:Al (Ex.pr (.un i 9 k)) ++r=110 ::([111,116] ++32 ::(Al (k.put 3) ++r)):=by rw[Ex.pr,if_neg (by decide),if_pos rfl,Ap];simp[Al,Ex.put]
   rw[e] at hf ⊢;obtain ⟨t,g,f1,f2,o⟩:=BV (n:=n) (c:=110) (a:= [111,116]) (out:=out) hf (by decide) (by decide) (by decide) (by decide) (BQ _);rw[BO] at o;obtain ⟨T,p,A,F,z,w⟩:=Jd (out:=out ++ [t]) P hk 3 j (CC f2);exact ⟨t ::T,.un t.at_ 9 p,.inr (.inl ⟨rfl,t,T,p,rfl,g,A,rfl⟩),F,z,by rw[o,w];simp⟩
  ·have e:Al (Ex.pr (.un i 10 k)) ++r=115 ::([105,122,101] ++40 ::(Al k.pr ++41 ::r)):=by rw[Ex.pr,if_neg (by decide),if_neg (by decide),Ap,Ap];simp[Al]
   rw[e] at hf ⊢;obtain ⟨t,g,f1,f2,o⟩:=BV (n:=n) (c:=115) (a:= [105,122,101]) (out:=out) hf (by decide) (by decide) (by decide) (by decide) (EM (.inr (.inr (.inr rfl))));obtain ⟨u,O,g1,g2,g3⟩:=AO (n:=n) (c:=40) (out:=out ++ [t]) f2 (by decide) ((UC k hk).app _);obtain ⟨T,p,A,F,z,w⟩:=P g1 (41 ::r) (out ++ [t] ++ [u]) (EM (.inr (.inl rfl))) g2;obtain ⟨v,v1,J,K,H⟩:=AO (n:=n) (c:=41) (out:=out ++ [t] ++ [u] ++T) z (by decide) (fun d x e=>by
    obtain ⟨c,y,rfl,hc⟩:=j;injection e with e1 e2;subst e1;rcases hc with rfl | rfl | rfl | rfl <;> decide)
   exact ⟨t ::u ::(T ++ [v]),.un t.at_ 10 p,.inr (.inr ⟨rfl,t,u,v,T,p,rfl,g,O,v1,A,rfl⟩),J,K,by rw[o,g3,w,H];simp⟩
 | .bin i op l r,h=>by
  intro f q out hq hf;obtain ⟨Q,R,j⟩:=h;have e:Al (Ex.pr (.bin i op l r)) ++q=Al (l.put (Dv op)) ++32 ::(Al (Bo op) ++32 ::(Al (r.put (Bi op+1)) ++q)):=by
   rw[Ex.pr,Ap,Ap,Ap,Ap];simp[Al,Ex.put]
  rw[e] at hf ⊢;obtain ⟨B,A,h1,f1,f2,o⟩:=Jd (out:=out) (Em n l R) R (Dv op) (BQ _) hf;rw[BO] at o;obtain ⟨t,g,F,z,w⟩:=ZK (n:=n) (f:=f1) (out:=out ++B) Q (CC f2);rw[BO] at w;obtain ⟨L,M,h2,J,K,H⟩:=Jd (out:=out ++B ++ [t]) (Em n r j) j (Bi op+1) hq (CC z);exact ⟨B ++t ::L,.bin t.at_ op A M,⟨t,B,L,A,M,rfl,g,h1,h2,rfl⟩,J,K,by rw[o,w,H];simp⟩
 | .ite i c t e,h=>by
  intro f q out hq hf;obtain ⟨hc,ht,he⟩:=h;have E:Al (Ex.pr (.ite i c t e)) ++q=105 ::([102] ++32 ::(Al c.pr ++32 ::(116 ::([104,101,110] ++32 ::(Al t.pr ++32 ::(101 ::([108,115,101] ++32 ::(Al e.pr ++q)))))))):=by
   rw[Ex.pr,Ap,Ap,Ap,Ap,Ap];simp[Al]
  rw[E] at hf ⊢;obtain ⟨g,a1,f1,f2,o⟩:=BV (n:=n) (c:=105) (a:= [102]) (out:=out) hf (by decide) (by decide) (by decide) (by decide) (BQ _);rw[BO] at o;obtain ⟨B,A,b1,F,z,w⟩:=Em n c hc f1 _ (out ++ [g]) (BQ _) (CC f2);rw[BO] at w;obtain ⟨m,a2,J,K,H⟩:=BV (n:=n) (f:=F) (c:=116) (a:= [104,101,110]) (out:=out ++ [g] ++B) (CC z) (by decide) (by decide) (by decide) (by decide) (BQ _);rw[BO] at H;obtain ⟨L,M,b2,g1,g2,g3⟩:=Em n t ht J _ (out ++ [g] ++B ++ [m]) (BQ _) (CC K);rw[BO] at g3;obtain ⟨C,a3,g4,g5,g6⟩:=BV (n:=n) (f:=g1) (c:=101) (a:= [108,115,101]) (out:=out ++ [g] ++B ++ [m] ++L) (CC g2) (by decide) (by decide) (by decide) (by decide) (BQ _);rw[BO] at g6;obtain ⟨S,U,b3,g7,X,Y⟩:=Em n e he g4 _ (out ++ [g] ++B ++ [m] ++L ++ [C]) hq (CC g5);exact ⟨g ::(B ++m ::(L ++C ::S)),.ite g.at_ A M U,⟨g,m,C,B,L,S,A,M,U,rfl,a1,a2,a3,b1,b2,b3,rfl⟩,g7,X,by rw[o,w,H,g3,g6,Y];simp⟩
def Fr (k:Nat) (r:List Ae):Prop:=∀ j,k≤j→OF j r=none
theorem Fr.mono {k m:Nat}{r:List Ae}(h:Fr k r)(hm:k≤m):Fr m r:=fun j a=>h j (Nat.le_trans hm a)
theorem Tq {k j:Nat}{t:Ae}{op:Int}(h:Co k t=some op)(f:j≠k):Co j t=none:=by
 obtain ⟨s,hs,ht⟩:=Ln h;have g:∀ k∈ [0,1,2,3,4,5,6],∀ j∈ [0,1,2,3,4,5,6],j≠k→(Cn k).all (fun a=>(Cn j).all fun b=>decide (a.1≠b.1))=true:=by decide
 have hk:k < 7:=by
  match k,hs with
  | 0,_ | 1,_ | 2,_ | 3,_ | 4,_ | 5,_ | 6,_=>decide
  | k+7,hs=>cases hs
 rw[Co,Option.map_eq_none_iff,List.find?_eq_none];intro b c d;have i:j < 7:=by
  match j,c with
  | 0,_ | 1,_ | 2,_ | 3,_ | 4,_ | 5,_ | 6,_=>decide
  | k+7,hs=>cases hs
 have hq:=List.all_eq_true.1 (List.all_eq_true.1 (g k (by simp;omega) j (by simp;omega) f) (s,op) hs) b c;rw[Am ht (of_decide_eq_true hq)] at d;cases d
theorem AaN {k:Nat}{t:Ae}{op:Int}{r:List Ae}(h:Co k t=some op):Fr (k+1) (t ::r):=fun j a=>Tq h (by omega)
theorem Fh {s:List UInt8}{t:Ae}{r:List Ae}(h:see s t=true)(hs:s∈ [AV,Dq,Br,BT,Ca,Bu,Gm,Cm,AE,FE,Ax,Ce]):Fr 0 (t ::r):=fun j _=>by
 show Co j t=none;cases a:Co j t with
 | none=>rfl
 | some op=>rw[(Gq a).2.2 s hs] at h;cases h
def XZ:Nat→NT
 | 0=> .expr | 1=> .chain 1 | 2=> .chain 2 | 3=> .neg | 4=> .cmp | 5=> .chain 5 | 6=> .chain 6 | 7=> .una | _=> .prim
def X8 (m:Nat) (t:Ae):Prop:=(1≤m→see Gm t=false)∧(4≤m→see FE t=false)∧(8≤m→see Cs t=false)
theorem AbX {k:Nat}(hk:k < 8){t:Ae}{a r:List Ae}{p:Pt}(h:X8 (k+1) t)(d:D (XZ (k+1)) (t ::a) (.ok p r))(f:Fr k r):D (XZ k) (t ::a) (.ok p r):=by
 match k,hk with
 | 0,_=>exact .expr_no (h.1 (by decide)) d
 | 1,_=>exact .chain (.opd1 d) (.more_no (f 1 (by decide)))
 | 2,_=>exact .chain (.opd2 d) (.more_no (f 2 (by decide)))
 | 3,_=>exact .neg_no (h.2.1 (by decide)) d
 | 4,_=>exact .cmp_one (.opd4 d) (f 4 (by decide))
 | 5,_=>exact .chain (.opd5 d) (.more_no (f 5 (by decide)))
 | 6,_=>exact .chain (.opd6 d) (.more_no (f 6 (by decide)))
 | 7,_=>exact .una_no (h.2.2 (by decide)) d
theorem X8.mono {m k:Nat}{t:Ae}(h:X8 m t)(hk:k≤m):X8 k t:=⟨fun a=>h.1 (by omega),fun a=>h.2.1 (by omega),fun a=>h.2.2 (by omega)⟩
theorem AaO {t:Ae}{a r:List Ae}{p:Pt} :∀ (n k:Nat),k+n≤8→X8 (k+n) t→D (XZ (k+n)) (t ::a) (.ok p r)→Fr k r→D (XZ k) (t ::a) (.ok p r)
 | 0,k,_,_,d,_=>d
 | n+1,k,hk,h,d,f=>by
  have e:k+(n+1)=(k+1)+n:=by omega
  rw[e] at d h;exact AbX (by omega) (h.mono (by omega)) (AaO n (k+1) (by omega) h d (f.mono (by omega))) f
theorem Abd {t:Ae}{a r:List Ae}{p:Pt}{m k:Nat}(hm:m≤8)(hk:k≤m)(h:X8 m t)(d:D (XZ m) (t ::a) (.ok p r))(f:Fr k r):D (XZ k) (t ::a) (.ok p r):=by
 obtain ⟨n,rfl⟩:∃ n,m=k+n:=⟨m - k,by omega⟩
 exact AaO n k hm h d f
theorem ZL {k:Nat}(hk:k=1∨k=2∨k=5∨k=6){a:List Ae}{x:PR}(d:D (XZ (k+1)) a x):D (.opd k) a x:=by
 rcases hk with rfl | rfl | rfl | rfl
 ·exact .opd1 d
 ·exact .opd2 d
 ·exact .opd5 d
 ·exact .opd6 d
theorem Abe {k:Nat}(hk:k=1∨k=2∨k=5∨k=6):XZ k= .chain k:=by rcases hk with rfl | rfl | rfl | rfl <;> rfl
def PV (e:Ex):Nat:=(Bi e.op).toNat
theorem ZM (e:Ex):PV e≤8:=by have:=F8 e.op;unfold PV;omega
theorem Ts (e:Ex):((PV e:Nat):Int)=Bi e.op:=by have:=DU e.op;unfold PV;omega
def PA (e:Ex) (T:List Ae) (p:Pt):Prop:=∀ k r,k≤PV e→Fr k r→D (XZ k) (T ++r) (.ok p r)
def PB (e:Ex) (T:List Ae) (p:Pt):Prop:=∀ k r x,(k=1∨k=2∨k=5∨k=6)→k≤PV e→Fr (k+1) r→D (.more k p) r x→D (.chain k) (T ++r) x
def PH (e:Ex) (T:List Ae):Prop:=∃ t T',T=t ::T'∧X8 (PV e) t
theorem PA.of {e:Ex}{T:List Ae}{p:Pt}(a:PH e T)(h:∀ r,Fr (PV e) r→D (XZ (PV e)) (T ++r) (.ok p r)):PA e T p:=by
 obtain ⟨t,b,rfl,ht⟩:=a;intro k r hk f;exact Abd (ZM e) hk ht (h r (f.mono hk)) f
theorem PB.of {e:Ex}{T:List Ae}{p:Pt}(h:PA e T p)(a:∀ k,(k=1∨k=2∨k=5∨k=6)→k≠PV e):PB e T p:=by
 intro k r x hk b f d;exact .chain (ZL hk (h (k+1) r (by have:=a k hk;omega) f)) d
theorem QZ {t u:Ae}{T r:List Ae}{p:Pt}{e:Ex}(ht:see AV t=true)(hu:see Br u=true)(h:PA e T p):D .prim ((t ::(T ++ [u])) ++r) (.ok p r):=by
 rw[List.cons_append,List.append_assoc];exact .par ht (.encl (.beh ht (h 0 (u ::r) (Nat.zero_le _) (Fh hu (by decide)))) hu)
theorem Ga {s:List UInt8}{t:Ae}(h:see s t=true)(h1:s≠Gm)(h2:s≠FE)(h3:s≠Cs)(m:Nat):X8 m t:=⟨fun _=>Am h h1,fun _=>Am h h2,fun _=>Am h h3⟩
theorem Mi {t:Ae}(h4:t.kind≠4)(h5:t.kind≠5)(m:Nat):X8 m t:=⟨fun _=>Ba h4 h5,fun _=>Ba h4 h5,fun _=>Ba h4 h5⟩
theorem Mj {e:Ex}{T:List Ae}{p:Pt}{a:Int}(b:∀ T p,KI e T p→PH e T∧PA e T p∧PB e T p)(h:YY a e.op (KI e) T p)(k:Nat)(r:List Ae)(hk:(k:Int)≤a)(c:k≤8)(f:Fr k r):D (XZ k) (T ++r) (.ok p r):=by
 rcases h with ⟨d,h⟩ | ⟨d,t,g,u,rfl,ht,hu,h⟩
 ·exact (b T p h).2.1 k r (by have:=Ts e;omega) f
 ·exact Abd (m:=8) NLN c (Ga ht (by decide) (by decide) (by decide) 8) (QZ ht hu (b g p h).2.1) f
theorem Abf {e:Ex}{T:List Ae}{p:Pt}{a:Int}(b:∀ T p,KI e T p→PH e T∧PA e T p∧PB e T p)(h:YY a e.op (KI e) T p)(k:Nat)(r:List Ae)(x:PR)(hc:k=1∨k=2∨k=5∨k=6)(hk:(k:Int)≤a)(f:Fr (k+1) r)(d:D (.more k p) r x):D (.chain k) (T ++r) x:=by
 rcases h with ⟨c,h⟩ | ⟨c,t,g,u,rfl,ht,hu,h⟩
 ·exact (b T p h).2.2 k r x hc (by have:=Ts e;omega) f d
 ·exact .chain (ZL hc (Abd (m:=8) NLN (by omega) (Ga ht (by decide) (by decide) (by decide) 8) (QZ ht hu (b g p h).2.1) f)) d
theorem Abg {e:Ex}{T:List Ae}{p:Pt}{b:Int}{m:Nat}(c:∀ T p,KI e T p→PH e T∧PA e T p∧PB e T p)(h:YY b e.op (KI e) T p)(hm:(m:Int)≤b):∃ t a,T=t ::a∧X8 m t:=by
 rcases h with ⟨d,h⟩ | ⟨d,t,a,u,rfl,ht,hu,h⟩
 ·obtain ⟨t,a,rfl,ht⟩:=(c T p h).1;exact ⟨t,a,rfl,ht.mono (by have:=Ts e;omega)⟩
 ·exact ⟨t,_,rfl,Ga ht (by decide) (by decide) (by decide) m⟩
theorem UE:∀ (b:List ByteArray) (c:List Ae) (a:List ByteArray) (u:Ae) (r:List Ae),see BT u=true→b≠ []→(∀ x∈b,x≠Bg [])→scL true b c→H7 (c ++u ::r) a=(a ++b,true,u ::r)
 | [],_,_,_,_,_,h,_,_=>absurd rfl h
 | [x],c,a,u,r,hu,_,hx,h=>by
  obtain ⟨k,t,g,rfl,d,h1,h2,h3⟩:=h;simp only[if_true] at d;subst d;have l:g= []:=h3;subst l;have hk:FT t:=⟨h1,by rw[h2];exact hx x (List.mem_cons_self ..)⟩
  show H7 (t ::u ::r) a=_;rw[H7.eq_def];simp only[hk,if_true,Am hu (show BT≠Dr by decide),h2];simp
 | x ::y ::b,c,a,u,r,hu,_,hx,h=>by
  obtain ⟨k,t,g,rfl,d,h1,h2,h3⟩:=h;simp only[if_true] at d;subst d;have hk:FT t:=⟨h1,by rw[h2];exact hx x (List.mem_cons_self ..)⟩
  obtain ⟨p,f,c2,rfl,i,h4,h5,h6⟩:=h3;simp only[Bool.false_eq_true,if_false] at i;obtain ⟨v,rfl,m⟩:=i;have j:=UE (y ::b) (f ::c2) (a ++ [x]) u r hu (by simp) (fun n o=>hx n (List.mem_cons_of_mem _ o)) ⟨[],f,c2,rfl,rfl,h4,h5,h6⟩;show H7 (t ::v ::((f ::c2) ++u ::r)) a=_;rw[H7.eq_def];simp only[hk,if_true,m,h2];rw[List.append_assoc] at j;exact j
theorem Ya {e:Ex}(h:Bi e.op=8):PV e=8:=by unfold PV;rw[h];rfl
theorem no8:∀ k,(k=1∨k=2∨k=5∨k=6)→k≠8:=fun k h=>by omega
theorem EO {e:Ex}{T:List Ae}{p:Pt}(c:Bi e.op=8)(d:∃ t f,T=t ::f∧X8 8 t)(h:∀ r,D .prim (T ++r) (.ok p r)):PH e T∧PA e T p∧PB e T p:=by
 have e8:=Ya c;have a:PH e T:=by rw[PH,e8];exact d
 have b:PA e T p:=PA.of a (by rw[e8];exact fun r _=>h r);exact ⟨a,b,PB.of b (by rw[e8];exact no8)⟩
theorem Yb {op:Int}(h: 11≤op∧op≤26):Bi op=1∨Bi op=2∨Bi op=4∨Bi op=5∨Bi op=6:=by
 unfold Bi
 repeat' split
 all_goals omega
theorem Gb:∀ (e:Ex),e.okW→∀ T p,KI e T p→PH e T∧PA e T p∧PB e T p
 | .int _ n,_,T,p,h=>by
  obtain ⟨t,rfl,h1,h2,rfl⟩:=h;subst h2;exact EO rfl ⟨t, [],rfl,Mi (by omega) (by omega) 8⟩ (fun r=> .num h1)
 | .text _ s,_,T,p,h=>by
  obtain ⟨t,rfl,h1,h2,rfl⟩:=h;subst h2;exact EO rfl ⟨t, [],rfl,Mi (by omega) (by omega) 8⟩ (fun r=> .text h1)
 | .bool _ b,_,T,p,h=>by
  obtain ⟨t,rfl,h1,rfl⟩:=h;cases b with
  | true=>exact EO rfl ⟨t, [],rfl,Ga h1 (by decide) (by decide) (by decide) 8⟩ (fun r=> .tru h1)
  | false=>exact EO rfl ⟨t, [],rfl,Ga h1 (by decide) (by decide) (by decide) 8⟩ (fun r=> .fls h1)
 | .set _ _ _ _ B,ho,T,p,h=>by
  obtain ⟨t,c,u,rfl,h1,h2,h3,rfl⟩:=h;have L:EN B=true:=ho;rw[EN,Bool.and_eq_true,Bool.and_eq_true] at L;have U:∀ x∈B,x≠Bg []:=fun x hx e=>by
   have:=List.all_eq_true.1 L.2.1 x hx;rw[e] at this;simp[vnB,Bg,ByteArray.size] at this
  refine EO rfl ⟨t,_,rfl,Ga h1 (by decide) (by decide) (by decide) 8⟩ (fun r=>?_);rw[List.cons_append,List.append_assoc];refine .set h1 (u:=u) ?_ h2;cases B with
  | nil=>
   have V:c= []:=h3;subst V;show FR (u ::r)=_;rw[FR,if_pos (show Aw BT (u ::r)=true from h2)]
  | cons x B=>
   have:=UE (x ::B) c [] u r h2 (by simp) U h3;rw[FR,if_neg,List.singleton_append,this,List.nil_append];obtain ⟨ag,E,ah,rfl,M,ai,aj,ak⟩:=h3;simp only[if_true] at M;subst M;show ¬ see BT E=true;rw[Ba (by omega) (by omega)];decide
 | .name _ s,_,T,p,h=>by
  obtain ⟨t,rfl,h1,h2,rfl⟩:=h;subst h2;exact EO rfl ⟨t, [],rfl,Mi (by omega) (by omega) 8⟩ (fun r=> .name h1)
 | .attr ..,_,T,p,h=>by cases h
 | .lett ..,_,T,p,h=>by cases h
 | .un i op k,ho,T,p,h=>by
  have H:=Gb k ho.2;rcases h with ⟨rfl,t,o,q,rfl,h1,h2,rfl⟩ | ⟨rfl,t,o,q,rfl,h1,h2,rfl⟩ | ⟨rfl,t,u,v,o,q,rfl,h1,h2,h3,h4,rfl⟩
  ·have I:PV (.un i 8 k)=7:=rfl;have g:PH (.un i 8 k) (t ::o):=⟨t,o,rfl,⟨fun _=>Am h1 (by decide),fun _=>Am h1 (by decide),fun h=>by rw[I] at h;omega⟩⟩
   have a:PA (.un i 8 k) (t ::o) (.un t.at_ 8 q):=PA.of g (by rw[I];exact fun r f=> .una h1 (Mj H h2 7 r (by decide) (by decide) f));exact ⟨g,a,PB.of a (by rw[I];intro k h;omega)⟩
  ·have e3:PV (.un i 9 k)=3:=rfl;have g:PH (.un i 9 k) (t ::o):=⟨t,o,rfl,⟨fun _=>Am h1 (by decide),fun h=>by rw[e3] at h;omega,fun h=>by rw[e3] at h;omega⟩⟩
   have a:PA (.un i 9 k) (t ::o) (.un t.at_ 9 q):=PA.of g (by rw[e3];exact fun r f=> .neg h1 (Mj H h2 3 r (by decide) (by decide) f));exact ⟨g,a,PB.of a (by rw[e3];intro k h;omega)⟩
  ·refine EO rfl ⟨t,_,rfl,Ga h1 (by decide) (by decide) (by decide) 8⟩ (fun r=>?_);rw[List.cons_append,List.cons_append,List.append_assoc];exact .size h1 (.encl (.beh h2 ((H o q h4).2.1 0 (v ::r) (Nat.zero_le _) (Fh h3 (by decide)))) h3)
 | .bin i op l r,ho,T,p,h=>by
  obtain ⟨W,X,Y⟩:=ho;obtain ⟨t,y,w,z,A,rfl,h1,h2,h3,rfl⟩:=h;have J:=Gb l X;have N:=Gb r Y;have al:=Yb W;have O:PV (.bin i op l r)=(Bi op).toNat:=rfl;have ao:Bi op≤Dv op:=by unfold Dv;split <;> omega
  have g:PH (.bin i op l r) (y ++t ::w):=by
   obtain ⟨Z,o,rfl,ht⟩:=Abg (m:=(Bi op).toNat) J h2 (by omega);exact ⟨Z,_,rfl,ht⟩
  by_cases h4:Bi op=4
  ·have e4:PV (.bin i op l r)=4:=by rw[O,h4];rfl
   have aa:Dv op=5:=by unfold Dv;rw[if_pos h4]
   rw[h4] at h1 h3;have a:PA (.bin i op l r) (y ++t ::w) (.bin t.at_ op z A):=PA.of g (by
    rw[e4];intro q f;rw[List.append_assoc,List.cons_append];exact .cmp_two (.opd4 (Mj J h2 5 (t ::(w ++q)) (by omega) (by decide) (AaN h1))) h1 (.opd4 (Mj N h3 5 q (by omega) (by decide) (f.mono (by decide)))))
   exact ⟨g,a,PB.of a (by rw[e4];intro k h;omega)⟩
  ·obtain ⟨k,hk⟩:∃ k:Nat,Bi op=(k:Int):=⟨(Bi op).toNat,by omega⟩
   have hc:k=1∨k=2∨k=5∨k=6:=by omega
   have ek:PV (.bin i op l r)=k:=by rw[O,hk];rfl
   have aa:Dv op=(k:Int):=by unfold Dv;rw[if_neg h4,hk]
   rw[hk] at h1 h3;have P:Co k t=some op:=h1;have Q:∀ q x,Fr (k+1) q→D (.more k (.bin t.at_ op z A)) q x→D (.chain k) ((y ++t ::w) ++q) x:=fun q x f d=>by
    rw[List.append_assoc,List.cons_append];exact Abf J h2 k (t ::(w ++q)) x hc (by omega) (AaN P) (.more P (ZL hc (Mj N h3 (k+1) q (by omega) (by omega) f)) d)
   have a:PA (.bin i op l r) (y ++t ::w) (.bin t.at_ op z A):=PA.of g (by
    rw[ek];intro q f;rw[Abe hc];exact Q q _ (f.mono (by omega)) (.more_no (f k NLN)))
   refine ⟨g,a, ?_⟩;intro j q x ab ac f d;rw[ek] at ac;by_cases e:j=k
   ·subst e;exact Q q x f d
   ·exact .chain (ZL ab (a (j+1) q (by rw[ek];omega) f)) d
 | .ite i c t e,ho,T,p,h=>by
  obtain ⟨ad,ae,af⟩:=ho;obtain ⟨F,E,R,y,w,K,z,A,S,rfl,a1,a2,a3,b1,b2,b3,rfl⟩:=h;have C:PV (.ite i c t e)=0:=rfl;have g:PH (.ite i c t e) (F ::(y ++E ::(w ++R ::K))):=⟨F,_,rfl,⟨fun h=>by rw[C] at h;omega,fun h=>by rw[C] at h;omega,fun h=>by rw[C] at h;omega⟩⟩
  have a:PA (.ite i c t e) (F ::(y ++E ::(w ++R ::K))) (.ite F.at_ z A S):=PA.of g (by
   rw[C];intro r f;rw[List.cons_append,List.append_assoc,List.cons_append,List.append_assoc,List.cons_append];exact .expr_if a1 (.beh a1 ((Gb c ad y z b1).2.1 0 _ (Nat.zero_le _) (Fh a2 (by decide)))) (.beh a2 ((Gb t ae w A b2).2.1 0 _ (Nat.zero_le _) (Fh a3 (by decide)))) (.beh a3 ((Gb e af K S b3).2.1 0 r (Nat.zero_le _) f)))
  exact ⟨g,a,PB.of a (by rw[C];intro k h;omega)⟩
def VX:Option Ex→ByteArray
 | none=>⟨#[]⟩
 | some e=>e.pr
def ZN:Option Ex→ByteArray
 | none=>⟨#[100,101,110,121]⟩
 | some e=>⟨#[103,114,97,110,116,32]⟩ ++e.pr
structure Sw where
 kind:Int
 name:ByteArray
 cond:Option Ex
 grant:Option Ex
def Sw.pr (s:Sw):ByteArray:=
 (if s.kind=1 then ⟨#[108,101,116,32]⟩ ++s.name ++⟨#[32,61,32]⟩ ++VX s.cond
   else if s.kind=2 then ⟨#[119,104,101,110,32]⟩ ++VX s.cond ++⟨#[32,61,62,32]⟩ ++ZN s.grant
   else ⟨#[101,108,115,101,32]⟩ ++ZN s.grant) ++⟨#[59,10]⟩
def okG:Option Ex→Prop
 | none=>True
 | some e=>e.okW
def Sw.okW (s:Sw):Prop:=
 (s.kind=1∧Bq s.name=true∧(∃ e,s.cond=some e∧e.okW)∧s.grant=none)∨
 (s.kind=2∧s.name=⟨#[]⟩∧(∃ e,s.cond=some e∧e.okW)∧okG s.grant)∨
 (s.kind=3∧s.name=⟨#[]⟩∧s.cond=none∧okG s.grant)
def ZO:Option Ex→Option Pt→Prop
 | none,none=>True
 | some e,some p=>∃ T,KI e T p
 | _,_=>False
def Alk (x:Sw) (s:Ps):Prop:=s.kind=x.kind∧s.name=x.name∧ZO x.cond s.cond∧ZO x.grant s.grant
theorem Yc {e:Ex}(a:e.okW){T:List Ae}{p:Pt}(h:KI e T p){r:List Ae}(f:Fr 0 r):D .expr (T ++r) (.ok p r):=(Gb e a T p h).2.1 0 r (Nat.zero_le _) f
theorem JN (r:List UInt8):Jc (59 ::r):=EM (.inr (.inr (.inl rfl)))
theorem Q6 {n f:Nat}{g:Option Ex}{r:List UInt8}{out:List Ae}(m:okG g)(hf:(Al (ZN g) ++59 ::r).length < f):
  ∃ T i,ZO g i∧FJ n f (Al (ZN g) ++59 ::r) out T (59 ::r)∧∀ s t b,see s t=true→Fr 0 b→DD s (t ::(T ++b)) (.ok i b):=by
 cases g with
 | none=>
  obtain ⟨u,d,o⟩:=BV (n:=n) (c:=100) (a:= [101,110,121]) (out:=out) hf (by decide) (by decide) (by decide) (by decide) (JN r);exact ⟨[u],none,trivial,o,fun s t b h _=> .deny h d⟩
 | some e=>
  have j:e.okW:=m;have q:Al (ZN (some e)) ++59 ::r=103 ::([114,97,110,116] ++32 ::(Al e.pr ++59 ::r)):=by rw[ZN,Ap];simp[Al]
  rw[q] at hf ⊢;obtain ⟨u,d,f1,f2,k⟩:=BV (n:=n) (c:=103) (a:= [114,97,110,116]) (out:=out) hf (by decide) (by decide) (by decide) (by decide) (BQ _);rw[BO] at k;obtain ⟨T,p,l,v,w,x⟩:=Em n e j f1 (59 ::r) (out ++ [u]) (JN r) (CC f2);refine ⟨u ::T,some p,⟨T,l⟩,⟨v,w,by rw[k,x];simp⟩,fun s t b h y=> .grant h (Am d (by decide)) (.beh d (Yc j l y))⟩
theorem UF {n f:Nat}{x:Sw}{r:List UInt8}{out:List Ae}(K:x.okW)(hf:(Al x.pr ++r).length < f):
  ∃ T s,Alk x s∧FJ n f (Al x.pr ++r) out T r∧∀ j,DS (T ++j) (.ok s j):=by
 obtain ⟨k,nm,c,g⟩:=x;have fin:∀ (g:Nat) (B:List Ae),(59 :: 10 ::r).length < g→∃ u,see Ax u=true∧FJ n g (59 :: 10 ::r) B [u] r:=fun g B L=>by
  obtain ⟨u,h,f1,f2,b⟩:=AO (n:=n) (c:=59) (out:=B) L (by decide) (fun d y e=>by injection e with e1 e2;subst e1;decide);rw[ZJ] at b;exact ⟨u,h,f1,CC f2,b⟩
 rcases K with ⟨h1,h2,⟨e,h3,h4⟩,h5⟩ | ⟨h1,h2,⟨e,h3,h4⟩,h5⟩ | ⟨h1,h2,h3,h5⟩
 ·dsimp only at h1 h2 h3 h5;subst h1 h3 h5;have l:Al (Sw.pr ⟨1,nm,some e,none⟩) ++r=108 ::([101,116] ++32 ::(Al nm ++32 ::(61 :: 32 ::(Al e.pr ++59 :: 10 ::r)))):=by
   rw[Sw.pr,if_pos rfl,VX,Ap,Ap,Ap,Ap];simp[Al]
  rw[l] at hf ⊢;obtain ⟨t,i,f1,f2,b⟩:=BV (n:=n) (c:=108) (a:= [101,116]) (out:=out) hf (by decide) (by decide) (by decide) (by decide) (BQ _);rw[BO] at b;obtain ⟨m,M,N,O,C,o⟩:=Oe (n:=n) (out:=out ++ [t]) (CC f2) h2 (BQ _);rw[BO] at o;obtain ⟨q,A,E,F,v⟩:=AO (n:=n) (c:=61) (out:=out ++ [t] ++ [m]) (CC C) (by decide) (fun d y e=>by injection e with e1 e2;subst e1;decide);rw[BO] at v;obtain ⟨T,p,w,g1,g2,g3⟩:=Em n e h4 E _ (out ++ [t] ++ [m] ++ [q]) (JN _) (CC F);obtain ⟨u,h,g4,g5,g6⟩:=fin g1 (out ++ [t] ++ [m] ++ [q] ++T) g2;refine ⟨t ::m ::q ::(T ++ [u]),⟨t.at_,1,m.text,some p,none⟩,⟨rfl,N,⟨T,w⟩,trivial⟩,⟨g4,g5,by rw[b,o,v,g3,g6];simp⟩,fun j=>?_⟩;rw[List.cons_append,List.cons_append,List.cons_append,List.append_assoc];exact .let_ i M (.beh A (Yc h4 w (Fh h (by decide)))) h
 ·dsimp only at h1 h2 h3 h5;subst h1 h3 h2;have l:Al (Sw.pr ⟨2,⟨#[]⟩,some e,g⟩) ++r=119 ::([104,101,110] ++32 ::(Al e.pr ++32 ::(61 :: 62 :: 32 ::(Al (ZN g) ++59 :: 10 ::r)))):=by
   rw[Sw.pr,if_neg (show ¬ (2 :Int)=1 by decide),if_pos rfl,VX,Ap,Ap,Ap,Ap];simp[Al]
  rw[l] at hf ⊢;obtain ⟨t,i,f1,f2,b⟩:=BV (n:=n) (c:=119) (a:= [104,101,110]) (out:=out) hf (by decide) (by decide) (by decide) (by decide) (BQ _);rw[BO] at b;obtain ⟨T,p,w,O,C,o⟩:=Em n e h4 f1 _ (out ++ [t]) (BQ _) (CC f2);rw[BO] at o;obtain ⟨q,A,E,F,v⟩:=F6 (n:=n) (c:=61) (d:=62) (out:=out ++ [t] ++T) (CC C) (by decide);rw[BO] at v;obtain ⟨z,H,I,⟨g1,g2,g3⟩,J⟩:=Q6 (n:=n) (f:=E) (out:=out ++ [t] ++T ++ [q]) h5 (CC F);obtain ⟨u,h,g4,g5,g6⟩:=fin g1 (out ++ [t] ++T ++ [q] ++z) g2;refine ⟨t ::(T ++q ::(z ++ [u])),⟨t.at_,2,Bg [],some p,H⟩,⟨rfl,rfl,⟨T,w⟩,I⟩,⟨g4,g5,by rw[b,o,v,g3,g6];simp⟩,fun j=>?_⟩;rw[List.cons_append,List.append_assoc,List.cons_append,List.append_assoc];exact .when i (.beh i (Yc h4 w (Fh A (by decide)))) (J _ q _ A (Fh h (by decide))) h
 ·dsimp only at h1 h2 h3 h5;subst h1 h3 h2;have l:Al (Sw.pr ⟨3,⟨#[]⟩,none,g⟩) ++r=101 ::([108,115,101] ++32 ::(Al (ZN g) ++59 :: 10 ::r)):=by
   rw[Sw.pr,if_neg (show ¬ (3 :Int)=1 by decide),if_neg (show ¬ (3 :Int)=2 by decide),Ap,Ap];simp[Al]
  rw[l] at hf ⊢;obtain ⟨t,i,f1,f2,b⟩:=BV (n:=n) (c:=101) (a:= [108,115,101]) (out:=out) hf (by decide) (by decide) (by decide) (by decide) (BQ _);rw[BO] at b;obtain ⟨z,H,I,⟨g1,g2,g3⟩,J⟩:=Q6 (n:=n) (f:=f1) (out:=out ++ [t]) h5 (CC f2);obtain ⟨u,h,g4,g5,g6⟩:=fin g1 (out ++ [t] ++z) g2;refine ⟨t ::(z ++ [u]),⟨t.at_,3,Bg [],none,H⟩,⟨rfl,rfl,trivial,I⟩,⟨g4,g5,by rw[b,g3,g6];simp⟩,fun j=>?_⟩;rw[List.cons_append,List.append_assoc];exact .else_ i (J _ t _ i (Fh h (by decide))) h
def prX:List Sw→List UInt8
 | []=> []
 | x ::X=>Al x.pr ++prX X
def UG:List Sw→Prop
 | []=>False
 | [x]=>x.kind=3
 | x ::y ::X=>x.kind≠3∧UG (y ::X)
def ZP:List Sw→List Ps→Prop
 | [], []=>True
 | x ::X,s ::S=>Alk x s∧ZP X S
 | _,_=>False
theorem Q7 {n:Nat} :∀ (X:List Sw) (f:Nat) (out:List Ae),(∀ x∈X,x.okW)→UG X→(prX X).length < f→∃ T S,ZP X S∧FJ n f (prX X) out T []∧DP T (.ok S)
 | [],_,_,_,h,_=>by cases h
 | [x],f,out,ho,hl,hf=>by
  obtain ⟨T,s,h1,h2,h3⟩:=UF (n:=n) (r:= []) (out:=out) (ho x (List.mem_cons_self ..)) hf;have h4:=h3 [];rw[List.append_nil] at h4;exact ⟨T, [s],⟨h1,trivial⟩,h2,.last h4 (by rw[h1.1];exact hl)⟩
 | x ::y ::X,f,out,ho,hl,hf=>by
  obtain ⟨T,s,h1,⟨f1,f2,b⟩,h3⟩:=UF (n:=n) (out:=out) (ho x (List.mem_cons_self ..)) hf;obtain ⟨a,S,c,⟨d,g,i⟩,j⟩:=Q7 (y ::X) f1 (out ++T) (fun k l=>ho k (List.mem_cons_of_mem _ l)) hl.2 f2;exact ⟨T ++a,s ::S,⟨h1,c⟩,⟨d,g,by rw[prX,b,i,List.append_assoc]⟩,.more (h3 a) (by rw[h1.1];exact hl.1) j⟩
theorem Yd {X:List Sw}{t:ByteArray}(ht:Al t=prX X)(h4:t.size≤4000)(a:∀ x∈X,x.okW)(b:UG X):(AW t).code=0∧∃ S,ZP X S∧DP (AW t).toks (.ok S):=by
 obtain ⟨T,S,h1,⟨f1,f2,c⟩,h3⟩:=Q7 (n:=t.size) X (t.size+1) [] a b (by rw[← ht,Av];omega);have e:AW t=⟨T,0,0⟩:=by
  rw[AW,if_neg (by omega),ht,c,JO,List.nil_append]
 rw[e];exact ⟨rfl,S,h1,h3⟩
theorem Of (n:Nat):∀ (f:Nat) (l:List UInt8) (out:List Ae),l.length≤n→∃ X,(∀ t∈(AG n f l out).toks,t∈out ++X)∧((AG n f l out).toks=out ++X∨(AG n f l out).toks= [])∧X.Pairwise (fun a b=>a.at_ < b.at_)∧∀ t∈X,n - l.length≤t.at_∧t.at_ < n
 | 0,l,out,_=>⟨[],by simp[AG],by simp[AG],.nil,by simp⟩
 | f+1,l,out,hn=>by
  have h:=Ik false l;cases g:Fg false l with
  | nil=>exact ⟨[],by rw[AG,g];simp,by rw[AG,g];simp,.nil,by simp⟩
  | cons c r=>
   rw[g] at h;simp only[List.length_cons] at h;cases i:Dy (c ::r) with
   | bad code=>exact ⟨[],by rw[AG,g];simp[i],by rw[AG,g];simp[i],.nil,by simp⟩
   | tok k m s d=>
    have j:=Pb (c ::r);rw[i] at j;obtain ⟨p,o,_⟩: 1≤d∧d≤(c ::r).length∧s.length≤d:=j;simp only[List.length_cons] at o;have q:((c ::r).drop d).length=r.length+1 - d:=by simp
    obtain ⟨X,h1,h2,h3,h4⟩:=Of n f ((c ::r).drop d) (out ++ [⟨k,m,Bg s,n - (r.length+1)⟩]) (by omega);have e:AG n (f+1) l out=AG n f ((c ::r).drop d) (out ++ [⟨k,m,Bg s,n - (r.length+1)⟩]):=by rw[AG,g];simp[i]
    rw[e];rw[List.append_assoc] at h1 h2;refine ⟨_ ::X,h1,h2,List.pairwise_cons.2 ⟨fun b h=>?_,h3⟩,fun t ht=>?_⟩
    ·have:=(h4 b h).1;show n - (r.length+1) < b.at_;omega
    ·rcases List.mem_cons.1 ht with rfl | ht
     ·show n - l.length≤n - (r.length+1)∧n - (r.length+1) < n;omega
     ·have:=h4 t ht;omega
theorem VY (t:ByteArray):(AW t).toks.Pairwise (fun a b=>a.at_ < b.at_)∧∀ u∈(AW t).toks,u.at_ < t.size:=by
 rw[AW];split
 ·exact ⟨.nil,by simp⟩
 ·obtain ⟨X,h1,h2,h3,h4⟩:=Of t.size (t.size+1) (Al t) [] (by rw[Av];exact NLN);rw[List.nil_append] at h2;rcases h2 with h2 | h2
  ·rw[h2];exact ⟨h3,fun u hu=>(h4 u hu).2⟩
  ·rw[h2];exact ⟨.nil,by simp⟩
set_option maxHeartbeats 1600000
def eT (tl:Nat):Ae:=⟨0,0,Bg [],tl⟩
def CX (tl:Nat):List Ae→Ae
 | []=>eT tl
 | t ::_=>t
structure Pp (w:World) (pb g c:Nat) (T:List Ae) (tl:Nat) (ts:List Ae) (k:Nat):Prop where
 row:Aj w pb #[.slice (some ⟨g,0,none⟩) (T.length+1) c,.int .i64 (k:Int)] 95
 toks:w.ownsRow 0 93 4 (.slice (some ⟨g,0,none⟩) (T.length+1) c) (T.length+1) (Gn (T ++ [eT tl]))
 drop:T.drop k=ts
 len:k+ts.length=T.length
 small:T.length≤4000
theorem Pp.hd {w:World}{i g c:Nat}{T:List Ae}{a:Nat}{b:List Ae}{k:Nat}(h:Pp w i g c T a b k):k < (T ++ [eT a]).length∧∀ hk,(T ++ [eT a])[k]'hk=CX a b:=by
 have d:=h.len;refine ⟨by simp;omega,fun hk=>?_⟩;cases b with
 | nil=>
  have e:k=T.length:=by simpa using d
  subst e;simp[CX]
 | cons t r=>
  have f:k < T.length:=by simp at d;omega
  rw[List.getElem_append_left f];have:=List.drop_eq_getElem_cons f;rw[h.drop] at this;injection this with h1 h2;exact h1.symm
theorem Pp.cells {w:World}{f g c:Nat}{T:List Ae}{a:Nat}{b:List Ae}{k:Nat}(h:Pp w f g c T a b k):
  w.cell? ⟨g,k * 4,none⟩=some (.int .i64 (CX a b).kind)∧w.cell? ⟨g,k * 4+1,none⟩=some (.int .i64 (CX a b).num)∧w.cell? ⟨g,k * 4+2,none⟩=some (.string (CX a b).text)∧w.cell? ⟨g,k * 4+3,none⟩=some (.int .i64 ((CX a b).at_:Int)):=by
 obtain ⟨hk,he⟩:=h.hd;obtain ⟨d,e1,e2,e3⟩:=OJ (T ++ [eT a]) k hk;rw[he hk] at d e1 e2 e3;have i:k < T.length+1:=by simpa using hk
 exact ⟨(h.toks.cellAt _ (by omega)).trans d,(h.toks.cellAt _ (by omega)).trans e1,(h.toks.cellAt _ (by omega)).trans e2,(h.toks.cellAt _ (by omega)).trans e3⟩
theorem Pp.ne {w:World}{a g c:Nat}{T:List Ae}{b:Nat}{d:List Ae}{k:Nat}(h:Pp w a g c T b d k):g≠a:=fun e=>Ad h.row h.toks (by decide) (by rw[e];rfl)
theorem Pp.lt {w:World}{a g c:Nat}{T:List Ae}{b:Nat}{d:List Ae}{k:Nat}(h:Pp w a g c T b d k):g < w.heap.size:=(h.toks.lt g rfl).2
theorem Pp.below {w w':World}{a g c:Nat}{T:List Ae}{b:Nat}{d:List Ae}{k:Nat}(h:Pp w a g c T b d k)(f:Below w.heap.size w w'):Pp w' a g c T b d k:=
 ⟨h.row.after f NLN,Ac h.toks (fun q hq=>f.block q (h.toks.lt q hq).2),h.drop,h.len,h.small⟩
theorem Pp.drew {w:World}{a g c:Nat}{T:List Ae}{b:Nat}{d:List Ae}{k:Nat}(h:Pp w a g c T b d k):Pp w.drew a g c T b d k:=h.below (Below.refl w.heap.size w).drew
theorem Sz {d:World}{b:Nat}{f g i j:Value}{t:TypeId}(h:Aj d b #[f,g,i,j] t)(v0 v1 a c:Value):
  ((((d.setCell ⟨b,0,none⟩ v0).setCell ⟨b,1,none⟩ v1).setCell ⟨b,2,none⟩ a).setCell ⟨b,3,none⟩ c).drew.cell? ⟨b,0,none⟩=some v0∧((((d.setCell ⟨b,0,none⟩ v0).setCell ⟨b,1,none⟩ v1).setCell ⟨b,2,none⟩ a).setCell ⟨b,3,none⟩ c).drew.cell? ⟨b,1,none⟩=some v1∧
  ((((d.setCell ⟨b,0,none⟩ v0).setCell ⟨b,1,none⟩ v1).setCell ⟨b,2,none⟩ a).setCell ⟨b,3,none⟩ c).drew.cell? ⟨b,2,none⟩=some a∧((((d.setCell ⟨b,0,none⟩ v0).setCell ⟨b,1,none⟩ v1).setCell ⟨b,2,none⟩ a).setCell ⟨b,3,none⟩ c).drew.cell? ⟨b,3,none⟩=some c:=by
 have R:Aj ((((d.setCell ⟨b,0,none⟩ v0).setCell ⟨b,1,none⟩ v1).setCell ⟨b,2,none⟩ a).setCell ⟨b,3,none⟩ c).drew b #[v0,v1,a,c] t:=⟨(Bj h v0 v1 a c).out⟩
 obtain ⟨k,g1,g2,g3,_⟩:=BX R;exact ⟨k,g1,g2,g3⟩
theorem Uk {c:Func}{a:Tmp}(h:c.results= #[.cell a 93]){d:Array Value}{w:World}{b:Nat}{v0 v1 f g:Value}(i:d.getD a undef= .pointer (some ⟨b,0,none⟩))
  (j:w.cell? ⟨b,0,none⟩=some v0)(g1:w.cell? ⟨b,1,none⟩=some v1)(g2:w.cell? ⟨b,2,none⟩=some f)(g3:w.cell? ⟨b,3,none⟩=some g):
  (results c d).run Tryz.prog w= .ok (.agg #[v0,v1,f,g]) w:=by
 rw[Array.getD_eq_getD_getElem?] at i;simp[results,h,i,go_sem,j,g1,g2,g3]
def Cf (t:Ae):Value:= .agg #[.int .i64 t.kind,.int .i64 t.num,.string t.text,.int .i64 (t.at_:Int)]
theorem Bc {w:World}{i g c:Nat}{T:List Ae}{d:Nat}{f:List Ae}{k:Nat}(h:Pp w i g c T d f k):
  Calls Tryz.prog 115 #[.pointer (some ⟨i,0,none⟩)] w fun e w'=>e= .returned (Cf (CX d f))∧Below w.heap.size w w':=by
 have j:=(Below.refl w.heap.size w).alloc NLN (.cells #[.int .i64 0,.int .i64 0,.string ⟨#[]⟩,.int .i64 0] 93);have l:=Aj.new w #[.int .i64 0,.int .i64 0,.string ⟨#[]⟩,.int .i64 0] 93;have a:=h.below j;obtain ⟨m,c1,c2,c3⟩:=a.cells;have n:=a.row.cell 0;have o:=a.row.cell 1;have r:=h.len;have s:(k:Int) < ((T.length+1 :Nat):Int):=by omega
 have u:=h.lt;have v:=h.row.lt;obtain ⟨x,d1,d2,d3,y⟩:=BX l;simp only[List.getElem?_toArray,List.getElem?_cons_zero,List.getElem?_cons_succ] at n o;generalize CX d f=t at m c1 c2 c3 ⊢;clear h a;go_enter Tryz.func115,Tryz.ntmps115
 go_wp2_with fail
 generalize w.alloc (.cells #[.int .i64 0,.int .i64 0,.string ⟨#[]⟩,.int .i64 0] 93)=z at *;go_region
 go_wp2_with fail
 have p:=Au (b:=w.heap.size) j NLN (.int .i64 t.kind) (.int .i64 t.num) (.string t.text) (.int .i64 (t.at_:Int));obtain ⟨q,g1,g2,g3⟩:=Sz l (.int .i64 t.kind) (.int .i64 t.num) (.string t.text) (.int .i64 (t.at_:Int));exact bodyPost_ret (Uk Tryz.results115 rfl q g1 g2 g3) rfl ⟨rfl,p.drew⟩
theorem Ai.setNewP {lo hi:Nat}{w w':World}(T:Ai lo hi w w')(p:Addr)(u:Value)(a:w.heap.size≤p.block):Ai lo hi w (w'.setCell p u):=
 ⟨T.os,T.tape,T.output,by simp;exact T.size,fun k h1 h2=>(heap_setCell_other w' p k u (by omega)).trans (T.block k h1 h2)⟩
theorem Ai.put4P {lo hi:Nat}{w w':World}{b:Nat}(T:Ai lo hi w w')(a:w.heap.size≤b)(v0 v1 c d:Value):Ai lo hi w (EY w' b v0 v1 c d):=
 (((T.setNewP ⟨b,0,none⟩ v0 a).setNewP ⟨b,1,none⟩ v1 a).setNewP ⟨b,2,none⟩ c a).setNewP ⟨b,3,none⟩ d a
theorem Ai.allP {lo hi:Nat}{w a b:World}(T:Ai lo hi w a)(h:Below a.heap.size a b):Ai lo hi w b:=T.trans (Ai.of_below h NLN)
theorem Pp.next {w:World}{a g c:Nat}{T:List Ae}{b:Nat}{t:Ae}{r:List Ae}{k:Nat}(h:Pp w a g c T b (t ::r) k){w':World}(d:Aj w' a #[.slice (some ⟨g,0,none⟩) (T.length+1) c,.int .i64 ((k:Int)+1)] 95)(ht:Ai a (a+1) w w'):Pp w' a g c T b r (k+1):=by
 have f:=h.len;have i:=h.drop;refine ⟨by rw[show ((k+1 :Nat):Int)=(k:Int)+1 by omega];exact d,Ac h.toks (fun q hq=>?_), ?_,by simp at f;omega,h.small⟩
 ·have e:g=q:=by simpa[Value.ownBlock] using hq
  have j:=h.ne;exact ht.block q (by rw[← e];exact h.lt) (by omega)
 ·rw[← List.drop_drop,i];rfl
theorem Bm {w:World}{a g c:Nat}{T:List Ae}{u:Nat}{t:Ae}{r:List Ae}{k:Nat}(h:Pp w a g c T u (t ::r) k):
  Calls Tryz.prog 134 #[.pointer (some ⟨a,0,none⟩)] w fun e w'=>e= .returned (Cf t)∧Pp w' a g c T u r (k+1)∧Ai a (a+1) w w':=by
 have d:=(Below.refl w.heap.size w).alloc NLN (.cells #[.int .i64 0,.int .i64 0,.string ⟨#[]⟩,.int .i64 0] 93);have n:=Aj.new w #[.int .i64 0,.int .i64 0,.string ⟨#[]⟩,.int .i64 0] 93;have f:=h.below d;obtain ⟨L,c1,c2,c3⟩:=f.cells;have v:=f.row.cell 0;have i:=f.row.cell 1;have Q:=h.len;have R:(k:Int) < ((T.length+1 :Nat):Int):=by omega
 have S:=h.lt;have U:=h.row.lt;obtain ⟨x,d1,d2,d3,y⟩:=BX n;simp only[List.getElem?_toArray,List.getElem?_cons_zero,List.getElem?_cons_succ] at v i;have z:=d.alloc d.size (.cells #[.int .i64 0,.int .i64 0,.string ⟨#[]⟩,.int .i64 0] 93);have l:=h.below z;obtain ⟨A,e1,e2,e3⟩:=l.cells;have B:=l.row.cell 0;have C:=l.row.cell 1;simp only[List.getElem?_toArray,List.getElem?_cons_zero,List.getElem?_cons_succ] at B C;have E:(w.alloc (.cells #[.int .i64 0,.int .i64 0,.string ⟨#[]⟩,.int .i64 0] 93)).heap.size=w.heap.size+1:=by simp
 go_enter Tryz.func134,Tryz.ntmps134
 go_wp2_with fail
 go_region
 dsimp only[CX] at *;have o:=(d.alloc d.size (.cells #[.int .i64 t.kind,.int .i64 t.num,.string t.text,.int .i64 (t.at_:Int)] 93)).drew;have m:=h.below o;have q:=((n.alloc (.cells #[.int .i64 t.kind,.int .i64 t.num,.string t.text,.int .i64 (t.at_:Int)] 93)).after BRN.drew NLN)
 have s:=(Aj.new (w.alloc (.cells #[.int .i64 0,.int .i64 0,.string ⟨#[]⟩,.int .i64 0] 93)) #[.int .i64 t.kind,.int .i64 t.num,.string t.text,.int .i64 (t.at_:Int)] 93).after BRN.drew NLN;rw[E] at s;generalize ((w.alloc (.cells #[.int .i64 0,.int .i64 0,.string ⟨#[]⟩,.int .i64 0] 93)).alloc (.cells #[.int .i64 t.kind,.int .i64 t.num,.string t.text,.int .i64 (t.at_:Int)] 93)).drew=X at o m q s ⊢;clear L c1 c2 c3 v i x d1 d2 d3 y A e1 e2 e3 B C l f n d z E;have i:=m.row.cell 1;have V:=fun j=>m.row.frozen j;simp only[List.getElem?_toArray,List.getElem?_cons_zero,List.getElem?_cons_succ] at i;obtain ⟨x,d1,d2,d3,y⟩:=BX q;obtain ⟨A,e1,e2,e3,W⟩:=BX s;have M:w.heap.size≠a:=by omega
 have Z:w.heap.size+1≠a:=by omega
 have N:a≠w.heap.size:=by omega
 have aa:a≠w.heap.size+1:=by omega
 go_wp2_with fail
 have O:wrap64 ((k:Int)+1)=(k:Int)+1:=by
  have hs:=h.small;have:k≤4000:=by omega
  simp[wrap64];omega
 rw[O];have F:=m.row.set 1 (.int .i64 ((k:Int)+1));have H:=(Ai.of_below (lo:=a) (hi:=a+1) o NLN).trans (Ai.setCell X ⟨a,1,none⟩ (.int .i64 ((k:Int)+1)) NLN (Nat.lt_succ_self _));have I:=q.setFar (p:=⟨a,1,none⟩) M (.int .i64 ((k:Int)+1));generalize X.setCell ⟨a,1,none⟩ (.int .i64 ((k:Int)+1))=Y at F H I ⊢;have P:Aj (EY Y w.heap.size (.int .i64 t.kind) (.int .i64 t.num) (.string t.text) (.int .i64 (t.at_:Int))) a _ 95:=⟨(Le Y w.heap.size a _ _ _ _ N).trans F.out⟩
 have J:=H.put4P (b:=w.heap.size) NLN (.int .i64 t.kind) (.int .i64 t.num) (.string t.text) (.int .i64 (t.at_:Int));obtain ⟨K,g1,g2,g3,_⟩:=BX (Bj I (.int .i64 t.kind) (.int .i64 t.num) (.string t.text) (.int .i64 (t.at_:Int)));simp only[EY] at K g1 g2 g3;exact bodyPost_ret (Uk Tryz.results134 rfl K g1 g2 g3) rfl ⟨rfl,h.next P J,J⟩
def Wd (w:World) (x:Addr) (n:Nat) (t:TypeId):Prop:=∃ q cs,x=⟨q,0,none⟩∧Aj w q cs t∧cs.size=n
theorem Wd.below {w w':World}{B n:Nat}{x:Addr}{t:TypeId}(h:Wd w x n t)(a:Below B w w')(b:w.heap.size≤B):Wd w' x n t:=by
 obtain ⟨q,cs,e,r,c⟩:=h;exact ⟨q,cs,e,r.after a b,c⟩
theorem Wd.setFar {w:World}{n:Nat}{x:Addr}{t:TypeId}(h:Wd w x n t){p:Addr}(a:p.block≠x.block)(u:Value):Wd (w.setCell p u) x n t:=by
 obtain ⟨q,cs,rfl,r,b⟩:=h;exact ⟨q,cs,rfl,r.setFar (fun e=>a e.symm) u,b⟩
theorem Wd.of_owns {w:World}{B n:Nat}{x:Addr}{t:TypeId}{a:List Value}(h:w.ownsRow B t 1 (.slice (some x) n n) n a):Wd w x n t:=by
 rcases h.2 with ⟨q,_⟩ | ⟨g,cap,b,q,_,c,_,_,d,_⟩
 ·cases q
 ·cases q;exact ⟨g,b,rfl,⟨c⟩,by omega⟩
theorem CP.inv {N:List Nd}{i:Nat}{f:Ex}(u:CP N i f){x:Nd}(hx:N[i]? =some x):
  (x.op=1∧f= .int i x.num)∨(x.op=2∧f= .text i x.text)∨(x.op=3∧f= .bool i (decide (x.num=1)))∨(x.op=4∧∃ a n c,f= .set i a n c x.names)∨(x.op=5∧f= .name i x.text)∨(x.op=6∧f= .attr i x.num)∨(x.op=7∧f= .lett i x.num)∨
  ((8≤x.op∧x.op≤10)∧∃ (k:Nat) (e:Ex),x.kids= [(k:Int)]∧CP N k e∧f= .un i x.op e)∨
  ((11≤x.op∧x.op≤26)∧∃ (k l:Nat) (e g:Ex),x.kids= [(k:Int),(l:Int)]∧CP N k e∧CP N l g∧f= .bin i x.op e g)∨
  (x.op=27∧∃ (k l m:Nat) (e g h:Ex),x.kids= [(k:Int),(l:Int),(m:Int)]∧CP N k e∧CP N l g∧CP N m h∧f= .ite i e g h):=by
 have d:∀ {y:Nd},N[i]? =some y→y=x:=fun k=>Option.some.inj (k.symm.trans hx);cases u with
 | int h b hk=>obtain rfl:=d h;exact .inl ⟨b,rfl⟩
 | text h b hk=>obtain rfl:=d h;exact .inr (.inl ⟨b,rfl⟩)
 | bool h b hk=>obtain rfl:=d h;exact .inr (.inr (.inl ⟨b,rfl⟩))
 | set h b hk a n c=>obtain rfl:=d h;exact .inr (.inr (.inr (.inl ⟨b,a,n,c,rfl⟩)))
 | name h b hk=>obtain rfl:=d h;exact .inr (.inr (.inr (.inr (.inl ⟨b,rfl⟩))))
 | attr h b hk=>obtain rfl:=d h;exact .inr (.inr (.inr (.inr (.inr (.inl ⟨b,rfl⟩)))))
 | lett h b hk=>obtain rfl:=d h;exact .inr (.inr (.inr (.inr (.inr (.inr (.inl ⟨b,rfl⟩))))))
 | un h b hk hi t=>obtain rfl:=d h;exact .inr (.inr (.inr (.inr (.inr (.inr (.inr (.inl ⟨b,_,_,hk,t,rfl⟩)))))))
 | bin h b hk hi t u=>obtain rfl:=d h;exact .inr (.inr (.inr (.inr (.inr (.inr (.inr (.inr (.inl ⟨b,_,_,_,_,hk,t,u,rfl⟩))))))))
 | ite h b hk hi t u v=>obtain rfl:=d h;exact .inr (.inr (.inr (.inr (.inr (.inr (.inr (.inr (.inr ⟨b,_,_,_,_,_,_,hk,t,u,v,rfl⟩))))))))
set_option maxRecDepth 100000
theorem SB (s:List UInt8)(b:Nat)(a:List Ae):see s (CX b a)=Aw s a:=by
 cases a with
 | nil=>rfl
 | cons t r=>rfl
theorem Za (a b:ByteArray):(a.toList== b.toList)=decide (a=b):=by
 have h:=KR a b;rw[eqS] at h;by_cases e:a=b
 ·rw[decide_eq_true e];exact h.2 e
 ·rw[decide_eq_false e,Bool.eq_false_iff];exact fun k=>e (h.1 k)
theorem AD {w:World}{d g c:Nat}{T:List Ae}{b:Nat}{a:List Ae}{k:Nat}(h:Pp w d g c T b a k)(s:List UInt8):
  Calls Tryz.prog 111 #[.pointer (some ⟨d,0,none⟩),.string (Bg s)] w fun e w'=>e= .returned (.bool (Aw s a))∧Below w.heap.size w w':=by
 rw[← SB s b a];have f:=Ab (Bc h);generalize CX b a=t at f ⊢;clear h;go_enter Tryz.func111,Tryz.ntmps111
 go_wp2_with fail
 refine (Aa f).mono ?_;rintro e j ⟨rfl,i⟩;rw[Cf];dsimp only;go_wp2_with fail
 all_goals
  go_ret
  refine ⟨?_,i.alloc i.size _⟩
  congr 2
  simp[see,Za, *]
def Wx (aY:Addr) (tl:Nat) (q:List Ae) (b:Nat) (w:World):Prop:=Aj w b #[.int .i64 ((CX tl q).at_:Int),.iface 256 (.pointer (some aY))] 107
def By (b:Nat):Value:= .iface 102 (.pointer (some ⟨b,0,none⟩))
structure Gy (w:World) (aY:Addr):Prop where
 cell:w.cell? ⟨6,0,none⟩=some (.iface 256 (.pointer (some aY)))
 big: 16≤w.heap.size
 tab:∀ k,w.cell? ⟨10,k,none⟩=Eh[k]?
theorem Gy.touch {w w':World}{aY:Addr}{a:Nat}(h:Gy w aY)(T:Ai a (a+1) w w')(d: 16≤a):Gy w' aY:=by
 have c:=h.big;have b:∀ q,q < 16→∀ j,w'.cell? ⟨q,j,none⟩=w.cell? ⟨q,j,none⟩:=fun q hq j=>by
  unfold World.cell?;rw[T.block q (by omega) (.inl (by omega))]
 exact ⟨(b _ (by decide) 0).trans h.cell,Nat.le_trans c T.size,fun k=>(b _ (by decide) k).trans (h.tab k)⟩
theorem Gy.below {w w':World}{aY:Addr}(h:Gy w aY)(a:Below w.heap.size w w'):Gy w' aY:=h.touch (Ai.of_below (lo:=16) (hi:=16 +1) a NLN) NLN
theorem Cp (a b c d:Value)(w:World):(Instr.field 93 (.agg #[a,b,c,d]) 3).run Tryz.prog w= .ok d w:=by
 simp[Instr.field,run_underlying Tryz.underlying93,Sem.run_bind,part,asAgg,isAgg,go_sem]
theorem CH {w:World}{l g c:Nat}{T:List Ae}{f:Nat}{i:List Ae}{k:Nat}{aY:Addr}(h:Pp w l g c T f i k)(a:Gy w aY):
  Calls Tryz.prog 78 #[.pointer (some ⟨l,0,none⟩)] w fun e w'=>∃ b,e= .returned (By b)∧Wx aY f i b w'∧Below w.heap.size w w':=by
 have m:=Ab (Bc h.drew);have r:=a.cell;have s:=(a.below (Below.refl w.heap.size w).drew).cell;have n:=Ab (a.below (Below.refl w.heap.size w).drew);have j:=(Below.refl w.heap.size w).drew;unfold Wx;generalize CX f i=t at m ⊢;have u:=Cp (.int .i64 t.kind) (.int .i64 t.num) (.string t.text) (.int .i64 (t.at_:Int));clear h a;go_enter Tryz.func78,Tryz.ntmps78
 go_wp2_with fail
 go_region_held3 (fun w'=>w'.cell? ⟨6,0,none⟩=some (.iface 256 (.pointer (some aY)))) (first | assumption | go_keep) (first
  | (go_at_call 75;refine (DY _ _ _ p).mono ?_;rintro e v ⟨rfl,q,o⟩;have q3:=((Aa n).below d |>.below o).cell)
  | (go_at_call 115;refine (Aa m).mono ?_;rintro e p ⟨rfl,d⟩;rw[Cf];have q2:=((Aa n).below d).cell)
  | fail)
 all_goals
  go_wp2_with fail
  go_ret
  exact ⟨_,rfl,q,j.trans ((d.mono j.size).trans (o.mono (Nat.le_trans j.size d.size)))⟩
theorem CI {w:World}{a g c:Nat}{T:List Ae}{d:Nat}{t:Ae}{r:List Ae}{k:Nat}(h:Pp w a g c T d (t ::r) k)(s:List UInt8)(hs:see s t=true):
  Calls Tryz.prog 136 #[.pointer (some ⟨a,0,none⟩),.string (Bg s)] w fun e w'=>e= .returned .nilIface∧Pp w' a g c T d r (k+1)∧Ai a (a+1) w w':=by
 have f:=Ab (AD h s);have i:=Ab (show Aw s (t ::r)=true from hs);have j:=Ab (fun w' (b:Below w.heap.size w w')=>Bm (h.below b));clear h hs;go_enter Tryz.func136,Tryz.ntmps136
 go_wp2_with fail
 refine (Aa f).mono ?_;rintro e l ⟨rfl,b⟩;rw[Aa i];dsimp only;go_wp2_with fail
 refine (Aa j l b).mono ?_;rintro e o ⟨rfl,m,n⟩;dsimp only[Cf];go_wp2_with fail
 go_ret
 exact ⟨rfl,m,(Ai.of_below b NLN).trans n⟩
theorem DF {w:World}{f g c:Nat}{T:List Ae}{i:Nat}{d:List Ae}{k:Nat}{aY:Addr}(h:Pp w f g c T i d k)(j:Gy w aY)(s:List UInt8)(hs:Aw s d=false):
  Calls Tryz.prog 136 #[.pointer (some ⟨f,0,none⟩),.string (Bg s)] w fun e w'=>∃ b,e= .returned (By b)∧Wx aY i d b w'∧Below w.heap.size w w':=by
 have l:=Ab (AD h s);have m:=Ab hs;have n:=Ab (fun w' (a:Below w.heap.size w w')=>CH (h.below a) (j.below a));clear h hs j;go_enter Tryz.func136,Tryz.ntmps136
 go_wp2_with fail
 refine (Aa l).mono ?_;rintro e o ⟨rfl,a⟩;rw[Aa m];dsimp only;go_wp2_with fail
 refine (Aa n o a).mono ?_;rintro e r ⟨b,rfl,p,q⟩;dsimp only[By];go_wp2_with fail
 go_ret
 exact ⟨b,rfl,p,a.trans (q.mono a.size)⟩
set_option maxHeartbeats 800000
theorem Mw (a f:Option Addr)(n c g:Nat)(j:List ByteArray)(w:World)(h:Bb w a n c j)(m:Bb w f n g j):
  Calls Tryz.prog 46 #[.slice a n c,.slice f n g] w fun e w'=>e= .returned (.bool true)∧Below w.heap.size w w':=by
 have q:n≤9223372036854775807:=by have:=h.cap;have:=h.small;unfold maxLen at this;omega
 go_enter Tryz.func46,Tryz.ntmps46
 go_wp2
 go_loopw [5,6,14] (fun _ _ i wr=>∃ k:Nat,k≤n∧i= .int .i64 k∧Below w.heap.size w wr) (fun _ _ i _=>n - (intOf i).toNat)
 case atStart=>exact ⟨0,Nat.zero_le _,rfl,BRN⟩
 case round=>
  obtain ⟨k,hk,rfl,d⟩:=hrel;by_cases l:k < n
  ·obtain ⟨b,r,o,_,hc⟩:=(h.below d NLN).cells k l;obtain ⟨s,t,p,_,u⟩:=(m.below d NLN).cells k l;subst o;subst p;have v:(k:Int) < (n:Int):=by omega
   go_wp2
   first
    | (go_roundw
       case rel=>exact ⟨k+1,by omega,by go_num,d⟩
       case measure=>simp[intOf] <;> omega)
    | (go_quiet (fail)
       go_wp2
       go_roundw
       case rel=>exact ⟨k+1,by omega,by go_num,below_drewN d _⟩
       case measure=>simp[intOf] <;> omega)
  ·go_wp2
   go_ret
   exact ⟨rfl,d⟩
end Go.Proofs.YtoplnhndilmlcaaGreatDoor
