/-
  FRA, FRB, IP, PPF. Own work.
-/
import Derived.Test.YtffkofkjpckmpaaGreatDoorMXAU
import Derived.Test.YtffkofkjpckmpaaGreatDoorMXAX
import Derived.Test.YtffkofkjpckmpaaGreatDoorMXBD
import Derived.Test.YtffkofkjpckmpaaGreatDoorMXAF
import Derived.Test.YtffkofkjpckmpaaGreatDoorMXBF
import Derived.Test.YtffkofkjpckmpaaGreatDoorMXAG
namespace Go.Proofs.YtffkofkjpckmpaaGreatDoor
open Go.RowKit
set_option linter.unusedVariables false
theorem Ex.cnt1:∀ (e:Ex),1≤e.cnt
 | .un .. =>by simp[Ex.cnt]
 | .bin .. =>by simp[Ex.cnt]
 | .ite .. =>by simp[Ex.cnt]
 | .int .. =>by simp[Ex.cnt]
 | .text .. =>by simp[Ex.cnt]
 | .bool .. =>by simp[Ex.cnt]
 | .set .. =>by simp[Ex.cnt]
 | .name .. =>by simp[Ex.cnt]
 | .attr .. =>by simp[Ex.cnt]
 | .lett .. =>by simp[Ex.cnt]
def GQ (N:List Nd) (b:Nat) (M:List Nd):Prop:=∀ j x,M[j]? =some x→N[b+j]? =some x
theorem GQ.left {N a B:List Nd}{b:Nat}(h:GQ N b (a ++B)):GQ N b a:=fun j x hx=>h j x (by
 have:=(zX.1 hx).1;rw[yJ this];exact hx)
theorem GQ.right {N a B:List Nd}{b k:Nat}(h:GQ N b (a ++B))(hk:a.length=k):GQ N (b+k) B:=fun j x hx=>by
 have:=h (k+j) x (by rw[yC (by omega),← hk];rw[show a.length+j - a.length=j by omega];exact hx);rw[show b+k+j=b+(k+j) by omega];exact this
theorem GQ.one {N:List Nd}{b:Nat}{x:Nd}(h:GQ N b [x]):(N.map Nd.kids)[b]? =some x.kids:=by
 have:=h 0 x rfl;rw[zr] at this;rw[zd,this];rfl
theorem mxN {a b:Int}(c: 0≤a)(d: 0≤b):(mx a b).toNat=max a.toNat b.toNat:=by unfold mx;split <;> omega
theorem Ee:∀ (e:Ex) (N:List Nd) (b:Nat),GQ N b (Bw e b)→AJ (N.map Nd.kids) b [(b+e.cnt - 1,(Cf e).toNat)] (b+e.cnt)
 | .un i op k,N,b,h=>by
  rw[Bw] at h;have h1:=Ee k N b h.left;have h2:=(h.right (Al k b)).one;have c1:=k.cnt1;have d1:=(AZ k).1;have:=AJ.cons h1 (show (N.map Nd.kids)[b+k.cnt]? =some (Av [(b+k.cnt - 1,(Cf k).toNat)]) from h2) (.nil _);have e1:(Cf (.un i op k)).toNat=Ea [(b+k.cnt - 1,(Cf k).toNat)]+1:=by
   rw[Cf];have:=mxN (Int.le_refl 0) (show 0≤Cf k by omega);simp[Ea];have:=(FD 0 (Cf k));omega
  rw[e1,Ex.cnt];exact this
 | .bin i op l r,N,b,h=>by
  rw[Bw] at h;have h1:=Ee l N b h.left.left;have h2:=Ee r N (b+l.cnt) (h.left.right (Al l b));have h3:=(h.right (k:=l.cnt+r.cnt) (by rw[zB,Al,Al])).one;have c1:=l.cnt1;have c2:=r.cnt1;have d1:=(AZ l).1;have d2:=(AZ r).1;rw[← Nat.add_assoc] at h3;have:=AJ.cons (h1.join h2) (show (N.map Nd.kids)[b+l.cnt+r.cnt]? =some (Av [(b+l.cnt - 1,(Cf l).toNat),(b+l.cnt+r.cnt - 1,(Cf r).toNat)]) from h3) (.nil _);have e1:(Cf (.bin i op l r)).toNat=Ea [(b+l.cnt - 1,(Cf l).toNat),(b+l.cnt+r.cnt - 1,(Cf r).toNat)]+1:=by
   rw[Cf];have a1:=FD 0 (Cf l);have a2:=FD (mx 0 (Cf l)) (Cf r);simp[Ea];omega
  rw[e1,Ex.cnt,show b+(l.cnt+r.cnt+1) - 1=b+l.cnt+r.cnt by omega,show b+(l.cnt+r.cnt+1)=b+l.cnt+r.cnt+1 by omega];exact this
 | .ite i c t e,N,b,h=>by
  rw[Bw] at h;have h1:=Ee c N b h.left.left.left;have h2:=Ee t N (b+c.cnt) (h.left.left.right (Al c b));have h3:=Ee e N (b+c.cnt+t.cnt) (by have:=h.left.right (k:=c.cnt+t.cnt) (by rw[zB,Al,Al]);rw[← Nat.add_assoc] at this;exact this);have h4:=(h.right (k:=c.cnt+t.cnt+e.cnt) (by rw[zB,zB,Al,Al,Al])).one;have c1:=c.cnt1;have c2:=t.cnt1;have c3:=e.cnt1;have d1:=(AZ c).1;have d2:=(AZ t).1;have d3:=(AZ e).1;rw[show b+(c.cnt+t.cnt+e.cnt)=b+c.cnt+t.cnt+e.cnt by omega] at h4;have:=AJ.cons ((h1.join h2).join h3) (show (N.map Nd.kids)[b+c.cnt+t.cnt+e.cnt]? =some (Av [(b+c.cnt - 1,(Cf c).toNat),(b+c.cnt+t.cnt - 1,(Cf t).toNat),(b+c.cnt+t.cnt+e.cnt - 1,(Cf e).toNat)]) from h4) (.nil _);have e1:(Cf (.ite i c t e)).toNat=Ea [(b+c.cnt - 1,(Cf c).toNat),(b+c.cnt+t.cnt - 1,(Cf t).toNat),(b+c.cnt+t.cnt+e.cnt - 1,(Cf e).toNat)]+1:=by
   rw[Cf];have a1:=FD 0 (Cf c);have a2:=FD (mx 0 (Cf c)) (Cf t);have a3:=FD (mx (mx 0 (Cf c)) (Cf t)) (Cf e);simp[Ea];omega
  rw[e1,Ex.cnt,show b+(c.cnt+t.cnt+e.cnt+1) - 1=b+c.cnt+t.cnt+e.cnt by omega,show b+(c.cnt+t.cnt+e.cnt+1)=b+c.cnt+t.cnt+e.cnt+1 by omega];exact this
 | .int i n,N,b,h=>AJ.cons (.nil b) (show (N.map Nd.kids)[b]? =some (Av []) from h.one) (.nil _)
 | .text i s,N,b,h=>AJ.cons (.nil b) (show (N.map Nd.kids)[b]? =some (Av []) from h.one) (.nil _)
 | .bool i v,N,b,h=>AJ.cons (.nil b) (show (N.map Nd.kids)[b]? =some (Av []) from h.one) (.nil _)
 | .set i a n c ss,N,b,h=>AJ.cons (.nil b) (show (N.map Nd.kids)[b]? =some (Av []) from h.one) (.nil _)
 | .name i s,N,b,h=>AJ.cons (.nil b) (show (N.map Nd.kids)[b]? =some (Av []) from h.one) (.nil _)
 | .attr i n,N,b,h=>AJ.cons (.nil b) (show (N.map Nd.kids)[b]? =some (Av []) from h.one) (.nil _)
 | .lett i n,N,b,h=>AJ.cons (.nil b) (show (N.map Nd.kids)[b]? =some (Av []) from h.one) (.nil _)
theorem Mn (a:Option Ex)(N:List Nd)(b:Nat)(h:GQ N b (Fb a b))(d:Gt a≤64):∃ c,AJ (N.map Nd.kids) b c (b+AN a)∧Av c=(if a.isSome then [EW a b] else [])∧∀ p∈c,p.2≤64:=by
 cases a with
 |none=>exact ⟨[],.nil _,rfl,fun p hp=>by cases hp⟩
 |some e=>
  refine ⟨_,Ee e N b h, ?_,fun p hp=>?_⟩
  ·simp[Av,EW]
  ·rw[zJ.1 hp];have:Cf e≤64:=d;show (Cf e).toNat≤64;omega
theorem Mo (N:List Nd):∀ (X:List Sx) (b:Nat),GQ N b (A7 b X)→(∀ x∈X,Gt x.cond≤64∧Gt x.grant≤64∧(x.kind=3↔x.cond=none))→∃ a,AJ (N.map Nd.kids) b a (b+DN X)∧Av a=(Ct b X).flatMap As∧∀ p∈a,p.2≤64
 | [],b,_,_=>⟨[],.nil _,rfl,fun p hp=>by cases hp⟩
 |x ::X,b,h,hx=>by
  rw[A7] at h;have d:(Fb x.cond b).length=AN x.cond:=by cases x.cond <;> simp[Fb,AN,Al]
  have i:(Fb x.grant (b+AN x.cond)).length=AN x.grant:=by cases x.grant <;> simp[Fb,AN,Al]
  obtain ⟨j,l,f⟩:=hx x (zQ ..);obtain ⟨f1,g1,m,d1⟩:=Mn x.cond N b h.left.left j;obtain ⟨f2,g2,n,d2⟩:=Mn x.grant N (b+AN x.cond) (h.left.right d) l;obtain ⟨o,g3,q,d3⟩:=Mo N X (b+AN x.cond+AN x.grant) (by have:=h.right (k:=AN x.cond+AN x.grant) (by rw[zB,d,i]);rw[← Nat.add_assoc] at this;exact this) (fun y hy=>hx y (zS _ hy));refine ⟨f1 ++f2 ++o, ?_, ?_,fun p hp=>?_⟩
  ·have:=(g1.join g2).join g3;rw[Cy,← Nat.add_assoc,← Nat.add_assoc];exact this
  ·rw[Ct,zi,← q];have g:∀ c B:List (Nat × Nat),Av (c ++B)=Av c ++Av B:=fun c B=>by simp[Av]
   rw[g,g,m,n]
   congr 1
   rw[As]
   congr 1
   ·cases hc:x.cond with
    |none=>simp[f.2 hc]
    |some e=>
     have h3:x.kind≠3:=fun h3=>by rw[f.1 h3] at hc;cases hc
     simp[h3]
   ·cases hc:x.grant with
    |none=>simp[EW]
    |some e=>simp[EW]
  ·rcases zH.1 hp with hp | hp
   ·rcases zH.1 hp with hp | hp
    ·exact d1 p hp
    ·exact d2 p hp
   ·exact d3 p hp
def tkF (t:Ae):Prop:=(t.kind=1→0≤t.num∧t.num≤9223372036854775807)∧(t.kind=2→Bk t.text=true)∧(t.kind=3→Bh t.text=true)
def XQ (t:Ae):Nat:=if t.kind=4∨t.kind=5 then t.text.size else 1
theorem Gb (s:List UInt8):(AB s).size=s.length:=by simp[AB,ByteArray.size]
theorem AbL {c:UInt8}(h:Jt c=true):Dk c=true:=by
 rw[Jt] at h;simp[Dk,Vr,h]
theorem XX (l:List UInt8){k m:Int}{s:List UInt8}{d a:Nat}(h:BY l= .tok k m s d):tkF ⟨k,m,AB s,a⟩∧XQ ⟨k,m,AB s,a⟩≤d:=by
 have ok:=EJ l;rw[h] at ok;obtain ⟨i,p,j⟩:=ok;have n:XQ ⟨k,m,AB s,a⟩≤d:=by
  unfold XQ;split
  ·show (AB s).size≤d;rw[Gb];exact j
  ·exact i
 refine ⟨?_,n⟩
 match l,h with
 | [],h=>cases h
 |c ::r,h=>
  rw[BY] at h;split at h
  ·rename_i hc;rw[Bz] at h;split at h
   ·cases h
   ·rename_i t;simp only[N5.tok.injEq] at h;obtain ⟨h1,h2,h3,h4⟩:=h;have hk:k=4∨(k=3∧Fc s=false):=by
     rw[← h1,← h3];split
     ·exact .inl rfl
     ·rename_i o;exact .inr ⟨rfl,by simpa using o⟩
    refine ⟨fun e=>?_,fun e=>?_,fun e=>?_⟩
    ·have e:k=1:=e;omega
    ·have e:k=2:=e;omega
    ·have g:Fc s=false:=by
      have e:k=3:=e;rcases hk with h | h
      ·omega
      ·exact h.2
     have hp:=Ju (r:=r) (AbL hc);have b:=Ep Dk (c ::r);rw[h3] at b;have hs:s=c ::(r.take (AR Dk (c ::r) - 1)):=by
      rw[← h3];obtain ⟨q,hq⟩:∃ q,AR Dk (c ::r)=q+1:=⟨_,(Nat.sub_add_cancel hp).symm⟩
      rw[hq,List.take_succ_cons,Nat.add_sub_cancel]
     have hl:s.length≤32:=by rw[← h3,zg];omega
     show Bh (AB s)=true;rw[Bh,Dg,hs];rw[hs] at b hl g;simp only[zE,zF,Bool.not_eq_true'];exact ⟨⟨⟨hl,hc⟩,b⟩,g⟩
  ·split at h
   ·rename_i hc u;rw[CX] at h;split at h
    ·cases h
    ·rename_i f;simp only[N5.tok.injEq] at h;obtain ⟨h1,h2,h3,h4⟩:=h;refine ⟨fun _=>?_,fun e=>?_,fun e=>?_⟩
     ·have:=(Ef _ _ rfl (Ep CK (c ::r))).1;show 0≤m∧m≤_;rw[← h2];exact ⟨this,by have:=fun e=>f (.inr (.inr e));omega⟩
     ·have e:k=2:=e;omega
     ·have e:k=3:=e;omega
   ·split at h
    ·rw[BP] at h;split at h
     ·cases h
     ·rename_i f;simp only[N5.tok.injEq] at h;obtain ⟨h1,h2,h3,h4⟩:=h;refine ⟨fun e=>?_,fun _=>?_,fun e=>?_⟩
      ·have e:k=1:=e;omega
      ·show Bk (AB s)=true;have b:=Ep Jo r;rw[h3] at b;have hl:s.length≤32:=by rw[← h3,zg];have:=fun e=>f (.inl e);omega
       rw[Bk,Gb,Dg];simp only[zE,zF];exact ⟨hl,b⟩
      ·have e:k=3:=e;omega
    ·have hk:k=5:=by
      rw[Be] at h;split at h
      ·simp only[N5.tok.injEq] at h;exact h.1.symm
      ·split at h
       ·simp only[N5.tok.injEq] at h;exact h.1.symm
       ·cases h
     refine ⟨fun e=>?_,fun e=>?_,fun e=>?_⟩
     ·have e:k=1:=e;omega
     ·have e:k=2:=e;omega
     ·have e:k=3:=e;omega
def Rc (ts:List Ae):Nat:=(ts.map XQ).sum
theorem PN (a b:List Ae):Rc (a ++b)=Rc a+Rc b:=by simp[Rc]
theorem Et (t:Ae)(b:List Ae):Rc (t ::b)=XQ t+Rc b:=by simp[Rc]
theorem OH (n:Nat):∀ (f:Nat) (l:List UInt8) (out:List Ae),(∀ t∈out,tkF t)→(∀ t∈(AE n f l out).toks,tkF t)∧Rc (AE n f l out).toks≤Rc out+l.length
 | 0,l,out,h=>⟨h,by show Rc out≤_;omega⟩
 |f+1,l,out,h=>by
  rw[AE];have g:=Gv false l;split
  ·exact ⟨h,by show Rc out≤_;omega⟩
  ·rename_i c r i;rw[i] at g;split
   ·exact ⟨fun t ht=>(by cases ht),by show 0≤_;omega⟩
   ·rename_i k m s b d;obtain ⟨h1,h2⟩:=XX (c ::r) (a:=n - (r.length+1)) d;have ok:=EJ (c ::r);rw[d] at ok;have j:b≤(c ::r).length:=ok.2.1;obtain ⟨h3,h4⟩:=OH n f ((c ::r).drop b) (out ++ [⟨k,m,AB s,n - (r.length+1)⟩]) (fun t ht=>by
     rcases zH.1 ht with ht | ht
     ·exact h t ht
     ·rw[zJ.1 ht];exact h1)
    refine ⟨h3,zL h4 ?_⟩;rw[PN,Et,zj];have:Rc []=0:=rfl;omega
theorem XY (t:ByteArray):(∀ u∈(Ay t).toks,tkF u)∧Rc (Ay t).toks≤4000:=by
 unfold Ay;split
 ·exact ⟨fun u hu=>(by cases hu),by show 0≤_;omega⟩
 ·obtain ⟨h1,h2⟩:=OH t.size (t.size+1) (Aj t) [] (fun u hu=>by cases hu);refine ⟨h1,zL h2 ?_⟩;rw[At];have:Rc []=0:=rfl;omega
def ndS (x:Nd):Prop:=okN x∧x.text.size≤1048576∧x.names.length+x.kids.length≤65535
theorem Qp:∀ (c:List Ae) (s:ByteArray),s∈IL c→∃ t∈c,t.text=s
 | [],s,h=>by cases h
 |t ::r,s,h=>by
  rw[IL] at h;split at h
  ·rcases zG.1 h with rfl | h
   ·exact ⟨t,zQ ..,rfl⟩
   ·obtain ⟨u,hu,e⟩:=Qp r s h;exact ⟨u,zS _ hu,e⟩
  ·obtain ⟨u,hu,e⟩:=Qp r s h;exact ⟨u,zS _ hu,e⟩
theorem VN:∀ (c:List Ae),(IL c).length≤c.length
 | []=>by simp[IL]
 |t ::r=>by
  have:=VN r;rw[IL];split <;> simp <;> omega
theorem Hu (op num:Int)(s:ByteArray)(h:s.size≤4000):ndS ⟨op,num,s, [], []⟩:=
 ⟨⟨by simp,by simp,fun x hx=>by cases hx⟩,by show s.size≤1048576;omega,by simp⟩
theorem Hz (op:Int)(ks:List Int)(h:ks.length≤3):ndS ⟨op,0,⟨#[]⟩, [],ks⟩:=
 ⟨⟨by simp,by show ks.length≤1048576;omega,fun x hx=>by cases hx⟩,by show (⟨#[]⟩:ByteArray).size≤1048576;decide,by show 0+ks.length≤65535;omega⟩
theorem AaF (c:List Ae)(hl:c.length≤4000)(hc:∀ t∈c,t.text.size≤4000):ndS ⟨4,0,⟨#[]⟩,Jp (IL c), []⟩:=by
 have hs:Cl (IL c) (Jp (IL c)):=EH (IL c);have h1:=hs.len;have h2:=VN c;refine ⟨⟨by show (Jp (IL c)).length≤1048576;omega,by simp,fun x hx=>?_⟩,by show (⟨#[]⟩:ByteArray).size≤1048576;decide,by show (Jp (IL c)).length+0≤65535;omega⟩;obtain ⟨t,ht,e⟩:=Qp c x ((hs.mem x).1 hx);have:=hc t ht;rw[← e];unfold maxLen;omega
theorem G.small {k:Nat}{c:List Ae}{p:Pt}(g:G k c p):c.length≤4000→(∀ t∈c,t.text.size≤4000)→∀ b,∀ x∈Bw p.ex b,ndS x:=by
 have o:(⟨#[]⟩:ByteArray).size≤4000:=by decide
 induction g with
 |up hk g n=>exact n
 |@ite t u v a b d H I J ht hu w K L M y z id=>
  intro hl hc m x hx;simp only[List.length_cons,zB] at hl;rw[Pt.ex,Bw] at hx;rcases zH.1 hx with hx | hx
  ·rcases zH.1 hx with hx | hx
   ·rcases zH.1 hx with hx | hx
    ·exact y (by omega) (fun f i=>hc f (by simp[i])) _ x hx
    ·exact z (by omega) (fun f i=>hc f (by simp[i])) _ x hx
   ·exact id (by omega) (fun f i=>hc f (by simp[i])) _ x hx
  ·rw[zJ.1 hx];exact Hz _ _ (by simp)
 |@bin k l r t op A B hk C ht E q s=>
  intro hl hc m x hx;simp only[List.length_cons,zB] at hl;rw[Pt.ex,Bw] at hx;rcases zH.1 hx with hx | hx
  ·rcases zH.1 hx with hx | hx
   ·exact q (by omega) (fun f i=>hc f (by simp[i])) _ x hx
   ·exact s (by omega) (fun f i=>hc f (by simp[i])) _ x hx
  ·rw[zJ.1 hx];exact Hz _ _ (by simp)
 |@cmp l r t op A B C ht E q s=>
  intro hl hc m x hx;simp only[List.length_cons,zB] at hl;rw[Pt.ex,Bw] at hx;rcases zH.1 hx with hx | hx
  ·rcases zH.1 hx with hx | hx
   ·exact q (by omega) (fun f i=>hc f (by simp[i])) _ x hx
   ·exact s (by omega) (fun f i=>hc f (by simp[i])) _ x hx
  ·rw[zJ.1 hx];exact Hz _ _ (by simp)
 |@not t r p ht g n | @neg t r p ht g n=>
  intro hl hc m x hx;simp only[List.length_cons] at hl;rw[Pt.ex,Bw] at hx;rcases zH.1 hx with hx | hx
  ·exact n (by omega) (fun f i=>hc f (by simp[i])) _ x hx
  ·rw[zJ.1 hx];exact Hz _ _ (by simp)
 |@size t u v r p ht hu g w n=>
  intro hl hc m x hx;simp only[List.length_cons,zB] at hl;rw[Pt.ex,Bw] at hx;rcases zH.1 hx with hx | hx
  ·exact n (by omega) (fun f i=>hc f (by simp[i])) _ x hx
  ·rw[zJ.1 hx];exact Hz _ _ (by simp)
 |@par t u r p ht g hu n=>
  intro hl hc;simp only[List.length_cons,zB] at hl;exact n (by omega) (fun f i=>hc f (by simp[i]))
 |@set t u c ht hc hu=>
  intro hl F m x hx;simp only[List.length_cons,zB] at hl;have j:x∈ [(⟨4,0,⟨#[]⟩,Jp (IL c), []⟩:Nd)]:=hx;rw[zJ.1 j];exact AaF c (by omega) (fun f i=>F f (by simp[i]))
 |@num t h=>
  intro hl hc m x hx;have j:x∈ [(⟨1,t.num,⟨#[]⟩, [], []⟩:Nd)]:=hx;rw[zJ.1 j];exact Hu _ _ _ o
 |@text t h=>
  intro hl hc m x hx;have j:x∈ [(⟨2,0,t.text, [], []⟩:Nd)]:=hx;rw[zJ.1 j];exact Hu _ _ _ (hc t (by simp))
 |@name t h=>
  intro hl hc m x hx;have j:x∈ [(⟨5,0,t.text, [], []⟩:Nd)]:=hx;rw[zJ.1 j];exact Hu _ _ _ (hc t (by simp))
 |@tru t h=>
  intro hl hc m x hx;have j:x∈ [(⟨3,1,⟨#[]⟩, [], []⟩:Nd)]:=hx;rw[zJ.1 j];exact Hu _ _ _ o
 |@fls t h=>
  intro hl hc m x hx;have j:x∈ [(⟨3,0,⟨#[]⟩, [], []⟩:Nd)]:=hx;rw[zJ.1 j];exact Hu _ _ _ o
theorem GC.small {c:List Ae}{g:Option Pt}(h:GC c g)(hl:c.length≤4000)(hc:∀ t∈c,t.text.size≤4000):∀ b,∀ x∈Fb (g.map Pt.ex) b,ndS x:=by
 cases h with
 |deny h=>intro b x hx;cases hx
 |grant h g=>
  simp only[List.length_cons] at hl;exact g.small (by omega) (fun a d=>hc a (by simp[d]))
theorem SC.small {c:List Ae}{s:Ps}(h:SC c s)(hl:c.length≤4000)(hc:∀ t∈c,t.text.size≤4000):(∀ b,∀ x∈Fb s.sx.cond b,ndS x)∧(∀ b,∀ x∈Fb s.sx.grant b,ndS x)∧s.sx.name.size≤1048576:=by
 cases h with
 |@let_ t n e c p h j he g=>
  simp only[List.length_cons] at hl;exact ⟨g.small (by omega) (fun a d=>hc a (by simp[d])),(fun b x hx=>by cases hx),by have:=hc n (by simp);show n.text.size≤1048576;omega⟩
 |when h i k f=>
  simp only[List.length_cons,zB] at hl;exact ⟨i.small (by omega) (fun a d=>hc a (by simp[d])),f.small (by omega) (fun a d=>hc a (by simp[d])),by show (AB []).size≤1048576;decide⟩
 |else_ h f=>
  simp only[List.length_cons] at hl;exact ⟨(fun b x hx=>by cases hx),f.small (by omega) (fun a d=>hc a (by simp[d])),by show (AB []).size≤1048576;decide⟩
theorem PC.small {ts:List Ae}{S:List Ps}(h:PC ts S):ts.length≤4000→(∀ t∈ts,t.text.size≤4000)→∀ b,(∀ x∈A7 b (S.map Ps.sx),ndS x)∧∀ s∈Ct b (S.map Ps.sx),s.name.size≤1048576:=by
 induction h with
 |nil=>intro _ _ b;exact ⟨fun x hx=>(by cases hx),fun s hs=>(by cases hs)⟩
 |@cons c r u s S g hu i a=>
  intro hl hc b;simp only[List.length_cons,zB] at hl;obtain ⟨h1,h2,h3⟩:=g.small (by omega) (fun d f=>hc d (by simp[f]));have a:=a (by omega) (fun d f=>hc d (by simp[f]));rw[List.map_cons,A7,Ct];refine ⟨fun x hx=>?_,fun y hy=>?_⟩
  ·rcases zH.1 hx with hx | hx
   ·rcases zH.1 hx with hx | hx
    ·exact h1 _ x hx
    ·exact h2 _ x hx
   ·exact (a _).1 x hx
  ·rcases zG.1 hy with rfl | hy
   ·exact h3
   ·exact (a _).2 y hy
theorem Wx (t:ByteArray)(x:QR)(d:DP (Ay t).toks x):AcM (IX t x).1 (IX t x).2.1 (IX t x).2.2.1:=by
 have a:AcM [] [] []:=⟨⟨by simp,fun x hx=>by cases hx⟩,⟨by simp,fun x hx=>by cases hx⟩,by simp⟩
 by_cases hc:(Ay t).code=0
 ·cases x with
  |bad q=>rw[LZ hc];exact a
  |ok S=>
   cases b:(Kl (S.flatMap Ps.sets)).head? with
   |some i=>rw[Jv hc b];exact a
   |none=>
    cases c:IM (S.map Ps.sx) with
    |some i=>rw[Jw hc b c];exact a
    |none=>
     rw[Mp hc b c];have f:=d.cut S rfl;have h4:=GS t;have g:=f.cnt;obtain ⟨h1,h2⟩:=f.small h4 (fun u hu=>(Ik t u hu).2) 0;refine ⟨⟨by show (A7 0 _).length≤65535;rw[CY];omega,h1⟩,⟨by show (Ct 0 _).length≤65535;rw[Gc,zv];omega,h2⟩,by show (CW _).length≤65535;rw[Ge];omega⟩
 ·rw[Jx hc];exact a
def DC (Es:List Ex) (k:Int):Nat:=if k= -1 then 0 else match Es[k.toNat]? with
 |some e=>e.cnt
 |none=>0
def IU (Es:List Ex) (L:List St):Nat:=(L.map fun s=>DC Es s.cond+DC Es s.grant).sum
theorem Qz {Es:List Ex}{k:Int}{m:Nat}{e:Ex}(h:k=(m:Nat))(he:Es[m]? =some e):DC Es k=e.cnt:=by
 rw[DC,if_neg (by omega),h,z0,he]
def Du (Es:List Ex) (k:Int):Option Ex:=if k= -1 then none else Es[k.toNat]?
def Ss (Es:List Ex):Nat→List St→List Sx
 |_, []=> []
 |i,s ::L=>⟨i,s.kind,s.name,Du Es s.cond,Du Es s.grant⟩ ::Ss Es (i+1) L
theorem L8 (Es:List Ex)(k:Int):AN (Du Es k)=DC Es k:=by
 unfold Du DC;split
 ·rfl
 ·cases Es[k.toNat]? <;> rfl
theorem V0 (Es:List Ex):∀ (L:List St) (i:Nat),DN (Ss Es i L)=IU Es L
 | [],i=>rfl
 |s ::L,i=>by
  rw[Ss,Cy,V0 Es L (i+1),L8,L8];simp[IU]
theorem Ia (Es:List Ex):∀ (L:List St),(∀ s∈L,DC Es s.cond+DC Es s.grant=((As s).map (DC Es)).sum)→IU Es L=((L.flatMap As).map (DC Es)).sum
 | [],_=>rfl
 |s ::L,h=>by
  have a:=Ia Es L (fun x hx=>h x (zS _ hx));have h1:=h s (zQ ..);have e:IU Es (s ::L)=DC Es s.cond+DC Es s.grant+IU Es L:=by simp[IU]
  rw[e,h1,a,zi,zl,List.sum_append]
def Zo (N:List Nd):List Nat→List Ex→Prop
 | [], []=>True
 |q ::qs,e ::es=>DK N q e∧Zo N qs es
 |_,_=>False
theorem DK.kidsX {N:List Nd}{i:Nat}{e:Ex}(t:DK N i e){x:Nd}(hx:N[i]? =some x):∃ f:List Nat,x.kids=f.map (fun (q:Nat)=>(q:Int))∧Zo N f e.kids:=by
 have b:∀ {y:Nd},N[i]? =some y→y=x:=fun k=>Option.some.inj (k.symm.trans hx);cases t with
 |int h d hk=>obtain rfl:=b h;exact ⟨[],hk,trivial⟩
 |text h d hk=>obtain rfl:=b h;exact ⟨[],hk,trivial⟩
 |bool h d hk=>obtain rfl:=b h;exact ⟨[],hk,trivial⟩
 |set h d hk a n c=>obtain rfl:=b h;exact ⟨[],hk,trivial⟩
 |name h d hk=>obtain rfl:=b h;exact ⟨[],hk,trivial⟩
 |attr h d hk=>obtain rfl:=b h;exact ⟨[],hk,trivial⟩
 |lett h d hk=>obtain rfl:=b h;exact ⟨[],hk,trivial⟩
 |@un _ k _ _ h d hk hi t=>obtain rfl:=b h;exact ⟨[k],hk,t,trivial⟩
 |@bin _ k l _ _ _ h d hk hi t u=>obtain rfl:=b h;exact ⟨[k,l],hk,t,u,trivial⟩
 |@ite _ k l m _ _ _ _ h d hk hi t u v=>obtain rfl:=b h;exact ⟨[k,l,m],hk,t,u,v,trivial⟩
theorem Ib {N:List Nd}{Es:List Ex}(k:Es.length=N.length)(f:∀ j,(h:j < Es.length)→DK N j Es[j]){a b:Nat}{S:List (Nat × Nat)}(d:AJ (N.map Nd.kids) a S b)(l:b≤N.length):a+((Av S).map (DC Es)).sum=b:=by
 have c:∀ q∈S,q.1 < Es.length:=fun q hq=>by have:=(d.lt q hq).2;omega
 have g:=M2 d (S.attach.map (fun q=>Es[q.1.1]'(c q.1 q.2))) (by simp) (fun j h1 h2=>by
  have:=f (S[j]).1 (c _ (zP h1));simpa using this)
 have e2:(Av S).map (DC Es)=(S.attach.map (fun q=>Es[q.1.1]'(c q.1 q.2))).map Ex.cnt:=by
  apply List.ext_getElem
  ·simp[Av]
  ·intro j h1 h2;have i:j < S.length:=by simpa[Av] using h1
   have hq:=c S[j] (zP i);simp only[Av,List.getElem_map,List.getElem_attach];exact Qz rfl (zM hq)
 rw[e2];exact g
theorem JU {N:List Nd}{L:List St}(h:By N L=true):∃ S,AJ (N.map Nd.kids) 0 S N.length∧Av S=L.flatMap As:=by
 simp only[By,zE,zF] at h;obtain ⟨⟨⟨h1,⟨h2,h3⟩,h4⟩,h5⟩,h6⟩:=h;obtain ⟨S,b,ht⟩:∃ S,CJ (N.map Nd.kids) N.length [] 0=some S∧Av S=L.flatMap As:=by
  rw[EF] at h6;cases hq:CJ (N.map Nd.kids) N.length [] 0 with
  |none=>rw[hq] at h6;cases h6
  |some S=>rw[hq] at h6;exact ⟨S,rfl,of_decide_eq_true h6⟩
 obtain ⟨a,_⟩:=FM N.length (.nil 0) (fun p hp=>(by cases hp)) b;rw[zW] at a;exact ⟨S,a,ht⟩
theorem M7 {N:List Nd}{L:List St}(b:Zp N L)(Es:List Ex):∀ s∈L,DC Es s.cond+DC Es s.grant=((As s).map (DC Es)).sum:=fun s hs=>by
 have c:DC Es s.grant=((if s.grant≠-1 then [s.grant] else []).map (DC Es)).sum:=by
  by_cases g:s.grant= -1
  ·rw[if_neg (fun k=>k g),g];rfl
  ·rw[if_pos g];simp
 rw[As,zl,List.sum_append,← c]
 congr 1
 by_cases a:s.kind=3
 ·rw[if_neg (fun k=>k a)];rcases b.stm s hs with q | q | q
  ·omega
  ·omega
  ·rw[q.2];rfl
 ·rw[if_pos a];simp
theorem Xo {N:List Nd}{L:List St}(h:By N L=true){Es:List Ex}(a:Es.length=N.length)(b:∀ j,(h:j < Es.length)→DK N j Es[j]):IU Es L=N.length:=by
 obtain ⟨S,c,ht⟩:=JU h;have h1:=Ib a b c NLN;rw[Ia Es L (M7 (Fk h) Es),← ht];omega
def Z9 (N:List Nd) (j:Nat):Option Nd:=N[j]?
def QA:List Ex→Nat→List Nd
 | [],_=> []
 |e ::r,b=>Bw e b ++QA r (b+e.cnt)
def Ly:Nat→List Ex→List Nat
 |_, []=> []
 |b,e ::r=>(b+e.cnt - 1) ::Ly (b+e.cnt) r
theorem LA {s:ByteArray}(h:s.size=0):s=⟨#[]⟩:=by
 cases s with
 |mk d=>
  have:d.size=0:=h;rw[Array.eq_empty_of_size_eq_zero this]
theorem Je {l:List ByteArray}(h:l.length=0):l= []:=z7 h
theorem Zq {N:List Nd}{t:Nat}{e:Ex}{x:Nd}(he:DK N t e)(hx:N[t]? =some x)(hf:Aw x=true)(b:Nat)(hk:x.kids=(Ly b e.kids).map (fun (q:Nat)=>(q:Int))):Bw e b=QA e.kids b ++ [x]:=by
 have g:∀ {y:Nd},N[t]? =some y→y=x:=fun k=>Option.some.inj (k.symm.trans hx);rw[Aw,zE,zF] at hf;obtain ⟨_,hf⟩:=hf;cases he with
 |@int _ y h d f=>
  obtain rfl:=g h;rw[if_pos d] at hf;simp only[zE,zF] at hf;obtain ⟨op,num,text,names,kids⟩:=y;dsimp only at *;subst d f;rw[LA hf.1.2,Je hf.2];rfl
 |@text _ y h d f=>
  obtain rfl:=g h;rw[if_neg (by omega),if_pos d] at hf;simp only[zE,zF] at hf;obtain ⟨op,num,text,names,kids⟩:=y;dsimp only at *;subst d f;rw[hf.1.2,Je hf.2];rfl
 |@bool _ y h d f=>
  obtain rfl:=g h;rw[if_neg (by omega),if_neg (by omega),if_pos d] at hf;simp only[zE,zF] at hf;obtain ⟨op,num,text,names,kids⟩:=y;dsimp only at *;subst d f;rw[LA hf.1.2,Je hf.2];rcases hf.1.1 with rfl | rfl <;> rfl
 |@set _ y h d f a n c=>
  obtain rfl:=g h;rw[if_neg (by omega),if_neg (by omega),if_neg (by omega),if_pos d] at hf;simp only[zE,zF] at hf;obtain ⟨op,num,text,names,kids⟩:=y;dsimp only at *;subst d f;rw[hf.1.2,LA hf.2];rfl
 |@name _ y h d f=>
  obtain rfl:=g h;rw[if_neg (by omega),if_neg (by omega),if_neg (by omega),if_neg (by omega),if_pos d] at hf;simp only[zE,zF] at hf;obtain ⟨op,num,text,names,kids⟩:=y;dsimp only at *;subst d f;rw[hf.1.2,Je hf.2];rfl
 |@attr _ y h d f=>
  obtain rfl:=g h;rw[if_neg (by omega),if_neg (by omega),if_neg (by omega),if_neg (by omega),if_neg (by omega),if_pos (by omega)] at hf;cases hf
 |@lett _ y h d f=>
  obtain rfl:=g h;rw[if_neg (by omega),if_neg (by omega),if_neg (by omega),if_neg (by omega),if_neg (by omega),if_pos (by omega)] at hf;cases hf
 |@un _ k y e1 h d f hi u=>
  obtain rfl:=g h;rw[if_neg (by omega),if_neg (by omega),if_neg (by omega),if_neg (by omega),if_neg (by omega),if_neg (by omega)] at hf;simp only[zE,zF] at hf;simp only[Bw,Ex.kids,QA,Ly,zp] at hk ⊢;obtain ⟨op,num,text,names,kids⟩:=y;dsimp only at *;rw[hf.1.1,LA hf.1.2,Je hf.2,hk];rfl
 |@bin _ k l y e1 e2 h d f hi u v=>
  obtain rfl:=g h;rw[if_neg (by omega),if_neg (by omega),if_neg (by omega),if_neg (by omega),if_neg (by omega),if_neg (by omega)] at hf;simp only[zE,zF] at hf;simp only[Bw,Ex.kids,QA,Ly,zp] at hk ⊢;obtain ⟨op,num,text,names,kids⟩:=y;dsimp only at *;rw[hf.1.1,LA hf.1.2,Je hf.2,hk];rfl
 |@ite _ k l m y e1 e2 e3 h d f hi u v w=>
  obtain rfl:=g h;rw[if_neg (by omega),if_neg (by omega),if_neg (by omega),if_neg (by omega),if_neg (by omega),if_neg (by omega)] at hf;simp only[zE,zF] at hf;simp only[Bw,Ex.kids,QA,Ly,zp,zC] at hk ⊢;obtain ⟨op,num,text,names,kids⟩:=y;dsimp only at *;subst d;rw[hf.1.1,LA hf.1.2,Je hf.2,hk];rfl
theorem Xp {N:List Nd}(j:∀ x∈N,Aw x=true){a b:Nat}{d:List (Nat × Nat)}(h:AJ (N.map Nd.kids) a d b):∀ (c:List Ex),Zo N (d.map (fun p=>p.1)) c→QA c a=(List.range' a (b - a)).filterMap (Z9 N)∧d.map (fun p=>p.1)=Ly a c∧a+(c.map Ex.cnt).sum=b:=by
 induction h with
 |nil a=>
  intro c f
  match c,f with
  | [],_=>simp[QA,Ly]
 |@cons a t b ks d hk ht hf k l=>
  intro c f
  match c,f with
  |e ::c,⟨he,hr⟩=>
   obtain ⟨x,hx,g⟩:∃ x,N[t]? =some x∧x.kids=Av ks:=by
    rw[zd] at ht;cases hx:N[t]? with
    |none=>rw[hx] at ht;cases ht
    |some x=>rw[hx] at ht;exact ⟨x,rfl,Option.some.inj ht⟩
   obtain ⟨m,hq,n⟩:=he.kidsX hx;have e1:ks.map (fun p=>p.1)=m:=by
    have:=g.symm.trans hq;rw[Av] at this;have h2:=congrArg (List.map Int.toNat) this;simpa[List.map_map,Function.comp_def] using h2
   obtain ⟨o,q,y⟩:=k e.kids (by rw[e1];exact n);have z:=hk.le;have A:=hf.le;have B:e.cnt=(e.kids.map Ex.cnt).sum+1:=by
    cases e <;> simp[Ex.cnt,Ex.kids] <;> omega
   have i:a+e.cnt=t+1:=by omega
   obtain ⟨r,s,C⟩:=l c hr;have u:List.range' a (b - a)=List.range' a (t - a) ++t ::List.range' (t+1) (b - (t+1)):=by
    have e2:b - a=(t - a)+(1+(b - (t+1))):=by omega
    rw[e2,← List.range'_append_1,← List.range'_append_1];have e3:a+(t - a)=t:=by omega
    rw[e3];rfl
   have v:=Zq he hx (j _ (Z7 hx)) a (by rw[g,Av,← q,List.map_map];rfl);have w:Z9 N t=some (x):=by rw[Z9,hx]
   refine ⟨?_, ?_, ?_⟩
   ·rw[QA,v,o,i,r,u,List.filterMap_append,List.filterMap_cons,w];simp
   ·rw[List.map_cons,Ly,i,s];simp
   ·rw[List.map_cons,List.sum_cons];omega
def AbG (N:List Nd) (c:Nat) (e:Ex):Prop:=Bw e c=(List.range' c e.cnt).filterMap (Z9 N)
def Ma (N:List Nd) (Es:List Ex) (c:Nat) (k:Int):Prop:=k= -1∨∃ (mm:Nat) (e:Ex),k=mm∧Es[mm]? =some e∧c+e.cnt=mm+1∧AbG N c e
theorem Na {N:List Nd}(l:∀ x∈N,Aw x=true){Es:List Ex}(g:Es.length=N.length)(a:∀ j,(h:j < Es.length)→DK N j Es[j]){S:List (Nat × Nat)}(m:AJ (N.map Nd.kids) 0 S N.length){b n:List Int}{x:Int}(h:Av S=b ++x ::n):Ma N Es ((b.map (DC Es)).sum) x:=by
 rw[Av] at h;obtain ⟨s,t,rfl,h1,h2⟩:=List.map_eq_append_iff.1 h;obtain ⟨p,u,rfl,h3,h4⟩:=List.map_eq_cons_iff.1 h2;obtain ⟨c,o,d⟩:=m.split;have hc:=Ib g a o (by have:=d.le;omega);have hp:=(d.lt p (zQ ..)).2;have e1:c=(b.map (DC Es)).sum:=by rw[← h1];rw[Av] at hc;omega
 have f:p.1 < Es.length:=by omega
 have i:AJ (N.map Nd.kids) c [p] (p.1+1):=by
  cases d with
  |cons hk ht hf=>exact .cons hk ht (.nil _)
 have q:=Ib g a i (by omega);have v:DC Es (p.1:Nat)=Es[p.1].cnt:=Qz rfl (zM f);have r:c+Es[p.1].cnt=p.1+1:=by
  simp only[Av,List.map_cons,Z1,List.sum_cons,List.sum_nil] at q;omega
 rw[← e1];refine .inr ⟨p.1,Es[p.1],h3.symm,zM f,r, ?_⟩;have k:=(Xp l i [Es[p.1]] ⟨a p.1 f,trivial⟩).1;rw[show p.1+1 - c=Es[p.1].cnt by omega] at k;rw[AbG,← k];simp[QA]
def Zr (N:List Nd) (Es:List Ex) (L:List St):Prop:=∀ k,(h:k < L.length)→Ma N Es (IU Es (L.take k)) L[k].cond∧Ma N Es (IU Es (L.take k)+DC Es L[k].cond) L[k].grant
theorem Xq {N:List Nd}{L:List St}(h:By N L=true){Es:List Ex}(c:Es.length=N.length)(d:∀ j,(h:j < Es.length)→DK N j Es[j]):Zr N Es L:=fun k hk=>by
 obtain ⟨S,f,ht⟩:=JU h;have a:=Fk h;have l:L=L.take k ++L[k] ::L.drop (k+1):=by rw[List.getElem_cons_drop,yG]
 have e1:IU Es (L.take k)=(((L.take k).flatMap As).map (DC Es)).sum:=Ia Es _ (fun s hs=>M7 a Es s (yF hs));have e2:Av S=(L.take k).flatMap As ++(As L[k] ++(L.drop (k+1)).flatMap As):=by
  rw[ht]
  conv=>lhs;rw[l]
  rw[List.flatMap_append,zi]
 have hs:=zP hk;generalize L[k]=s at e2 hs ⊢;have i:s.cond= -1∨s.kind≠3:=by
  rcases a.stm s hs with q | q | q
  ·right;omega
  ·right;omega
  ·exact .inl q.2
 rw[e1];refine ⟨?_, ?_⟩
 ·rcases i with q | q
  ·exact .inl q
  ·rw[As,if_pos q] at e2;exact Na a.fields c d f e2
 ·by_cases g:s.grant= -1
  ·exact .inl g
  ·have q2:As s=(if s.kind≠3 then [s.cond] else []) ++ [s.grant]:=by rw[As,if_pos g]
   have e3:Av S=((L.take k).flatMap As ++(if s.kind≠3 then [s.cond] else [])) ++s.grant ::(L.drop (k+1)).flatMap As:=by
    rw[e2,q2];simp
   have r:=Na a.fields c d f e3;have e4:(((L.take k).flatMap As ++(if s.kind≠3 then [s.cond] else [])).map (DC Es)).sum=(((L.take k).flatMap As).map (DC Es)).sum+DC Es s.cond:=by
    rw[zl,List.sum_append]
    congr 1
    by_cases b:s.kind=3
    ·rw[if_neg (fun k=>k b)];rcases i with q | q
     ·rw[q];rfl
     ·exact absurd b q
    ·rw[if_pos b];simp
   rw[e4] at r;exact r
theorem Su (Es:List Ex)(s:St):∀ (L:List St) (i:Nat),Ss Es i (L ++ [s])=Ss Es i L ++ [⟨((i+L.length:Nat):Int),s.kind,s.name,Du Es s.cond,Du Es s.grant⟩]
 | [],i=>by simp[Ss]
 |x ::L,i=>by
  have e:i+1+L.length=i+(L.length+1):=by omega
  rw[List.cons_append,Ss,Ss,Su Es s L (i+1),List.cons_append,List.length_cons,e]
theorem Zs {N:List Nd}{Es:List Ex}{c:Nat}{k:Int}(h:Ma N Es c k):Fb (Du Es k) c=(List.range' c (DC Es k)).filterMap (Z9 N)∧EW (Du Es k) c=k:=by
 rcases h with rfl | ⟨a,e,rfl,he,h1,h2⟩
 ·exact ⟨by simp[Du,Fb,DC],rfl⟩
 ·have b:Du Es (a:Int)=some e:=by rw[Du,if_neg (by omega),z0,he]
  rw[b,Qz rfl he];refine ⟨h2, ?_⟩;show (((c+e.cnt - 1 :Nat)):Int)=a;omega
theorem Sv {N:List Nd}{Es:List Ex}{L:List St}(hs:Zr N Es L):∀ k,k≤L.length→A7 0 (Ss Es 0 (L.take k))=(List.range' 0 (IU Es (L.take k))).filterMap (Z9 N)∧Ct 0 (Ss Es 0 (L.take k))=L.take k
 | 0,_=>by simp[Ss,A7,Ct,IU]
 |k+1,h=>by
  obtain ⟨b,c⟩:=Sv hs k (by omega);have hk:k < L.length:=by omega
  obtain ⟨d,f⟩:=hs k hk;obtain ⟨a1,a2⟩:=Zs d;obtain ⟨b1,b2⟩:=Zs f;have g:∀ (a:List St) (s:St),IU Es (a ++ [s])=IU Es a+(DC Es s.cond+DC Es s.grant):=fun a s=>by simp[IU]
  have i:DN (Ss Es 0 (L.take k))=IU Es (L.take k):=by rw[V0]
  rw[zx hk,Su,Iw,Ix,i,b,c,g];simp only[zW];have j:∀ m n p:Nat,List.range' 0 (m+(n+p))=List.range' 0 m ++List.range' m n ++List.range' (m+n) p:=fun m n p=>by
   rw[← Nat.add_assoc,← List.range'_append_1,← List.range'_append_1];simp
  generalize L[k]=s at *;refine ⟨?_, ?_⟩
  ·rw[j,List.filterMap_append,List.filterMap_append];show _ ++Fb (Du Es s.cond) _ ++Fb (Du Es s.grant) (_+AN (Du Es s.cond))=_;rw[a1,L8,b1]
  ·show _ ++ [(⟨s.kind,s.name,EW (Du Es s.cond) _,EW (Du Es s.grant) (_+AN (Du Es s.cond))⟩:St)]=_;rw[a2,L8,b2]
theorem Pl:∀ (N M:List Nd) (k:Nat),M.drop k=N→(List.range' k N.length).filterMap (Z9 M)=N
 | [],M,k,h=>by simp
 |x ::N,M,k,h=>by
  have h1:M[k]? =some x:=by
   have:=congrArg (fun l=>l[0]?) h;simpa[List.getElem?_drop] using this
  have h2:M.drop (k+1)=N:=by
   have:=congrArg List.tail h;simpa[List.tail_drop] using this
  have e:Z9 M k=some (x):=by rw[Z9,h1]
  rw[List.length_cons,List.range'_succ,List.filterMap_cons,e];dsimp only;rw[Pl N M (k+1) h2]
theorem Zt (N:List Nd):(List.range' 0 N.length).filterMap (Z9 N)=N:=Pl N N 0 rfl
theorem AaW {N:List Nd}{L:List St}(h:By N L=true){Es:List Ex}(a:Es.length=N.length)(b:∀ j,(h:j < Es.length)→DK N j Es[j]):A7 0 (Ss Es 0 L)=N∧Ct 0 (Ss Es 0 L)=L:=by
 have:=Sv (Xq h a b) L.length NLN;rw[List.take_length,Xo h a b,Zt] at this;exact this
end Go.Proofs.YtffkofkjpckmpaaGreatDoor
