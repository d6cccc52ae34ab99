/-
  HS, IP, FRB, FRD, HQ, HR0, HR, HR1. Own work.
-/
import Derived.Test.YtchakjeegneeoaaGreatDoorMXBO
import Derived.Test.YtchakjeegneeoaaGreatDoorMXBG
import Derived.Test.YtchakjeegneeoaaGreatDoorMXAB
import Derived.Test.YtchakjeegneeoaaGreatDoorMXBM
import Derived.Test.YtchakjeegneeoaaGreatDoorMXBI
import Derived.Test.YtchakjeegneeoaaGreatDoorMXAX
namespace Go.Proofs.YtchakjeegneeoaaGreatDoor
open Go.RowKit
set_option linter.unusedVariables false
theorem Yh (l:List UInt8){k m:Int}{s:List UInt8}{b a:Nat}(h:Ek l= .tok k m s b):BI ⟨k,m,AB s,a⟩∧s.length≤l.length:=by
 have d:∀ r,BN r= .tok k m s b→BI ⟨k,m,AB s,a⟩∧s.length≤r.length:=by
  intro r h;rw[BN] at h;split at h
  ·cases h
  ·simp only[Pm.tok.injEq] at h;obtain ⟨h1,_,h3,_⟩:=h;refine ⟨?_,by rw[← h3,zb];omega⟩;split at h1
   ·rename_i hi;refine .inr (.inr (.inr ⟨.inl h1.symm, ?_⟩));rw[DT,← h3];refine zl _ (zl _ ?_);simpa[Gz] using hi
   ·exact .inr (.inr (.inl h1.symm))
 have f:∀ r,DZ r= .tok k m s b→BI ⟨k,m,AB s,a⟩∧s.length≤r.length:=by
  intro r h;rw[DZ] at h;split at h
  ·cases h
  ·simp only[Pm.tok.injEq] at h;exact ⟨.inl h.1.symm,by rw[← h.2.2.1];simp⟩
 have ht:∀ r,Co r= .tok k m s b→BI ⟨k,m,AB s,a⟩∧s.length≤r.length:=by
  intro r h;rw[Co] at h;split at h
  ·cases h
  ·simp only[Pm.tok.injEq] at h;exact ⟨.inr (.inl h.1.symm),by rw[← h.2.2.1,zb];omega⟩
 have hs:∀ c r,Bl c (c ::r)= .tok k m s b→BI ⟨k,m,AB s,a⟩∧s.length≤(c ::r).length:=by
  intro c r h;rw[Bl] at h;split at h
  ·rename_i h2;simp only[Pm.tok.injEq] at h;refine ⟨.inr (.inr (.inr ⟨.inr h.1.symm, ?_⟩)),by rw[← h.2.2.1,zb];omega⟩;rw[DT,← h.2.2.1];refine zl _ (zm _ ?_);simpa using h2
  ·split at h
   ·rename_i h2;simp only[Pm.tok.injEq] at h;refine ⟨.inr (.inr (.inr ⟨.inr h.1.symm, ?_⟩)),by rw[← h.2.2.1];simp⟩;rw[DT,← h.2.2.1];refine zm _ (zQ.2 ⟨c, ?_,rfl⟩);simpa using h2
   ·cases h
 match l,h with
 | [],h=>cases h
 |c ::r,h=>
  rw[Ek] at h;split at h
  ·exact d _ h
  ·split at h
   ·exact f _ h
   ·split at h
    ·obtain ⟨h1,h2⟩:=ht _ h;exact ⟨h1,by simp;omega⟩
    ·exact hs _ _ h
theorem Oe (n:Nat):∀ (f:Nat) (l:List UInt8) (out:List Af),l.length≤4000→(∀ t∈out,BI t∧t.text.size≤4000)→∀ t∈(BY n f l out).toks,BI t∧t.text.size≤4000
 | 0,l,out,_,h=>h
 |f+1,l,out,hl,h=>by
  rw[BY];have b:=JA false l;split
  ·exact h
  ·rename_i c r d;rw[d] at b;split
   ·intro t ht;cases ht
   ·rename_i k m s i g;refine Oe n f _ _ (by rw[zp];omega) ?_;intro t ht;rcases zK.1 ht with ht | ht
    ·exact h t ht
    ·rw[zL.1 ht];obtain ⟨h1,h2⟩:=Yh (c ::r) (a:=n - (r.length+1)) g;refine ⟨h1, ?_⟩;show (AB s).size≤4000;have e:(AB s).size=s.length:=by simp[AB,ByteArray.size]
     rw[e];omega
theorem IU (t:ByteArray):∀ u∈(AI t).toks,BI u∧u.text.size≤4000:=by
 unfold AI;split
 ·intro u a;cases a
 ·exact Oe t.size (t.size+1) (Ap t) [] (by rw[Av];omega) (fun u a=>by cases a)
theorem I3 (t:ByteArray):∀ u∈(AI t).toks,BI u∧u.text.size≤maxLen:=fun u a=>⟨(IU t u a).1,by have:=(IU t u a).2;unfold maxLen;omega⟩
def ndS (x:Nd):Prop:=okN x∧x.text.size≤1048576∧x.names.length+x.kids.length≤65535
theorem Rv:∀ (c:List Af) (s:ByteArray),s∈nms c→∃ t∈c,t.text=s
 | [],s,h=>by cases h
 |t ::r,s,h=>by
  rw[nms] at h;split at h
  ·rcases zE.1 h with rfl | h
   ·exact ⟨t,zT ..,rfl⟩
   ·obtain ⟨u,a,e⟩:=Rv r s h;exact ⟨u,zY _ a,e⟩
  ·obtain ⟨u,a,e⟩:=Rv r s h;exact ⟨u,zY _ a,e⟩
theorem W8:∀ (c:List Af),(nms c).length≤c.length
 | []=>by simp[nms]
 |t ::r=>by
  have:=W8 r;rw[nms];split <;> simp <;> omega
theorem Iw (op num:Int)(s:ByteArray)(h:s.size≤4000):ndS ⟨op,num,s, [], []⟩:=
 ⟨⟨by simp,by simp,fun x hx=>by cases hx⟩,by show s.size≤1048576;omega,by simp⟩
theorem Ix (op:Int)(ks:List Int)(h:ks.length≤3):ndS ⟨op,0,⟨#[]⟩, [],ks⟩:=
 ⟨⟨by simp,by show ks.length≤1048576;omega,fun x hx=>by cases hx⟩,by show (⟨#[]⟩:ByteArray).size≤1048576;decide,by show 0+ks.length≤65535;omega⟩
theorem Ab9 (c:List Af)(a:c.length≤4000)(hc:∀ t∈c,t.text.size≤4000):ndS ⟨4,0,⟨#[]⟩,MO (nms c), []⟩:=by
 have hs:Cw (nms c) (MO (nms c)):=Fa (nms c);have h1:=hs.len;have h2:=W8 c;refine ⟨⟨by show (MO (nms c)).length≤1048576;omega,by simp,fun x hx=>?_⟩,by show (⟨#[]⟩:ByteArray).size≤1048576;decide,by show (MO (nms c)).length+0≤65535;omega⟩;obtain ⟨t,ht,e⟩:=Rv c x ((hs.mem x).1 hx);have:=hc t ht;rw[← e];unfold maxLen;omega
theorem G.small {k:Nat}{c:List Af}{p:Pt}(g:G k c p):c.length≤4000→(∀ t∈c,t.text.size≤4000)→∀ b,∀ x∈BH p.ex b,ndS x:=by
 have q:(⟨#[]⟩:ByteArray).size≤4000:=by decide
 induction g with
 |up hk g o=>exact o
 |@ite t u v a b d J K L ht s z M N O A B id=>
  intro j hc n x hx;simp only[List.length_cons,zA] at j;rw[Pt.ex,BH] at hx;rcases zK.1 hx with hx | hx
  ·rcases zK.1 hx with hx | hx
   ·rcases zK.1 hx with hx | hx
    ·exact A (by omega) (fun f i=>hc f (by simp[i])) _ x hx
    ·exact B (by omega) (fun f i=>hc f (by simp[i])) _ x hx
   ·exact id (by omega) (fun f i=>hc f (by simp[i])) _ x hx
  ·rw[zL.1 hx];exact Ix _ _ (by simp)
 |@bin k l r t op C E hk F ht H w y=>
  intro j hc n x hx;simp only[List.length_cons,zA] at j;rw[Pt.ex,BH] at hx;rcases zK.1 hx with hx | hx
  ·rcases zK.1 hx with hx | hx
   ·exact w (by omega) (fun f i=>hc f (by simp[i])) _ x hx
   ·exact y (by omega) (fun f i=>hc f (by simp[i])) _ x hx
  ·rw[zL.1 hx];exact Ix _ _ (by simp)
 |@cmp l r t op C E F ht H w y=>
  intro j hc n x hx;simp only[List.length_cons,zA] at j;rw[Pt.ex,BH] at hx;rcases zK.1 hx with hx | hx
  ·rcases zK.1 hx with hx | hx
   ·exact w (by omega) (fun f i=>hc f (by simp[i])) _ x hx
   ·exact y (by omega) (fun f i=>hc f (by simp[i])) _ x hx
  ·rw[zL.1 hx];exact Ix _ _ (by simp)
 |@not t r p ht g o | @neg t r p ht g o=>
  intro j hc n x hx;simp only[List.length_cons] at j;rw[Pt.ex,BH] at hx;rcases zK.1 hx with hx | hx
  ·exact o (by omega) (fun f i=>hc f (by simp[i])) _ x hx
  ·rw[zL.1 hx];exact Ix _ _ (by simp)
 |@size t u v r p ht s g z o=>
  intro j hc n x hx;simp only[List.length_cons,zA] at j;rw[Pt.ex,BH] at hx;rcases zK.1 hx with hx | hx
  ·exact o (by omega) (fun f i=>hc f (by simp[i])) _ x hx
  ·rw[zL.1 hx];exact Ix _ _ (by simp)
 |@par t u r p ht g s o=>
  intro j hc;simp only[List.length_cons,zA] at j;exact o (by omega) (fun f i=>hc f (by simp[i]))
 |@set t u c ht hc s=>
  intro j I n x hx;simp only[List.length_cons,zA] at j;have m:x∈ [(⟨4,0,⟨#[]⟩,MO (nms c), []⟩:Nd)]:=hx;rw[zL.1 m];exact Ab9 c (by omega) (fun f i=>I f (by simp[i]))
 |@num t h=>
  intro j hc n x hx;have m:x∈ [(⟨1,t.num,⟨#[]⟩, [], []⟩:Nd)]:=hx;rw[zL.1 m];exact Iw _ _ _ q
 |@text t h=>
  intro j hc n x hx;have m:x∈ [(⟨2,0,t.text, [], []⟩:Nd)]:=hx;rw[zL.1 m];exact Iw _ _ _ (hc t (by simp))
 |@name t h=>
  intro j hc n x hx;have m:x∈ [(⟨5,0,t.text, [], []⟩:Nd)]:=hx;rw[zL.1 m];exact Iw _ _ _ (hc t (by simp))
 |@tru t h=>
  intro j hc n x hx;have m:x∈ [(⟨3,1,⟨#[]⟩, [], []⟩:Nd)]:=hx;rw[zL.1 m];exact Iw _ _ _ q
 |@fls t h=>
  intro j hc n x hx;have m:x∈ [(⟨3,0,⟨#[]⟩, [], []⟩:Nd)]:=hx;rw[zL.1 m];exact Iw _ _ _ q
theorem GC.small {c:List Af}{g:Option Pt}(h:GC c g)(a:c.length≤4000)(hc:∀ t∈c,t.text.size≤4000):∀ b,∀ x∈Gv (g.map Pt.ex) b,ndS x:=by
 cases h with
 |deny h=>intro b x hx;cases hx
 |grant h g=>
  simp only[List.length_cons] at a;exact g.small (by omega) (fun d f=>hc d (by simp[f]))
theorem SC.small {c:List Af}{s:Ps}(h:SC c s)(f:c.length≤4000)(hc:∀ t∈c,t.text.size≤4000):(∀ b,∀ x∈Gv s.sx.cond b,ndS x)∧(∀ b,∀ x∈Gv s.sx.grant b,ndS x)∧s.sx.name.size≤1048576:=by
 cases h with
 |@let_ t n e c p h k he g=>
  simp only[List.length_cons] at f;exact ⟨g.small (by omega) (fun a d=>hc a (by simp[d])),(fun b x hx=>by cases hx),by have:=hc n (by simp);show n.text.size≤1048576;omega⟩
 |when h j l i=>
  simp only[List.length_cons,zA] at f;exact ⟨j.small (by omega) (fun a d=>hc a (by simp[d])),i.small (by omega) (fun a d=>hc a (by simp[d])),by show (AB []).size≤1048576;decide⟩
 |else_ h i=>
  simp only[List.length_cons] at f;exact ⟨(fun b x hx=>by cases hx),i.small (by omega) (fun a d=>hc a (by simp[d])),by show (AB []).size≤1048576;decide⟩
theorem PC.small {ts:List Af}{S:List Ps}(h:PC ts S):ts.length≤4000→(∀ t∈ts,t.text.size≤4000)→∀ b,(∀ x∈AK b (S.map Ps.sx),ndS x)∧∀ s∈Cu b (S.map Ps.sx),s.name.size≤1048576:=by
 induction h with
 |nil=>intro _ _ b;exact ⟨fun x hx=>(by cases hx),fun s hs=>(by cases hs)⟩
 |@cons c r u s S sc i j a=>
  intro g hc b;simp only[List.length_cons,zA] at g;obtain ⟨h1,h2,h3⟩:=sc.small (by omega) (fun d f=>hc d (by simp[f]));have a:=a (by omega) (fun d f=>hc d (by simp[f]));rw[List.map_cons,AK,Cu];refine ⟨fun x hx=>?_,fun y hy=>?_⟩
  ·rcases zK.1 hx with hx | hx
   ·rcases zK.1 hx with hx | hx
    ·exact h1 _ x hx
    ·exact h2 _ x hx
   ·exact (a _).1 x hx
  ·rcases zE.1 hy with rfl | hy
   ·exact h3
   ·exact (a _).2 y hy
theorem Ym (t:ByteArray)(x:QR)(d:DP (AI t).toks x):okT (Ik t x).1 (Ik t x).2.1 (Ik t x).2.2.1:=by
 have a:okT [] [] []:=⟨⟨by simp,fun x hx=>by cases hx⟩,⟨by simp,fun x hx=>by cases hx⟩,by simp⟩
 by_cases hc:(AI t).code=0
 ·cases x with
  |bad q=>rw[MP hc];exact a
  |ok S=>
   cases b:(Mu (S.flatMap Ps.sets)).head? with
   |some i=>rw[J3 hc b];exact a
   |none=>
    cases hd:JO (S.map Ps.sx) with
    |some i=>rw[J4 hc b hd];exact a
    |none=>
     rw[Q8 hc b hd];have c:=d.cut S rfl;have h4:=Il t;have g:=c.cnt;obtain ⟨h1,h2⟩:=c.small h4 (fun u f=>(IU t u f).2) 0;refine ⟨⟨by show (AK 0 _).length≤65535;rw[Do];omega,h1⟩,⟨by show (Cu 0 _).length≤65535;rw[Fy,zV];omega,h2⟩,by show (Dm _).length≤65535;rw[GB];omega⟩
 ·rw[J5 hc];exact a
def tkF (t:Af):Prop:=(t.kind=1→0≤t.num∧t.num≤9223372036854775807)∧(t.kind=2→BM t.text=true)∧(t.kind=3→BD t.text=true)
def Y8 (t:Af):Nat:=if t.kind=4∨t.kind=5 then t.text.size else 1
theorem Gx (s:List UInt8):(AB s).size=s.length:=by simp[AB,ByteArray.size]
theorem Adc {c:UInt8}(h:Sn c=true):Ew c=true:=by
 rw[Sn] at h;simp[Ew,ZJ,h]
theorem ZK (l:List UInt8){k m:Int}{s:List UInt8}{d a:Nat}(h:Ek l= .tok k m s d):tkF ⟨k,m,AB s,a⟩∧Y8 ⟨k,m,AB s,a⟩≤d:=by
 have ok:=J0 l;rw[h] at ok;obtain ⟨j,t,n⟩:=ok;have o:Y8 ⟨k,m,AB s,a⟩≤d:=by
  unfold Y8;split
  ·show (AB s).size≤d;rw[Gx];exact n
  ·exact j
 refine ⟨?_,o⟩
 match l,h with
 | [],h=>cases h
 |c ::r,h=>
  rw[Ek] at h;split at h
  ·rename_i hc;rw[BN] at h;split at h
   ·cases h
   ·rename_i u;simp only[Pm.tok.injEq] at h;obtain ⟨h1,h2,h3,h4⟩:=h;have hk:k=4∨(k=3∧Gz s=false):=by
     rw[← h1,← h3];split
     ·exact .inl rfl
     ·rename_i p;exact .inr ⟨rfl,by simpa using p⟩
    refine ⟨fun e=>?_,fun e=>?_,fun e=>?_⟩
    ·have e:k=1:=e;omega
    ·have e:k=2:=e;omega
    ·have i:Gz s=false:=by
      have e:k=3:=e;rcases hk with h | h
      ·omega
      ·exact h.2
     have hp:=J2 (r:=r) (Adc hc);have b:=EP Ew (c ::r);rw[h3] at b;have hs:s=c ::(r.take (AR Ew (c ::r) - 1)):=by
      rw[← h3];obtain ⟨q,hq⟩:∃ q,AR Ew (c ::r)=q+1:=⟨_,(Nat.sub_add_cancel hp).symm⟩
      rw[hq,List.take_succ_cons,Nat.add_sub_cancel]
     have f:s.length≤32:=by rw[← h3,zb];omega
     show BD (AB s)=true;rw[BD,DT,hs];rw[hs] at b f i;simp only[zI,zG,Bool.not_eq_true'];exact ⟨⟨⟨f,hc⟩,b⟩,i⟩
  ·split at h
   ·rename_i hc hd;rw[DZ] at h;split at h
    ·cases h
    ·rename_i g;simp only[Pm.tok.injEq] at h;obtain ⟨h1,h2,h3,h4⟩:=h;refine ⟨fun _=>?_,fun e=>?_,fun e=>?_⟩
     ·have:=(EB _ _ rfl (EP DJ (c ::r))).1;show 0≤m∧m≤_;rw[← h2];exact ⟨this,by have:=fun e=>g (.inr (.inr e));omega⟩
     ·have e:k=2:=e;omega
     ·have e:k=3:=e;omega
   ·split at h
    ·rw[Co] at h;split at h
     ·cases h
     ·rename_i g;simp only[Pm.tok.injEq] at h;obtain ⟨h1,h2,h3,h4⟩:=h;refine ⟨fun e=>?_,fun _=>?_,fun e=>?_⟩
      ·have e:k=1:=e;omega
      ·show BM (AB s)=true;have b:=EP KO r;rw[h3] at b;have f:s.length≤32:=by rw[← h3,zb];have:=fun e=>g (.inl e);omega
       rw[BM,Gx,DT];simp only[zI,zG];exact ⟨f,b⟩
      ·have e:k=3:=e;omega
    ·have hk:k=5:=by
      rw[Bl] at h;split at h
      ·simp only[Pm.tok.injEq] at h;exact h.1.symm
      ·split at h
       ·simp only[Pm.tok.injEq] at h;exact h.1.symm
       ·cases h
     refine ⟨fun e=>?_,fun e=>?_,fun e=>?_⟩
     ·have e:k=1:=e;omega
     ·have e:k=2:=e;omega
     ·have e:k=3:=e;omega
def Tj (ts:List Af):Nat:=(ts.map Y8).sum
theorem Q6 (a b:List Af):Tj (a ++b)=Tj a+Tj b:=by simp[Tj]
theorem EQ (t:Af)(b:List Af):Tj (t ::b)=Y8 t+Tj b:=by simp[Tj]
theorem PY (n:Nat):∀ (f:Nat) (l:List UInt8) (out:List Af),(∀ t∈out,tkF t)→(∀ t∈(BY n f l out).toks,tkF t)∧Tj (BY n f l out).toks≤Tj out+l.length
 | 0,l,out,h=>⟨h,by show Tj out≤_;omega⟩
 |f+1,l,out,h=>by
  rw[BY];have g:=JA false l;split
  ·exact ⟨h,by show Tj out≤_;omega⟩
  ·rename_i c r i;rw[i] at g;split
   ·exact ⟨fun t ht=>(by cases ht),by show 0≤_;omega⟩
   ·rename_i k m s b d;obtain ⟨h1,h2⟩:=ZK (c ::r) (a:=n - (r.length+1)) d;have ok:=J0 (c ::r);rw[d] at ok;have j:b≤(c ::r).length:=ok.2.1;obtain ⟨h3,h4⟩:=PY n f ((c ::r).drop b) (out ++ [⟨k,m,AB s,n - (r.length+1)⟩]) (fun t ht=>by
     rcases zK.1 ht with ht | ht
     ·exact h t ht
     ·rw[zL.1 ht];exact h1)
    refine ⟨h3,zD h4 ?_⟩;rw[Q6,EQ,zp];have:Tj []=0:=rfl;omega
theorem ZL (t:ByteArray):(∀ u∈(AI t).toks,tkF u)∧Tj (AI t).toks≤4000:=by
 unfold AI;split
 ·exact ⟨fun u a=>(by cases a),by show 0≤_;omega⟩
 ·obtain ⟨h1,h2⟩:=PY t.size (t.size+1) (Ap t) [] (fun u a=>by cases a);refine ⟨h1,zD h2 ?_⟩;rw[Av];have:Tj []=0:=rfl;omega
def ndF (x:Nd):Prop:=As x=true∧x.num≤9223372036854775807
theorem Vq (op:Int)(k:Int)(h:op=8∨op=9∨op=10):ndF ⟨op,0,⟨#[]⟩, [], [k]⟩:=by
 refine ⟨?_,by show (0 :Int)≤_;decide⟩;rcases h with rfl | rfl | rfl <;> rfl
theorem WG (op:Int)(k l:Int)(h: 11≤op∧op≤26):ndF ⟨op,0,⟨#[]⟩, [], [k,l]⟩:=by
 refine ⟨?_,by show (0 :Int)≤_;decide⟩;have e:Dn op=2:=by unfold Dn;rw[if_neg (by omega),if_neg (by omega),if_pos h]
 have a:op≠1:=by omega
 have b:op≠2:=by omega
 have c:op≠3:=by omega
 have d:op≠4:=by omega
 have f:op≠5:=by omega
 have g:op≠6:=by omega
 have i:op≠7:=by omega
 simp[As,e,a,b,c,d,f,g,i,ByteArray.size]
theorem WH {k:Nat}{t:Af}{op:Int}(h:CZ k t=some op): 11≤op∧op≤26:=by
 obtain ⟨s,hs,_⟩:=FH h;have a:∀ k,∀ p∈CE k,11≤p.2∧p.2≤26:=fun k=>by
  unfold CE;split <;> decide
 exact a k _ hs
theorem Aeg {s:ByteArray}(h1:BM s=true)(h2:s≠AB []):vnB s=true:=by
 simp only[BM,zI,zG] at h1;have h0:s.size≠0:=fun e=>h2 (by
  have:Ap s= []:=zy (by rw[Av];exact e);rw[← this,Bs])
 simp only[vnB,zI,zG];exact ⟨⟨by omega,h1.1⟩,h1.2⟩
theorem AbP {a:List ByteArray}(h1:∀ s∈a,BM s=true)(h2:∀ s∈a,s≠AB [])(h3:(MO a).length≤64):ndF ⟨4,0,⟨#[]⟩,MO a, []⟩:=by
 refine ⟨?_,by show (0 :Int)≤_;decide⟩;have hs:Cw a (MO a):=Fa a;have b:NI (MO a)=true:=by
  rw[NI,z6];intro x hx;have:=(hs.mem x).1 hx;exact Aeg (h1 x this) (h2 x this)
 have c:JC (MO a)=true:=by rw[JD _ h3,b,hs.rise];rfl
 have e:Dn 4=0:=rfl;simp[As,e,c,ByteArray.size]
theorem Vr {c:List Af}(h:∀ t∈c,tkF t):∀ s∈nms c,BM s=true
 |s,hs=>by
  induction c with
  |nil=>cases hs
  |cons t r b=>
   rw[nms] at hs;split at hs
   ·rename_i hk;rcases zE.1 hs with rfl | hs
    ·exact (h t (zT ..)).2.1 hk
    ·exact b (fun u a=>h u (zY _ a)) hs
   ·exact b (fun u a=>h u (zY _ a)) hs
theorem G.fields {k:Nat}{c:List Af}{p:Pt}(g:G k c p):(∀ t∈c,tkF t)→p.ne→(∀ q∈p.sets,(MO q.2).length≤64)→∀ b,∀ x∈BH p.ex b,ndF x:=by
 induction g with
 |up hk g o=>exact o
 |@ite t u v a b d J K L ht s z M N O A B id=>
  intro hc f hs m x hx;rw[Pt.sets] at hs;rw[Pt.ex,BH] at hx;rcases zK.1 hx with hx | hx
  ·rcases zK.1 hx with hx | hx
   ·rcases zK.1 hx with hx | hx
    ·exact A (fun i j=>hc i (by simp[j])) f.1 (fun q hq=>hs q (by simp[hq])) _ x hx
    ·exact B (fun i j=>hc i (by simp[j])) f.2.1 (fun q hq=>hs q (by simp[hq])) _ x hx
   ·exact id (fun i j=>hc i (by simp[j])) f.2.2 (fun q hq=>hs q (by simp[hq])) _ x hx
  ·rw[zL.1 hx];exact ⟨rfl,by show (0 :Int)≤_;decide⟩
 |@bin k l r t op C E hk F ht H w y=>
  intro hc f hs m x hx;rw[Pt.sets] at hs;rw[Pt.ex,BH] at hx;rcases zK.1 hx with hx | hx
  ·rcases zK.1 hx with hx | hx
   ·exact w (fun i j=>hc i (by simp[j])) f.1 (fun q hq=>hs q (by simp[hq])) _ x hx
   ·exact y (fun i j=>hc i (by simp[j])) f.2 (fun q hq=>hs q (by simp[hq])) _ x hx
  ·rw[zL.1 hx];exact WG _ _ _ (WH ht)
 |@cmp l r t op C E F ht H w y=>
  intro hc f hs m x hx;rw[Pt.sets] at hs;rw[Pt.ex,BH] at hx;rcases zK.1 hx with hx | hx
  ·rcases zK.1 hx with hx | hx
   ·exact w (fun i j=>hc i (by simp[j])) f.1 (fun q hq=>hs q (by simp[hq])) _ x hx
   ·exact y (fun i j=>hc i (by simp[j])) f.2 (fun q hq=>hs q (by simp[hq])) _ x hx
  ·rw[zL.1 hx];exact WG _ _ _ (WH ht)
 |@not t r p ht g o=>
  intro hc f hs m x hx;rw[Pt.ex,BH] at hx;rcases zK.1 hx with hx | hx
  ·exact o (fun i j=>hc i (by simp[j])) f hs _ x hx
  ·rw[zL.1 hx];exact Vq _ _ (by simp)
 |@neg t r p ht g o=>
  intro hc f hs m x hx;rw[Pt.ex,BH] at hx;rcases zK.1 hx with hx | hx
  ·exact o (fun i j=>hc i (by simp[j])) f hs _ x hx
  ·rw[zL.1 hx];exact Vq _ _ (by simp)
 |@size t u v r p ht s g z o=>
  intro hc f hs m x hx;rw[Pt.ex,BH] at hx;rcases zK.1 hx with hx | hx
  ·exact o (fun i j=>hc i (by simp[j])) f hs _ x hx
  ·rw[zL.1 hx];exact Vq _ _ (by simp)
 |@par t u r p ht g s o=>
  intro hc f hs;exact o (fun i j=>hc i (by simp[j])) f hs
 |@set t u c ht hc s=>
  intro I f hs m x hx;have n:x∈ [(⟨4,0,⟨#[]⟩,MO (nms c), []⟩:Nd)]:=hx;rw[zL.1 n];exact AbP (Vr (fun i j=>I i (by simp[j]))) f (hs (t.at_,nms c) (by simp[Pt.sets]))
 |@num t h=>
  intro hc f hs m x hx;have n:x∈ [(⟨1,t.num,⟨#[]⟩, [], []⟩:Nd)]:=hx;rw[zL.1 n];have:=(hc t (by simp)).1 h;refine ⟨?_,this.2⟩;have e:Dn 1=0:=rfl;simp[As,e,this.1,ByteArray.size]
 |@text t h=>
  intro hc f hs m x hx;have n:x∈ [(⟨2,0,t.text, [], []⟩:Nd)]:=hx;rw[zL.1 n];refine ⟨?_,by show (0 :Int)≤_;decide⟩;have e:Dn 2=0:=rfl;simp[As,e,(hc t (by simp)).2.1 h]
 |@name t h=>
  intro hc f hs m x hx;have n:x∈ [(⟨5,0,t.text, [], []⟩:Nd)]:=hx;rw[zL.1 n];refine ⟨?_,by show (0 :Int)≤_;decide⟩;have e:Dn 5=0:=rfl;simp[As,e,(hc t (by simp)).2.2 h]
 |@tru t h=>
  intro hc f hs m x hx;have n:x∈ [(⟨3,1,⟨#[]⟩, [], []⟩:Nd)]:=hx;rw[zL.1 n];exact ⟨rfl,by show (1 :Int)≤_;decide⟩
 |@fls t h=>
  intro hc f hs m x hx;have n:x∈ [(⟨3,0,⟨#[]⟩, [], []⟩:Nd)]:=hx;rw[zL.1 n];exact ⟨rfl,by show (0 :Int)≤_;decide⟩
theorem Ij {s:List UInt8}{t:Af}(h:see s t=true):Y8 t=s.length:=by
 simp only[see,zI,Bool.or_eq_true,zG] at h;rw[Y8,if_pos h.1,h.2,Gx]
theorem WI:∀ {ts:List Af},(∀ t∈ts,1≤Y8 t)→ts.length≤Tj ts
 | [],_=>by simp
 |t ::r,h=>by
  rw[EQ];have:=WI (fun u a=>h u (zY _ a)) (ts:=r);have:=h t (zT ..);simp;omega
theorem Ade {t:Af}(h:BI t): 1≤Y8 t:=by
 unfold Y8;split
 ·rename_i hk;have a:Ap t.text∈Cq:=by
   rcases h with h | h | h | h
   ·omega
   ·omega
   ·omega
   ·exact h.2
  have:∀ l∈Cq,1≤l.length:=by decide
  have:=this _ a;rw[Av] at this;exact this
 ·exact NLN
theorem G.one {k:Nat}{c:List Af}{p:Pt}(g:G k c p): 1≤c.length:=by
 induction g with
 |up hk g a=>exact a
 |_=>first | (simp;done) | (simp;omega)
theorem GC.fields {c:List Af}{g:Option Pt}(h:GC c g)(hc:∀ t∈c,tkF t)(a:neO g)(hs:∀ q∈Q7 g,(MO q.2).length≤64):∀ b,∀ x∈Gv (g.map Pt.ex) b,ndF x:=by
 cases h with
 |deny h=>intro b x hx;cases hx
 |grant h g=>exact g.fields (fun d f=>hc d (by simp[f])) a hs
theorem SC.fields {c:List Af}{s:Ps}(h:SC c s)(hc:∀ t∈c,tkF t)(hk:∀ t∈c,1≤Y8 t)(j:s.good)(hs:∀ q∈s.sets,(MO q.2).length≤64):(∀ b,∀ x∈Gv s.sx.cond b,ndF x)∧(∀ b,∀ x∈Gv s.sx.grant b,ndF x)∧(s.kind=1→BD s.name=true)∧(s.kind≠3→6≤Tj c):=by
 cases h with
 |@let_ t n e c p h l he g=>
  refine ⟨g.fields (fun f i=>hc f (by simp[i])) j.1 (fun q hq=>hs q (zl _ hq)),(fun b x hx=>by cases hx),fun _=>(hc n (by simp)).2.2 l,fun _=>?_⟩;have h1:=Ij h;have h2:=hk n (by simp);have h3:=Ij he;have h4:=WI (ts:=c) (fun f i=>hk f (by simp[i]));have h5:=g.one;rw[EQ,EQ,EQ];have:DK.length=3:=rfl;have:So.length=1:=rfl;omega
 |@when t a c d p g h m o k=>
  refine ⟨m.fields (fun f i=>hc f (by simp[i])) j.1 (fun q hq=>hs q (zl _ hq)),k.fields (fun f i=>hc f (by simp[i])) j.2.1 (fun q hq=>hs q (zm _ hq)),fun e=>?_,fun _=>?_⟩
  ·exact absurd (show (2 :Int)=1 from e) (by decide)
  ·have h1:=Ij h;have h3:=Ij o;rw[EQ,Q6,EQ];have:Bb.length=4:=rfl;have:By.length=2:=rfl;omega
 |else_ h k=>
  refine ⟨(fun b x hx=>by cases hx),k.fields (fun f i=>hc f (by simp[i])) j.2.1 (fun q hq=>hs q (zm _ hq)),fun e=>?_,fun e=>?_⟩
  ·exact absurd (show (3 :Int)=1 from e) (by decide)
  ·exact absurd rfl e
theorem PC.fields {ts:List Af}{S:List Ps}(h:PC ts S):(∀ t∈ts,tkF t)→(∀ t∈ts,1≤Y8 t)→(∀ s∈S,s.good)→(∀ q∈S.flatMap Ps.sets,(MO q.2).length≤64)→∀ b,(∀ x∈AK b (S.map Ps.sx),ndF x)∧(∀ s∈S,s.kind=1→BD s.name=true)∧(WF S→7 * (S.length - 1)≤Tj ts):=by
 induction h with
 |nil=>intro _ _ _ _ b;exact ⟨fun x hx=>(by cases hx),fun s hs=>(by cases hs),fun e=>e.elim⟩
 |@cons c r u s S sc i j f=>
  intro hc hk g hs b;obtain ⟨h1,h2,h3,h4⟩:=sc.fields (fun a d=>hc a (by simp[d])) (fun a d=>hk a (by simp[d])) (g s (zT ..)) (fun q hq=>hs q (by rw[zn];exact zl _ hq));have f:=f (fun a d=>hc a (by simp[d])) (fun a d=>hk a (by simp[d])) (fun y hy=>g y (zY _ hy)) (fun q hq=>hs q (by rw[zn];exact zm _ hq));rw[List.map_cons,AK];refine ⟨fun x hx=>?_,fun y hy=>?_,fun he=>?_⟩
  ·rcases zK.1 hx with hx | hx
   ·rcases zK.1 hx with hx | hx
    ·exact h1 _ x hx
    ·exact h2 _ x hx
   ·exact (f _).1 x hx
  ·rcases zE.1 hy with rfl | hy
   ·exact h3
   ·exact (f 0).2.1 y hy
  ·cases S with
   |nil=>simp
   |cons t T=>
    have a1:=(f 0).2.2 he.2;have a2:=h4 he.1;have a3:=Ij i;have:AC.length=1:=rfl;rw[Q6,EQ];simp only[List.length_cons,Nat.add_sub_cancel] at a1 ⊢;omega
theorem Tk:∀ (S:List Ps) (b:Nat),(∀ s∈S,s.good)→(∀ s∈S,s.kind=1→BD s.name=true)→WF S→CN (Cu b (S.map Ps.sx))=true
 | [],_,_,_,h=>h.elim
 |s ::S,b,hg,hi,he=>by
  have h1:=hg s (zT ..);have hs:DL ⟨s.kind,s.name,Gp s.sx.cond b,Gp s.sx.grant (b+AH s.sx.cond)⟩=true:=by
   obtain ⟨_,_,h | h | h⟩:=h1
   ·simp[DL,h.1,hi s (List.mem_cons_self ..) h.1,Ps.sx,h.2.2,Gp]
   ·simp[DL,h.1,h.2.2,Gx]
   ·simp[DL,h.1,h.2.2,Gx,Ps.sx,h.2.1,Gp]
  rw[List.map_cons,Cu,CN];cases S with
  |nil=>
   have:s.kind=3:=he;rw[show DL ⟨s.sx.kind,s.sx.name,Gp s.sx.cond b,Gp s.sx.grant (b+AH s.sx.cond)⟩=true from hs];simp[Cu,CN,Ps.sx,this]
  |cons t T=>
   rw[show DL ⟨s.sx.kind,s.sx.name,Gp s.sx.cond b,Gp s.sx.grant (b+AH s.sx.cond)⟩=true from hs,Tk (t ::T) _ (fun y hy=>hg y (zY _ hy)) (fun y hy=>hi y (zY _ hy)) he.2];have:s.sx.kind≠3:=he.1;simp[Cu,this]
theorem PZ:∀ {X:List Sx},JO X=none→∀ x∈X,JZ x.cond≤64∧JZ x.grant≤64
 | [],_,x,hx=>by cases hx
 |y ::X,h,x,hx=>by
  rw[JO] at h;split at h
  ·cases h
  ·rename_i b;have a:=F7 (JZ y.cond) (JZ y.grant);rcases zE.1 hx with rfl | hx
   ·exact ⟨by omega,by omega⟩
   ·exact PZ h x hx
theorem XU {L:List (Nat × List ByteArray)}(h:(Mu L).head? =none):∀ q∈L,(MO q.2).length≤64:=fun q hq=>by
 rcases Nat.lt_or_ge 64 (MO q.2).length with k | k
 ·have:(q.1:Int)∈Mu L:=List.mem_filterMap.2 ⟨q,hq,if_pos k⟩;rw[List.head?_eq_none_iff.1 h] at this;cases this
 ·exact k
theorem ZN {t:ByteArray}{x:QR}(d:DP (AI t).toks x)(h0:(Ik t x).2.2.2.1=0):Bo (Ik t x).1 (Ik t x).2.1=true∧∀ n∈(Ik t x).1,n.num≤9223372036854775807:=by
 by_cases hc:(AI t).code=0
 ·cases x with
  |bad q=>rw[MP hc] at h0;cases h0
  |ok S=>
   cases a:(Mu (S.flatMap Ps.sets)).head? with
   |some i=>rw[J3 hc a] at h0;cases h0
   |none=>
    cases hd:JO (S.map Ps.sx) with
    |some i=>rw[J4 hc a hd] at h0;cases h0
    |none=>
     rw[Q8 hc a hd];dsimp only;have f:=d.cut S rfl;obtain ⟨b,he⟩:=d.good S rfl;obtain ⟨m,ts⟩:=ZL t;obtain ⟨g,o,k⟩:=f.fields m (fun u p=>Ade (IU t u p).1) b (XU a) 0;have k:=k he;have h4:=Il t;have v:=f.cnt;have r: 1≤S.length:=by
      cases S with
      |nil=>exact he.elim
      |cons=>simp
     obtain ⟨w,g1,g2,g3⟩:=NH (AK 0 (S.map Ps.sx)) (S.map Ps.sx) 0 (fun j y hy=>by rw[zX];exact hy) (fun y hy=>by
      obtain ⟨s,hs,rfl⟩:=zQ.1 hy;obtain ⟨a1,a2⟩:=PZ hd _ (zQ.2 ⟨s,hs,rfl⟩);refine ⟨a1,a2, ?_⟩;obtain ⟨_,_,h | h | h⟩:=b s hs
      ·have:=h.1;simp[Ps.sx,this,h.2.1]
      ·have:=h.1;simp[Ps.sx,this,h.2.1]
      ·have:=h.1;simp[Ps.sx,this,h.2.1])
     have l:=L8 g1 [] g3;rw[zX,Nat.sub_zero,List.nil_append,← Do (S.map Ps.sx) 0] at l;refine ⟨?_,fun n c=>(g n c).2⟩;simp only[Bo,zI,zG];refine ⟨⟨⟨by rw[Do];omega,⟨by rw[Fy,zV];exact r,by rw[Fy,zV];omega⟩,Tk S 0 b o he⟩,z6.2 (fun n c=>(g n c).1)⟩, ?_⟩;rw[Ey,l];exact zW g2
 ·rw[J5 hc] at h0;exact absurd h0 hc
def mlv:Nat→Nat
 | 0=>1 | 1=>2 | 2=>4 | 3=>5 | _=>6
def glv:Nat→Nat
 | 0=>1 | 1=>2 | 2=>3 | 3=>5 | 4=>6 | _=>7
def LvR (W:World) (gl:Nat):Prop:=gl < W.heap.size∧∀ lv,lv < 5→∃ gb n co,W.cell? ⟨gl,lv,none⟩=some (.slice (some ⟨gb,0,none⟩) n co)∧Bg W (some ⟨gb,0,none⟩) n co ((AY (mlv lv)).map AB)
theorem LvR.below {W c:World}{a:Nat}(h:LvR W a)(b:Below W.heap.size W c):LvR c a:=
 ⟨zM h.1 b.size,fun lv d=>by
  obtain ⟨f,n,g,h1,h2⟩:=h.2 lv d;exact ⟨f,n,g,(b.cell (p:=⟨a,lv,none⟩) h.1).trans h1,h2.below b NLN⟩⟩
def UO (w:World):World:=w.alloc (.cells (opC 1) 9)
def Wt (w:World):World:=(UO w).alloc (.cells (opC 2) 9)
def lv3 (w:World):World:=(Wt w).alloc (.cells (opC 4) 9)
def lv4 (w:World):World:=(lv3 w).alloc (.cells (opC 5) 9)
def lv5 (w:World):World:=(lv4 w).alloc (.cells (opC 6) 9)
def lv6 (w:World):World:=(lv5 w).alloc (.cells #[.slice (some ⟨w.heap.size,0,none⟩) 1 1,.slice (some ⟨w.heap.size+1,0,none⟩) 1 1,.slice (some ⟨w.heap.size+1+1,0,none⟩) 6 6,.slice (some ⟨w.heap.size+1+1+1,0,none⟩) 4 4,.slice (some ⟨w.heap.size+1+1+1+1,0,none⟩) 4 4] 56)
theorem GF (w:World)(o:Obj):Below w.heap.size w (w.alloc o):=(Below.refl w.heap.size w).alloc NLN o
theorem AaA (w:World):LvR (lv6 w) (w.heap.size+5)∧Below w.heap.size w (lv6 w):=by
 have b:(UO w).heap.size=w.heap.size+1:=by simp[UO]
 have c:(Wt w).heap.size=w.heap.size+1+1:=by simp[Wt,b]
 have d:(lv3 w).heap.size=w.heap.size+1+1+1:=by simp[lv3,c]
 have f:(lv4 w).heap.size=w.heap.size+1+1+1+1:=by simp[lv4,d]
 have g:(lv5 w).heap.size=w.heap.size+5:=by simp[lv5,f]
 have b1:Below w.heap.size w (UO w):=GF w _;have b2:Below (UO w).heap.size (UO w) (Wt w):=GF _ _;have b3:Below (Wt w).heap.size (Wt w) (lv3 w):=GF _ _;have b4:Below (lv3 w).heap.size (lv3 w) (lv4 w):=GF _ _;have b5:Below (lv4 w).heap.size (lv4 w) (lv5 w):=GF _ _;have a:Below (lv5 w).heap.size (lv5 w) (lv6 w):=GF _ _;have h:Bg (UO w) (some ⟨w.heap.size,0,none⟩) 1 1 ((AY 1).map AB):=EV 1 1 rfl (by decide) (by decide) w;have i:Bg (Wt w) (some ⟨w.heap.size+1,0,none⟩) 1 1 ((AY 2).map AB):=by rw[← b];exact EV 2 1 rfl (by decide) (by decide) _
 have j:Bg (lv3 w) (some ⟨w.heap.size+1+1,0,none⟩) 6 6 ((AY 4).map AB):=by rw[← c];exact EV 4 6 rfl (by decide) (by decide) _
 have k:Bg (lv4 w) (some ⟨w.heap.size+1+1+1,0,none⟩) 4 4 ((AY 5).map AB):=by rw[← d];exact EV 5 4 rfl (by decide) (by decide) _
 have l:Bg (lv5 w) (some ⟨w.heap.size+1+1+1+1,0,none⟩) 4 4 ((AY 6).map AB):=by rw[← f];exact EV 6 4 rfl (by decide) (by decide) _
 have m:=((((h.below b2 NLN).below b3 NLN).below b4 NLN).below b5 NLN).below a NLN;have n:=(((i.below b3 NLN).below b4 NLN).below b5 NLN).below a NLN;have o:=((j.below b4 NLN).below b5 NLN).below a NLN;have p:=(k.below b5 NLN).below a NLN;have q:=l.below a NLN;have R:=Al.new (lv5 w) #[.slice (some ⟨w.heap.size,0,none⟩) 1 1,.slice (some ⟨w.heap.size+1,0,none⟩) 1 1,.slice (some ⟨w.heap.size+1+1,0,none⟩) 6 6,.slice (some ⟨w.heap.size+1+1+1,0,none⟩) 4 4,.slice (some ⟨w.heap.size+1+1+1+1,0,none⟩) 4 4] 56;rw[g] at R;refine ⟨⟨R.lt,fun lv r=>?_⟩,((((b1.trans (b2.mono b1.size)).trans (b3.mono (by omega))).trans (b4.mono (by omega))).trans (b5.mono (by omega))).trans (a.mono (by omega))⟩
 match lv,r with
 | 0,_=>exact ⟨_,_,_,R.cell 0,m⟩
 | 1,_=>exact ⟨_,_,_,R.cell 1,n⟩
 | 2,_=>exact ⟨_,_,_,R.cell 2,o⟩
 | 3,_=>exact ⟨_,_,_,R.cell 3,p⟩
 | 4,_=>exact ⟨_,_,_,R.cell 4,q⟩
theorem Adu {lv:Nat}{c:List Af}{p:Pt}(h5:lv < 5)(g:G (glv lv) c p)(h:lv=2→∀ t r,c=t ::r→see E3 t=false):
  (∃ l t r op a b,c=l ++t ::r∧p= .bin t.at_ op a b∧CZ (mlv lv) t=some op∧G 0 l a∧G 0 r b∧∀ i,L9 (mlv lv) c i=i+l.length)∨(G (glv (lv+1)) c p∧∀ i,L9 (mlv lv) c i= -1):=by
 have bin:∀ k,(k=1∨k=2∨k=5∨k=6)→G k c p→(∃ l t r op a b,c=l ++t ::r∧p= .bin t.at_ op a b∧CZ k t=some op∧G 0 l a∧G 0 r b∧∀ i,L9 k c i=i+l.length)∨(G (k+1) c p∧∀ i,L9 k c i= -1):=by
  intro k hk g;rcases g.cutB hk with ⟨l,t,r,op,a,b,rfl,rfl,ht,d,f⟩ | g
  ·exact .inl ⟨l,t,r,op,a,b,rfl,rfl,ht,d.low (by omega),f.low (by omega),fun i=>d.last_at (by omega) ht f (by omega) i⟩
  ·exact .inr ⟨g,fun i=>g.last_no (by omega) i⟩
 match lv,h5 with
 | 0,_=>exact bin 1 (by omega) g
 | 1,_=>exact bin 2 (by omega) g
 | 2,_=>
  rcases (show G 3 c p from g).cut3 with ⟨t,r,q,rfl,rfl,ht,_⟩ | g
  ·have:=h rfl t r rfl;rw[this] at ht;cases ht
  ·rcases g.cut4 with ⟨l,t,r,op,a,b,rfl,rfl,ht,d,f⟩ | g
   ·exact .inl ⟨l,t,r,op,a,b,rfl,rfl,ht,d.low (by omega),f.low (by omega),fun i=>d.last_at (by omega) ht f (by decide) i⟩
   ·exact .inr ⟨g,fun i=>g.last_no (by decide) i⟩
 | 3,_=>exact bin 5 (by omega) g
 | 4,_=>exact bin 6 (by omega) g
theorem Iu {w w':World}{a d c:Nat}{T:List Af}(f:Mb w a d c T)(g:Below w.heap.size w w')(i:Nat)(hi:i < T.length)(s:List UInt8)(b:Bool)(h:see s T[i]=b):
  Calls Tryz.prog 25 #[.pointer (some ⟨a,0,none⟩),.int .i64 (i:Int),.string (AB s)] w' fun r j=>r= .returned (.bool b)∧Below w'.heap.size w' j:=by
 have:=It (f.below g) i hi s (AB s) rfl;rw[h] at this;exact this
theorem Qg {w:World}{B a b c:Nat}{T:List Af}{N:List Nd}{P:List Int}{nd g:Value}{h k:List Value}(l:Mb w a b c T)(m:b < B)(d:Gh w B a (.slice (some ⟨b,0,none⟩) T.length c) N P nd g h k)(n:N.length+1≤65535)(o:P.length+1≤65535)(op num:Int)(f:ByteArray)(i:Nat)(hi:i < T.length):
  Calls Tryz.prog 76 #[.pointer (some ⟨a,0,none⟩),.agg #[.int .i64 op,.int .i64 num,.string f,.slice none 0 0,.slice none 0 0],.int .i64 (i:Int)] w (L2A B a (.slice (some ⟨b,0,none⟩) T.length c) N [⟨op,num,f, [], []⟩] P [(T[i].at_:Int)] nd g h k w):=by
 have hB:B≤w.heap.size:=by have:=d.row.lt;have:=d.low;omega
 refine (Lr l m d n o ⟨op,num,f, [], []⟩ none 0 none 0 B NLN (World.ownsRow_nil _ _ _ _) (World.ownsRow_nil _ _ _ _) (fun j p q hq e=>by cases e) (fun j p q hq e=>by cases e) (fun q hq e=>by cases hq) i hi).mono ?_;rintro r w' ⟨h1,s,t,u,v⟩;exact ⟨by rw[h1];simp,s,t, [.slice none 0 0], [.slice none 0 0],u,v,GE (fun q hq=>by cases hq)⟩
theorem AaB {a w2:World}{B b d c:Nat}{T:List Af}{N:List Nd}{P:List Int}{nd k:Value}{l m:List Value}(p:Mb a b d c T)(s:d < B)(f:Gh a B b (.slice (some ⟨d,0,none⟩) T.length c) N P nd k l m)(h:Below a.heap.size a w2)(t:N.length+1≤65535)(u:P.length+1≤65535)(K:List ByteArray)(x:Option Addr)(g:Nat)(n:w2.ownsRow a.heap.size 9 1 (.slice x K.length g) K.length (K.map Value.string))(i:Nat)(hi:i < T.length):
  Calls Tryz.prog 76 #[.pointer (some ⟨b,0,none⟩),.agg #[.int .i64 4,.int .i64 0,.string ⟨#[]⟩,.slice x K.length g,.slice none 0 0],.int .i64 (i:Int)] w2 (L2A B b (.slice (some ⟨d,0,none⟩) T.length c) N [⟨4,0,⟨#[]⟩,K, []⟩] P [(T[i].at_:Int)] nd k l m a):=by
 have hB:B≤a.heap.size:=by have:=f.row.lt;have:=f.low;omega
 refine (Lr (p.below h) s (f.below h) t u ⟨4,0,⟨#[]⟩,K, []⟩ x g none 0 B NLN (H6 n hB) (World.ownsRow_nil _ _ _ _) (fun j o q hq e=>?_) (fun j o q hq e=>by cases e) (fun q hq e=>by cases hq) i hi).mono ?_
 ·have h1:=(f.nodes.lts.2.1 j o q hq).2;have h2:=(n.lt q e).1;omega
 ·rintro r w' ⟨h1,v,w,y,z⟩;exact ⟨by rw[h1];simp,v,w, [.slice x K.length g], [.slice none 0 0],y,(Nk.of_all h hB).trans z,GE (fun q hq=>by cases hq)⟩
set_option maxRecDepth 100000
set_option maxHeartbeats 6400000
def LvI (T:List Af) (lo hi:Nat) (p:Pt) (w:World) (gl:Nat) (vi:Value) (wr:World):Prop:=
 ∃ lv:Nat,lv≤5∧vi= .int .i64 (lv:Int)∧G (glv lv) (GD T lo hi) p∧LvR wr gl∧Below w.heap.size w wr
theorem AcP {w f:World}{B g a:Nat}{op:Int}{t:Af}{q:Pt}{r nd s h i:Value}{N b:List Nd}{P d:List Int}{k l m c n o:List Value}{a1:Int}(p:a1=((N.length+(BH q.ex N.length).length - 1 :Nat):Int)∧b=N ++BH q.ex N.length∧d=P ++DG q.ex∧n=k ++m∧o=l ++c∧b.length=N.length+q.ex.cnt∧d.length=P.length+q.ex.cnt∧∀ j,(I:j < c.length)→∀ q,c[j].ownBlock=some q→w.heap.size≤q)
  (u:Gh f B g r (b ++ [⟨op,0,⟨#[]⟩, [], [a1]⟩]) (d ++ [(t.at_:Int)]) h i (n ++ [.slice none 0 0]) (o ++ [.slice (some ⟨a,0,none⟩) 1 1]))(v:Nk B g nd s w h i f)(J:w.heap.size≤a):
  L2A B g r N (BH (Pt.un t.at_ op q).ex N.length) P (DG (Pt.un t.at_ op q).ex) nd s k l w (.returned (.int .i64 (b.length:Int))) f:=by
 obtain ⟨p,x,y,z,A,C,K,E⟩:=p;have F:b ++ [⟨op,0,⟨#[]⟩, [], [a1]⟩]=N ++BH (Pt.un t.at_ op q).ex N.length:=by
  have e1:a1=((N.length+q.ex.cnt - 1 :Nat):Int):=by rw[p,Am]
  rw[e1,x,Pt.ex,BH];simp only[zC]
 have H:d ++ [(t.at_:Int)]=P ++DG (Pt.un t.at_ op q).ex:=by
  rw[y,Pt.ex,DG];simp only[zC]
 refine ⟨by rw[Am,Pt.ex,Ex.cnt,C];congr 2,h,i,m ++ [.slice none 0 0],c ++ [.slice (some ⟨a,0,none⟩) 1 1], ?_,v, ?_⟩
 ·rw[← F,← H];have e1:k ++(m ++ [.slice none 0 0])=n ++ [.slice none 0 0]:=by rw[z];simp
  have e2:l ++(c ++ [.slice (some ⟨a,0,none⟩) 1 1])=o ++ [.slice (some ⟨a,0,none⟩) 1 1]:=by rw[A];simp
  rw[e1,e2];exact u
 ·exact EW E (GE (fun q hq=>by
   have h1:a=q:=by simpa[Value.ownBlock] using hq
   omega))
theorem Ab7 {B au aT c:Nat}{T:List Af}(ao:aT < B)(bS:T.length≤4000)(aU:∀ t∈T,t.text.size≤maxLen){lo hi:Nat}(y:hi≤T.length)(c0:lo < hi){p:Pt}(g:G 1 (GD T lo hi) p)
  (bT:∀ ba aV p,aV≤T.length→ba≤aV→aV - ba < hi - lo→G 0 (GD T ba aV) p→Qf B au aT c T ba aV p):Qf B au aT c T lo hi p:=by
 intro N P nd E ap aq w bt F Z hp;have V:lo < T.length:=by omega
 have bU:see Et T[lo]=false:=by
  obtain ⟨t,r,e,h1,_⟩:=g.head;obtain ⟨_,e1,_⟩:=AT y e;rw[e1];exact h1 (by omega)
 have bV:=Ab (It bt lo V Et (AB Et) rfl);rw[bU] at bV;have bW:=Ab g;have z:=Ab bt;have aG:=Ab bT;have cr:=Ab aU;clear g bT bU bt aU;go_enter Tryz.func47,Tryz.ntmps47
 go_wp2_with fail
 refine (Aa bV).mono ?_;rintro r av ⟨rfl,bX⟩;dsimp only;go_wp2_with fail
 refine (Fr _ 4 6 (.inl ⟨rfl,rfl,rfl⟩) _).mono ?_;rintro r w2 ⟨rfl,ct⟩;dsimp only;go_wp2_with fail
 refine (Fr _ 5 4 (.inr (.inl ⟨rfl,rfl,rfl⟩)) _).mono ?_;rintro r c1 ⟨rfl,cu⟩;dsimp only;go_wp2_with fail
 refine (Fr _ 6 4 (.inr (.inr ⟨rfl,rfl,rfl⟩)) _).mono ?_;rintro r c2 ⟨rfl,cv⟩;dsimp only;go_wp2_with fail
 clear ct cu cv;obtain ⟨bY,bb⟩:=AaA av;have aW:=Ab (show LvI T lo hi p w (av.heap.size+5) (.int .i64 0) (lv6 av) from ⟨0,by omega,rfl,Aa bW,bY,bX.trans (bb.mono bX.size)⟩);clear bY bb bW;show Code.wp _ _ _ _ (lv6 av);generalize lv6 av=W at aW ⊢;have aX:av.heap.size+5=av.heap.size+1+1+1+1+1:=rfl;rw[aX] at aW;clear aX;obtain ⟨bc,aX⟩:∃ bc,bc=av.heap.size+1+1+1+1+1:=⟨_,rfl⟩
 rw[← aX] at aW ⊢;clear aX;go_loopw [12,13,63] (fun _ _ bu wr=>LvI T lo hi p w bc bu wr) (fun _ _ bu _=>5 - (intOf bu).toNat)
 case atStart=>exact Aa aW
 case round=>
  clear aW;obtain ⟨lv,c3,rfl,aY,bd,a⟩:=hrel;by_cases h5:lv < 5
  ·have cw:(lv:Int) < 5:=by omega
   obtain ⟨cx,n,cy,hc,aZ⟩:=bd.2 lv h5;have bv:=Ab bd;have bw:=Ab aZ;have bf:=Ab aY;clear bd aZ aY;have cz:=Ab (Gg 5 lv h5);have bg:=Ab (It ((Aa z).below a) lo V E3 (AB E3) rfl);cases aw:(((lv:Int)== 2) && see E3 T[lo])
   ·have bx:=Ab (Adu h5 (Aa bf) (fun e t r he=>by
     obtain ⟨_,e1,_⟩:=AT y he;rw[← e1];subst e;simpa using aw))
    clear bf;cases h2:((lv:Int)== 2)
    case' false=>clear aw
    case' true=>
     rw[h2,Z0] at aw;rw[aw] at bg;clear aw;go_wp2_with fail
     refine (Aa bg).mono ?_;rintro r w2 ⟨rfl,aH⟩;replace a:=a.trans (aH.mono a.size);replace bw:=Ab ((Aa bw).below aH NLN);replace bv:=Ab ((Aa bv).below aH);clear aH;dsimp only
    all_goals
     go_wp2_with fail
     refine (Yg ((Aa z).below a) bS lo hi (by omega) y cx 0 n cy (AY (mlv lv)) (Aa bw)).mono ?_;rintro r bz ⟨rfl,bZ⟩;have ar:=a.trans (bZ.mono a.size);have cA:=Ab ((Aa bv).below bZ);rcases Aa bx with ⟨l,t,r,op,aa,X,H,ag,b0,b1,gR,a0⟩ | ⟨b2,a0⟩
     ·have bh:=Ab (show (((T.take hi).drop lo).foldl (CV (AY (mlv lv))) ⟨false,0,lo,-1⟩).acc=((lo+l.length:Nat):Int) from (a0 lo).trans (by omega));rw[Aa bh];obtain ⟨b3,b4,cB⟩:=I2 y H (by omega);obtain ⟨b5,b,I,bi⟩:=AT y b4;have f:=Ab (Aa aG lo (lo+l.length) aa (by omega) (by omega) (by omega) (by rw[b3];exact b1));have bj:=Ab (Aa aG (lo+l.length+1) hi X (by omega) (by omega) (by omega) (by rw[I];exact gR));obtain ⟨ax,bA⟩:∃ ax,ax=lo+l.length:=⟨_,rfl⟩
      have ab:=Ab (show ∃ h:ax < T.length,T[ax]=t from by subst bA;exact ⟨b5,b⟩);have b6:=Ab (Adr b0);have bB:=Ab ag;rw[← bA] at f bj bi ⊢;unfold Qf at f bj;simp only[zd,Int.natCast_one] at f bj;have ay:N.length+(aa.ex.cnt+X.ex.cnt+1)≤65535:=by rw[ag] at Z;exact Z
      have az:P.length+(aa.ex.cnt+X.ex.cnt+1)≤65535:=by rw[ag] at hp;exact hp
      have c4:(0 :Int)≤(ax:Int):=by omega
      have ac:Nk B au nd E w nd E bz:=Nk.of_all ar (by have:=F.row.lt;have:=F.low;omega);have ad:=F.below ar;have O:=(Aa z).below ar;clear a0 H ag b0 b1 gR b3 b4 cB b5 b I bx bh bA;dsimp only;go_wp2_with fail
      refine (Aa f N P nd E ap aq bz O ad (by omega) (by omega)).mono ?_;rintro r aI ⟨rfl,ah,ai,K,L,d,i,j⟩;have ae:=ac.trans i;have aJ:=(Aa z).of d ae.low ao;obtain ⟨a1,Q⟩:∃ a1:Int,a1=((N.length+(BH aa.ex N.length).length - 1 :Nat):Int):=⟨_,rfl⟩
      obtain ⟨R,A⟩:∃ M,M=N ++BH aa.ex N.length:=⟨_,rfl⟩
      obtain ⟨aj,C⟩:∃ M,M=P ++DG aa.ex:=⟨_,rfl⟩
      obtain ⟨bk,S⟩:∃ M,M=ap ++K:=⟨_,rfl⟩
      obtain ⟨bl,U⟩:∃ M,M=aq ++L:=⟨_,rfl⟩
      rw[← A,← C,← S,← U] at d;rw[← Q];have J:R.length=N.length+aa.ex.cnt:=by rw[A,zA,Am]
      have Y:aj.length=P.length+aa.ex.cnt:=by rw[C,zA,Bn]
      have cC:R.length+(X.ex.cnt+1)≤65535:=by omega
      have cD:aj.length+(X.ex.cnt+1)≤65535:=by omega
      have aD:=Ab (And.intro Q (And.intro A (And.intro C (And.intro S (And.intro U (And.intro J (And.intro Y j)))))));clear Q A C S U J Y j ac i ad O;dsimp only;go_wp2_with fail
      refine (Aa bj R aj ah ai bk bl aI aJ d (by omega) (by omega)).mono ?_;rintro r bC ⟨rfl,Lk,c5,bD,bE,aK,a3,b7⟩;have aA:=ae.trans a3;have bm:=(Aa z).of aK aA.low ao;obtain ⟨a2,aL⟩:∃ a2:Int,a2=((R.length+(BH X.ex R.length).length - 1 :Nat):Int):=⟨_,rfl⟩
      obtain ⟨bn,aE⟩:∃ M,M=R ++BH X.ex R.length:=⟨_,rfl⟩
      obtain ⟨bF,aF⟩:∃ M,M=aj ++DG X.ex:=⟨_,rfl⟩
      obtain ⟨cE,aM⟩:∃ M,M=bk ++bD:=⟨_,rfl⟩
      obtain ⟨cF,aN⟩:∃ M,M=bl ++bE:=⟨_,rfl⟩
      rw[← aE,← aF,← aM,← aN] at aK;rw[← aL];have J:bn.length=R.length+X.ex.cnt:=by rw[aE,zA,Am]
      have Y:bF.length=aj.length+X.ex.cnt:=by rw[aF,zA,Bn]
      have a4:bn.length+1≤65535:=by omega
      have a5:bF.length+1≤65535:=by omega
      have cG:=Ab (And.intro aL (And.intro aE (And.intro aF (And.intro aM (And.intro aN (And.intro J (And.intro Y (And.intro b7 ae.low.size))))))));clear aL aE aF aM aN J Y b7 ae a3 d aJ cC cD;obtain ⟨b8,a6⟩:=Aa ab;obtain ⟨aO,a7,q2,q3⟩:=bm.at4 ax b8;rw[a6] at q2;have bb:=bm.at0;have c6:(ax:Int) < (T.length:Int):=by omega
      clear aO a7 q3 a6;dsimp only;go_wp2_with fail
      obtain ⟨cH,cI,aZ,e1,e2,e3⟩:=Aa b6;rw[aZ];refine (Aaw cH cI e1 e2 bC).mono ?_;rintro r aB ⟨rfl,bo⟩;have b9:B≤bC.heap.size:=by have:=aK.row.lt;have:=aK.low;omega
      have cJ:=aK.below bo;have cK:=bm.below bo;have ca:=aA.trans (Nk.of_all bo b9);rw[← e3];have cL:=Ab (And.intro aA.low.size ca.low.size);clear e1 e2 e3 aZ bo aK bm aA q2 bb b6 b9;dsimp only;go_wp2_with fail
      refine (Kk cK ao cJ a4 a5 [a1,a2] _ 2 rfl rfl (by unfold maxLen;omega) op ax b8).mono ?_;rintro r bG ⟨rfl,bH,bI,ak,aC⟩;have cb:=ca.trans aC;obtain ⟨_,a6⟩:=Aa ab;rw[a6] at ak;obtain ⟨Q,A,C,S,U,J,Y,cc⟩:=Aa aD;obtain ⟨aL,aE,aF,aM,aN,cd,cM,ce,cf⟩:=Aa cG;have aP:=ar.size;have m:=Ab (show L2A B au (.slice (some ⟨aT,0,none⟩) T.length c) N (BH p.ex N.length) P (DG p.ex) nd E ap aq w (.returned (.int .i64 (bn.length:Int))) bG from by
       rw[Aa bB];have cN:bn ++ [⟨op,0,⟨#[]⟩, [], [a1,a2]⟩]=N ++BH (Pt.bin t.at_ op aa X).ex N.length:=by
        have e1:a1=((N.length+aa.ex.cnt - 1 :Nat):Int):=by rw[Q,Am]
        have e2:a2=((N.length+aa.ex.cnt+X.ex.cnt - 1 :Nat):Int):=by rw[aL,Am,J]
        rw[e1,e2,aE,J,A,Pt.ex,BH];simp only[zC]
       have cO:bF ++ [(t.at_:Int)]=P ++DG (Pt.bin t.at_ op aa X).ex:=by
        rw[aF,C,Pt.ex,DG];simp only[zC]
       refine ⟨by rw[Am,Pt.ex,Ex.cnt,cd,J];congr 2;omega,bH,bI,K ++bD ++ [.slice none 0 0],L ++bE ++ [.slice (some ⟨aB.heap.size,0,none⟩) 2 2], ?_,cb, ?_⟩
       ·rw[← cN,← cO];have e1:ap ++(K ++bD ++ [.slice none 0 0])=cE ++ [.slice none 0 0]:=by rw[aM,S];simp
        have e2:aq ++(L ++bE ++ [.slice (some ⟨aB.heap.size,0,none⟩) 2 2])=cF ++ [.slice (some ⟨aB.heap.size,0,none⟩) 2 2]:=by rw[aN,U];simp
        rw[e1,e2];exact ak
       ·exact EW (EW (Cl cc aP) (Cl ce cf)) (GE (fun q hq=>by
         have h1:aB.heap.size=q:=by simpa[Value.ownBlock] using hq
         have:=(Aa cL).2;omega)))
      clear ak aC cb Q A C S U J Y cc aL aE aF aM aN cd cM ce cf aP a6;dsimp only;go_wp2_with fail
      go_ret
      exact Aa m
     ·have cP:=Ab (show LvI T lo hi p w bc (.int .i64 ((lv:Int)+1)) bz from ⟨lv+1,by omega,by rw[zd];rfl,b2,Aa cA,ar⟩);have bh:=Ab (show (((T.take hi).drop lo).foldl (CV (AY (mlv lv))) ⟨false,0,lo,-1⟩).acc= -1 from a0 lo);rw[Aa bh];clear b2 a0 bx;dsimp only;go_wp2_with fail
      exact ⟨Aa cP,Aa cz⟩
   ·have cQ:lv=2∧see E3 T[lo]=true:=by
     simp at aw;exact ⟨by omega,aw.2⟩
    obtain ⟨bJ,bp⟩:=cQ;have h2:((lv:Int)== 2)=true:=by rw[bJ];rfl
    rw[bp] at bg;obtain ⟨t,r,q,H,ag,ht,a8⟩:∃ t r q,GD T lo hi=t ::r∧p= .un t.at_ 9 q∧see E3 t=true∧G 3 r q:=by
     rcases (show G 3 (GD T lo hi) p from by have:=Aa bf;rw[bJ] at this;exact this).cut3 with h | g
     ·exact h
     ·obtain ⟨t,r,e,_,h4,_⟩:=g.head;obtain ⟨_,e1,_⟩:=AT y e;rw[e1,h4 (by omega)] at bp;cases bp
    obtain ⟨_,b,I,bi⟩:=AT y H;have f:=Ab (Aa aG (lo+1) hi q (by omega) (by omega) (by omega) (by rw[I];exact a8.low (by omega)));unfold Qf at f;simp only[zd,Int.natCast_one] at f;have ay:N.length+(q.ex.cnt+1)≤65535:=by rw[ag] at Z;exact Z
    have az:P.length+(q.ex.cnt+1)≤65535:=by rw[ag] at hp;exact hp
    have bB:=Ab ag;have ab:=Ab b;clear aw bp H ag ht a8 b I bf bJ;go_wp2_with fail
    refine (Aa bg).mono ?_;rintro r w2 ⟨rfl,aH⟩;have ar:=a.trans (aH.mono a.size);have ac:Nk B au nd E w nd E w2:=Nk.of_all ar (by have:=F.row.lt;have:=F.low;omega);have ad:=F.below ar;have O:=(Aa z).below ar;dsimp only;go_wp2_with fail
    refine (Aa f N P nd E ap aq _ O ad (by omega) (by omega)).mono ?_;rintro r aI ⟨rfl,ah,ai,K,L,d,i,j⟩;have ae:=ac.trans i;have aJ:=(Aa z).of d ae.low ao;have aP:=ar.size;obtain ⟨a1,Q⟩:∃ a1:Int,a1=((N.length+(BH q.ex N.length).length - 1 :Nat):Int):=⟨_,rfl⟩
    obtain ⟨R,A⟩:∃ M,M=N ++BH q.ex N.length:=⟨_,rfl⟩
    obtain ⟨aj,C⟩:∃ M,M=P ++DG q.ex:=⟨_,rfl⟩
    obtain ⟨bk,S⟩:∃ M,M=ap ++K:=⟨_,rfl⟩
    obtain ⟨bl,U⟩:∃ M,M=aq ++L:=⟨_,rfl⟩
    rw[← A,← C,← S,← U] at d;rw[← Q];have J:R.length=N.length+q.ex.cnt:=by rw[A,zA,Am]
    have Y:aj.length=P.length+q.ex.cnt:=by rw[C,zA,Bn]
    have a4:R.length+1≤65535:=by omega
    have a5:aj.length+1≤65535:=by omega
    have aD:=Ab (And.intro Q (And.intro A (And.intro C (And.intro S (And.intro U (And.intro J (And.intro Y (Cl j aP))))))));clear Q A C S U J Y j ac i ad O;dsimp only;go_wp2_with fail
    refine (Kk aJ ao d a4 a5 [a1] _ 1 rfl rfl (by unfold maxLen;omega) 9 lo V).mono ?_;rintro r bG ⟨rfl,bH,bI,ak,aC⟩;rw[Aa ab] at ak;have m:=Ab (AcP (Aa aD) ak (ae.trans aC) ae.low.size);rw[← Aa bB] at m;clear ak aC aD;dsimp only;go_wp2_with fail
    go_ret
    exact Aa m
  ·have cw: ¬ ((lv:Int) < 5):=by omega
   have bK:G 7 (GD T lo hi) p:=by
    have e:lv=5:=by omega
    rw[e] at aY;exact aY
   clear aY bd h5;rcases bK.cut7 with ⟨t,r,q,H,ag,ht,a8⟩ | g8
   case' inl=>
    subst ag;obtain ⟨_,b,I,bi⟩:=AT y H;have f:=Ab (Aa aG (lo+1) (hi) q (by omega) (by omega) (by omega) (by rw[I];exact a8.low (by omega)));unfold Qf at f;rw[show ((lo+1 :Nat):Int)=(lo:Int)+1 from by omega] at f;have ay:N.length+(q.ex.cnt+1)≤65535:=Z;have az:P.length+(q.ex.cnt+1)≤65535:=hp;have ab:=Ab b;have a9:=Ab (show see Bi T[lo]=true from by rw[b];exact ht);clear H ht a8 b I bK Z hp
   case' inr=>
    clear bK;generalize H:GD T lo hi=sp at g8;cases g8
    case up=>omega
    case bin=>omega
    case' par t u r ht aQ g=>skip
    case' size t u v r q ht aQ g cS _=>skip
    case' set t u cs ht hc aQ _=>skip
    case' num t ht _=>skip
    case' text t ht _=>skip
    case' name t ht _=>skip
    case' tru t ht _=>skip
    case' fls t ht _=>skip
    all_goals obtain ⟨_,b,I,bi⟩:=AT y H
    case' par=>
     obtain ⟨g1,g2,g3⟩:=I2 y I (by omega);obtain ⟨_,_,_,g4⟩:=AT y g2;have bL:hi=lo+1+r.length+1:=by
      have:=Fe (lo:=lo) y;rw[H] at this;simp at this;omega
     have f:=Ab (Aa aG (lo+1) (hi - 1) p (by omega) (by omega) (by omega) (by rw[show hi - 1=lo+1+r.length from by omega,g1];exact g));unfold Qf at f;rw[show ((lo+1 :Nat):Int)=(lo:Int)+1 from by omega] at f;rw[show ((hi - 1 :Nat):Int)=(hi:Int) - 1 from by omega] at f;have a9:=Ab (show see Bi T[lo]=false from by rw[b];exact Ah ht (by decide));have bq:=Ab (show see AF T[lo]=true from by rw[b];exact ht);have cT:(1 :Int)≤(hi:Int):=by omega
     have cU:=trivial;clear H b I g1 g2 g ht aQ bL
    case' size=>
     obtain ⟨_,_,cg,c8⟩:=AT y I;obtain ⟨g1,g2,g3⟩:=I2 y cg (by omega);obtain ⟨_,_,_,g4⟩:=AT y g2;have bL:hi=lo+2+r.length+1:=by
      have:=Fe (lo:=lo) y;rw[H] at this;simp at this;omega
     have f:=Ab (Aa aG (lo+2) (hi - 1) q (by omega) (by omega) (by omega) (by rw[show hi - 1=lo+1+1+r.length from by omega,g1];exact g));unfold Qf at f;rw[show ((lo+2 :Nat):Int)=(lo:Int)+2 from by omega] at f;rw[show ((hi - 1 :Nat):Int)=(hi:Int) - 1 from by omega] at f;have a9:=Ab (show see Bi T[lo]=false from by rw[b];exact Ah ht (by decide));have bq:=Ab (show see AF T[lo]=false from by rw[b];exact Ah ht (by decide));have bM:=Ab (show see Cf T[lo]=true from by rw[b];exact ht);have ay:N.length+(q.ex.cnt+1)≤65535:=Z;have az:P.length+(q.ex.cnt+1)≤65535:=hp;have ab:=Ab b;have cT:(1 :Int)≤(hi:Int):=by omega
     clear H b I cg g1 g2 g ht aQ cS bL Z hp
    case' set=>
     have bN:Lg (T.drop (lo+1))=nms cs:=by
      rw[Od y (by omega),I,zC,List.cons_append,List.nil_append,Re cs hc u _ aQ]
     have br:=Ab (Rl (T.drop (lo+1)) (fun x hx=>Aa cr x (List.mem_of_mem_drop hx)));rw[bN] at br;have cV:(nms cs).length≤4000:=by
      have:=(Aa br).2;rw[zp] at this;omega
     have ab:=Ab b;have bO:=Ab (fun (w':World) (bP:Below w.heap.size w w')=>Mc ((Aa z).below bP) bS lo V);rw[bN] at bO;have a9:=Ab (show see Bi T[lo]=false from by rw[b];exact Ah ht (by decide));have bq:=Ab (show see AF T[lo]=false from by rw[b];exact Ah ht (by decide));have bM:=Ab (show see Cf T[lo]=false from by rw[b];exact Ah ht (by decide));have ch:=Ab (show see Cp T[lo]=true from by rw[b];exact ht);obtain ⟨M,bQ⟩:∃ M,M=nms cs:=⟨_,rfl⟩
     rw[← bQ] at bO br cV;have cW:=Ab bQ;have ay:N.length+1≤65535:=Z;have az:P.length+1≤65535:=hp;have cX:=trivial;clear H b I ht hc aQ bN bQ Z hp
    case' num=>have no:∀ s∈ [Bi,AF,Cf,Cp],see s t=false:=fun s _=>AG (by omega) (by omega)
    case' text=>have no:∀ s∈ [Bi,AF,Cf,Cp],see s t=false:=fun s _=>AG (by omega) (by omega)
    case' name=>have no:∀ s∈ [Bi,AF,Cf,Cp],see s t=false:=fun s _=>AG (by omega) (by omega)
    case' tru=>
     have no:∀ s∈ [Bi,AF,Cf,Cp],see s t=false:=fun s hs=>Ah ht ((show ∀ s∈ [Bi,AF,Cf,Cp],Ch≠s by decide) s hs);have aU:t.text=⟨#[116,114,117,101]⟩:=NJ ht;replace ht:=Im ht;rcases ht with ht | ht
    case' fls=>
     have no:∀ s∈ [Bi,AF,Cf,Cp],see s t=false:=fun s hs=>Ah ht ((show ∀ s∈ [Bi,AF,Cf,Cp],Bm≠s by decide) s hs);have aU:t.text=⟨#[102,97,108,115,101]⟩:=NJ ht;replace ht:=Im ht;rcases ht with ht | ht
    all_goals try
     have a9:=Ab (show see Bi T[lo]=false from by rw[b];exact no _ (by decide));have bq:=Ab (show see AF T[lo]=false from by rw[b];exact no _ (by decide));have bM:=Ab (show see Cf T[lo]=false from by rw[b];exact no _ (by decide));have ch:=Ab (show see Cp T[lo]=false from by rw[b];exact no _ (by decide));have ay:N.length+1≤65535:=Z;have az:P.length+1≤65535:=hp;have ab:=Ab b;clear H I no Z hp
   all_goals try
    have af:=a9;go_wp2_with fail
    refine (Iu (Aa z) a lo V Bi _ (Aa af)).mono ?_;rintro r wc ⟨rfl,al⟩;replace a:=a.trans (al.mono a.size);clear al af;dsimp only
   all_goals try
    have af:=bq;go_wp2_with fail
    refine (Iu (Aa z) a lo V AF _ (Aa af)).mono ?_;rintro r wc ⟨rfl,al⟩;replace a:=a.trans (al.mono a.size);clear al af;dsimp only
   all_goals try
    have af:=bM;go_wp2_with fail
    refine (Iu (Aa z) a lo V Cf _ (Aa af)).mono ?_;rintro r wc ⟨rfl,al⟩;replace a:=a.trans (al.mono a.size);clear al af;dsimp only
   all_goals try
    have af:=ch;go_wp2_with fail
    refine (Iu (Aa z) a lo V Cp _ (Aa af)).mono ?_;rintro r wc ⟨rfl,al⟩;replace a:=a.trans (al.mono a.size);clear al af;dsimp only
   all_goals
    have ac:Nk B au nd E w nd E _:=Nk.of_all a (by have:=F.row.lt;have:=F.low;omega);have ad:=F.below a;have O:=(Aa z).below a
   all_goals first
   |clear cU
    go_wp2_with fail
    refine (Aa f N P nd E ap aq _ O ad (by omega) (by omega)).mono ?_;rintro r aI ⟨rfl,ah,ai,K,L,d,i,j⟩;have m:=Ab (And.intro d (And.intro (ac.trans i) (Cl j a.size)));clear d i j ac ad O;dsimp only;go_wp2_with fail
    go_ret
    exact ⟨rfl,ah,ai,K,L,(Aa m).1,(Aa m).2.1,(Aa m).2.2⟩
   |clear cX
    clear ac ad O;go_wp2_with fail
    refine (Aa bO _ a).mono ?_;rintro r aI ⟨⟨c9,da,rfl,ci⟩,cj⟩;have aR:=a.trans (cj.mono a.size);have ck:=Bg.of_owns ci (fun k hk=>by rw[Cv M k hk];exact (Aa br).1 _ (zO _));clear cj ci;dsimp only;go_wp2_with fail
    refine (Kl _ _ _ _ _ ck (by omega)).mono ?_;rintro r bC ⟨cY,c7,aA,rfl,cl,bR,cm⟩;have db:=aR.trans (bR.mono aR.size);have cn:=F.below aR;have co:=(Aa z).below aR;have a3:Nk B au nd E w nd E aI:=Nk.of_all aR (by have:=F.row.lt;have:=F.low;omega);have cZ:=Ab (VA cm);clear cm ck;dsimp only;go_wp2_with fail
    refine (AaB co ao cn bR ay az aA cY c7 cl lo V).mono ?_;rintro r aB ⟨rfl,ah,ai,K,L,d,i,j⟩;rw[Aa ab] at d;have m:=Ab (show L2A B au (.slice (some ⟨aT,0,none⟩) T.length c) N (BH (Pt.set t.at_ (nms cs)).ex N.length) P (DG (Pt.set t.at_ (nms cs)).ex) nd E ap aq w (.returned (.int .i64 ((N.length+ [(⟨4,0,⟨#[]⟩,aA, []⟩:Nd)].length - 1 :Nat):Int))) aB from by
     have e:BH (Pt.set t.at_ (nms cs)).ex N.length= [⟨4,0,⟨#[]⟩,aA, []⟩]:=by rw[← Aa cW,Aa cZ];rfl
     rw[e];exact ⟨rfl,ah,ai,K,L,d,a3.trans i,Cl j aR.size⟩)
    clear d i j a3 cn co cl bR;dsimp only;go_wp2_with fail
    go_ret
    exact Aa m
   |have af:=f
    go_wp2_with fail
    refine (Aa f N P nd E ap aq _ O ad (by omega) (by omega)).mono ?_;rintro r aI ⟨rfl,ah,ai,K,L,d,i,j⟩;have ae:=ac.trans i;have aJ:=(Aa z).of d ae.low ao;have aP:=a.size;obtain ⟨a1,Q⟩:∃ a1:Int,a1=((N.length+(BH q.ex N.length).length - 1 :Nat):Int):=⟨_,rfl⟩
    obtain ⟨R,A⟩:∃ M,M=N ++BH q.ex N.length:=⟨_,rfl⟩
    obtain ⟨aj,C⟩:∃ M,M=P ++DG q.ex:=⟨_,rfl⟩
    obtain ⟨bk,S⟩:∃ M,M=ap ++K:=⟨_,rfl⟩
    obtain ⟨bl,U⟩:∃ M,M=aq ++L:=⟨_,rfl⟩
    rw[← A,← C,← S,← U] at d;rw[← Q];have J:R.length=N.length+q.ex.cnt:=by rw[A,zA,Am]
    have Y:aj.length=P.length+q.ex.cnt:=by rw[C,zA,Bn]
    have a4:R.length+1≤65535:=by omega
    have a5:aj.length+1≤65535:=by omega
    have aD:=Ab (And.intro Q (And.intro A (And.intro C (And.intro S (And.intro U (And.intro J (And.intro Y (Cl j aP))))))));clear Q A C S U J Y j ac i ad O;dsimp only;go_wp2_with fail
    refine (Kk aJ ao d a4 a5 [a1] _ 1 rfl rfl (by unfold maxLen;omega) _ lo V).mono ?_;rintro r bG ⟨rfl,bH,bI,ak,aC⟩;rw[Aa ab] at ak;have m:=Ab (AcP (Aa aD) ak (ae.trans aC) ae.low.size);clear ak aC aD;dsimp only;go_wp2_with fail
    go_ret
    exact Aa m
   |obtain ⟨aO,a7,q2,q3⟩:=O.at4 lo V
    have cp:=O.at0;have dc:(lo:Int) < (T.length:Int):=by omega
    rw[b] at aO a7 q2 q3;rw[ht] at aO
    try rw[aU] at q2
    clear b ht ac ad O;go_wp2_with fail
    have cq:∀ w',Below w.heap.size w w'→Nk B au nd E w nd E w':=fun w' bP=>Nk.of_all bP (by have:=F.row.lt;have:=F.low;omega);have aS:=fun (o:Obj)=>a.alloc a.size o
    first
    |refine (Qg ((Aa z).below (aS _)) ao (F.below (aS _)) ay az _ _ _ lo V).mono ?_
     rintro r aB ⟨rfl,ah,ai,K,L,d,i,j⟩;rw[Aa ab] at d;have m:=Ab (And.intro d (And.intro ((cq _ (aS _)).trans i) (Cl j (aS _).size)));clear d i j aO a7 q2 q3 cp;dsimp only;go_wp2_with fail
     go_ret
     exact ⟨rfl,ah,ai,K,L,(Aa m).1,(Aa m).2.1,(Aa m).2.2⟩
    |have bs:=fun (o o':Obj)=>(aS o).alloc (aS o).size o'
     refine (Qg ((Aa z).below (bs _ _)) ao (F.below (bs _ _)) ay az _ _ _ lo V).mono ?_;rintro r aB ⟨rfl,ah,ai,K,L,d,i,j⟩;rw[Aa ab] at d;have m:=Ab (And.intro d (And.intro ((cq _ (bs _ _)).trans i) (Cl j (bs _ _).size)));clear d i j aO a7 q2 q3 cp;dsimp only;go_wp2_with fail
     go_ret
     exact ⟨rfl,ah,ai,K,L,(Aa m).1,(Aa m).2.1,(Aa m).2.2⟩
theorem Iv {B m j c:Nat}{T:List Af}(k:j < B)(l:T.length≤4000)(o:∀ t∈T,t.text.size≤maxLen):∀ (n lo hi:Nat) (p:Pt),hi - lo≤n→hi≤T.length→lo≤hi→G 0 (GD T lo hi) p→Qf B m j c T lo hi p
 |n,lo,hi,p,hn,hh,hlo,g=>by
  have s:lo < hi:=by
   obtain ⟨t,r,e,_⟩:=g.head;obtain ⟨_,_,_,h⟩:=AT hh e;exact h
  match n,hn with
  | 0,hn=>omega
  |n+1,hn=>
   have q:∀ i f p,f≤T.length→i≤f→f - i < hi - lo→G 0 (GD T i f) p→Qf B m j c T i f p:=
    fun i f w h1 h2 h3 x=>Iv k l o n i f w (by omega) h1 h2 x
   rcases g.cut0 with ⟨t,u,v,a,b,d,y,z,A,hs,rfl,h1,h2,h3,g1,g2,g3⟩ | g
   ·exact Aaz k l hh hlo hs h1 h2 h3 g1 g2 g3 q
   ·exact Ab7 k l o hh s g q
end Go.Proofs.YtchakjeegneeoaaGreatDoor
