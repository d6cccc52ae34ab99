/-
  FRD, FRE. Own work.
-/
import Derived.Test.YtffkofkjpckmpaaGreatDoorMXAY
import Derived.Test.YtffkofkjpckmpaaGreatDoorMXBE
import Derived.Test.YtffkofkjpckmpaaGreatDoorMXAX
import Derived.Test.YtffkofkjpckmpaaGreatDoorMXBD
namespace Go.Proofs.YtffkofkjpckmpaaGreatDoor
open Go.RowKit
set_option linter.unusedVariables false
def ndF (x:Nd):Prop:=Aw x=true∧x.num≤9223372036854775807
theorem TP (op:Int)(k:Int)(h:op=8∨op=9∨op=10):ndF ⟨op,0,⟨#[]⟩, [], [k]⟩:=by
 refine ⟨?_,by show (0 :Int)≤_;decide⟩;rcases h with rfl | rfl | rfl <;> rfl
theorem Vt (op:Int)(k l:Int)(h: 11≤op∧op≤26):ndF ⟨op,0,⟨#[]⟩, [], [k,l]⟩:=by
 refine ⟨?_,by show (0 :Int)≤_;decide⟩;have e:Eg op=2:=by unfold Eg;rw[if_neg (by omega),if_neg (by omega),if_pos h]
 have a:op≠1:=by omega
 have b:op≠2:=by omega
 have c:op≠3:=by omega
 have d:op≠4:=by omega
 have f:op≠5:=by omega
 have g:op≠6:=by omega
 have i:op≠7:=by omega
 simp[Aw,e,a,b,c,d,f,g,i,ByteArray.size]
theorem Vu {k:Nat}{t:Ae}{op:Int}(h:BZ k t=some op): 11≤op∧op≤26:=by
 obtain ⟨s,hs,_⟩:=Eu h;have a:∀ k,∀ p∈BR k,11≤p.2∧p.2≤26:=fun k=>by
  unfold BR;split <;> decide
 exact a k _ hs
theorem AcE {s:ByteArray}(h1:Bk s=true)(h2:s≠AB []):vnB s=true:=by
 simp only[Bk,zE,zF] at h1;have h0:s.size≠0:=fun e=>h2 (by
  have:Aj s= []:=z7 (by rw[At];exact e);rw[← this,Bn])
 simp only[vnB,zE,zF];exact ⟨⟨by omega,h1.1⟩,h1.2⟩
theorem Aai {a:List ByteArray}(h1:∀ s∈a,Bk s=true)(h2:∀ s∈a,s≠AB [])(h3:(Jp a).length≤64):ndF ⟨4,0,⟨#[]⟩,Jp a, []⟩:=by
 refine ⟨?_,by show (0 :Int)≤_;decide⟩;have hs:Cl a (Jp a):=EH a;have b:Ks (Jp a)=true:=by
  rw[Ks,z1];intro x hx;have:=(hs.mem x).1 hx;exact AcE (h1 x this) (h2 x this)
 have c:EK (Jp a)=true:=by rw[Ja _ h3,b,hs.rise];rfl
 have e:Eg 4=0:=rfl;simp[Aw,e,c,ByteArray.size]
theorem TQ {c:List Ae}(h:∀ t∈c,tkF t):∀ s∈IL c,Bk s=true
 |s,hs=>by
  induction c with
  |nil=>cases hs
  |cons t r a=>
   rw[IL] at hs;split at hs
   ·rename_i hk;rcases zG.1 hs with rfl | hs
    ·exact (h t (zQ ..)).2.1 hk
    ·exact a (fun u hu=>h u (zS _ hu)) hs
   ·exact a (fun u hu=>h u (zS _ hu)) hs
theorem G.fields {k:Nat}{c:List Ae}{p:Pt}(g:G k c p):(∀ t∈c,tkF t)→p.ne→(∀ q∈p.sets,(Jp q.2).length≤64)→∀ b,∀ x∈Bw p.ex b,ndF x:=by
 induction g with
 |up hk g o=>exact o
 |@ite t u v a b d I J K ht hu y L M N z A id=>
  intro hc f hs m x hx;rw[Pt.sets] at hs;rw[Pt.ex,Bw] at hx;rcases zH.1 hx with hx | hx
  ·rcases zH.1 hx with hx | hx
   ·rcases zH.1 hx with hx | hx
    ·exact z (fun i j=>hc i (by simp[j])) f.1 (fun q hq=>hs q (by simp[hq])) _ x hx
    ·exact A (fun i j=>hc i (by simp[j])) f.2.1 (fun q hq=>hs q (by simp[hq])) _ x hx
   ·exact id (fun i j=>hc i (by simp[j])) f.2.2 (fun q hq=>hs q (by simp[hq])) _ x hx
  ·rw[zJ.1 hx];exact ⟨rfl,by show (0 :Int)≤_;decide⟩
 |@bin k l r t op B C hk E ht F s w=>
  intro hc f hs m x hx;rw[Pt.sets] at hs;rw[Pt.ex,Bw] at hx;rcases zH.1 hx with hx | hx
  ·rcases zH.1 hx with hx | hx
   ·exact s (fun i j=>hc i (by simp[j])) f.1 (fun q hq=>hs q (by simp[hq])) _ x hx
   ·exact w (fun i j=>hc i (by simp[j])) f.2 (fun q hq=>hs q (by simp[hq])) _ x hx
  ·rw[zJ.1 hx];exact Vt _ _ _ (Vu ht)
 |@cmp l r t op B C E ht F s w=>
  intro hc f hs m x hx;rw[Pt.sets] at hs;rw[Pt.ex,Bw] at hx;rcases zH.1 hx with hx | hx
  ·rcases zH.1 hx with hx | hx
   ·exact s (fun i j=>hc i (by simp[j])) f.1 (fun q hq=>hs q (by simp[hq])) _ x hx
   ·exact w (fun i j=>hc i (by simp[j])) f.2 (fun q hq=>hs q (by simp[hq])) _ x hx
  ·rw[zJ.1 hx];exact Vt _ _ _ (Vu ht)
 |@not t r p ht g o=>
  intro hc f hs m x hx;rw[Pt.ex,Bw] at hx;rcases zH.1 hx with hx | hx
  ·exact o (fun i j=>hc i (by simp[j])) f hs _ x hx
  ·rw[zJ.1 hx];exact TP _ _ (by simp)
 |@neg t r p ht g o=>
  intro hc f hs m x hx;rw[Pt.ex,Bw] at hx;rcases zH.1 hx with hx | hx
  ·exact o (fun i j=>hc i (by simp[j])) f hs _ x hx
  ·rw[zJ.1 hx];exact TP _ _ (by simp)
 |@size t u v r p ht hu g y o=>
  intro hc f hs m x hx;rw[Pt.ex,Bw] at hx;rcases zH.1 hx with hx | hx
  ·exact o (fun i j=>hc i (by simp[j])) f hs _ x hx
  ·rw[zJ.1 hx];exact TP _ _ (by simp)
 |@par t u r p ht g hu o=>
  intro hc f hs;exact o (fun i j=>hc i (by simp[j])) f hs
 |@set t u c ht hc hu=>
  intro H f hs m x hx;have n:x∈ [(⟨4,0,⟨#[]⟩,Jp (IL c), []⟩:Nd)]:=hx;rw[zJ.1 n];exact Aai (TQ (fun i j=>H i (by simp[j]))) f (hs (t.at_,IL c) (by simp[Pt.sets]))
 |@num t h=>
  intro hc f hs m x hx;have n:x∈ [(⟨1,t.num,⟨#[]⟩, [], []⟩:Nd)]:=hx;rw[zJ.1 n];have:=(hc t (by simp)).1 h;refine ⟨?_,this.2⟩;have e:Eg 1=0:=rfl;simp[Aw,e,this.1,ByteArray.size]
 |@text t h=>
  intro hc f hs m x hx;have n:x∈ [(⟨2,0,t.text, [], []⟩:Nd)]:=hx;rw[zJ.1 n];refine ⟨?_,by show (0 :Int)≤_;decide⟩;have e:Eg 2=0:=rfl;simp[Aw,e,(hc t (by simp)).2.1 h]
 |@name t h=>
  intro hc f hs m x hx;have n:x∈ [(⟨5,0,t.text, [], []⟩:Nd)]:=hx;rw[zJ.1 n];refine ⟨?_,by show (0 :Int)≤_;decide⟩;have e:Eg 5=0:=rfl;simp[Aw,e,(hc t (by simp)).2.2 h]
 |@tru t h=>
  intro hc f hs m x hx;have n:x∈ [(⟨3,1,⟨#[]⟩, [], []⟩:Nd)]:=hx;rw[zJ.1 n];exact ⟨rfl,by show (1 :Int)≤_;decide⟩
 |@fls t h=>
  intro hc f hs m x hx;have n:x∈ [(⟨3,0,⟨#[]⟩, [], []⟩:Nd)]:=hx;rw[zJ.1 n];exact ⟨rfl,by show (0 :Int)≤_;decide⟩
theorem GR {s:List UInt8}{t:Ae}(h:see s t=true):XQ t=s.length:=by
 simp only[see,zE,Bool.or_eq_true,zF] at h;rw[XQ,if_pos h.1,h.2,Gb]
theorem Vv:∀ {ts:List Ae},(∀ t∈ts,1≤XQ t)→ts.length≤Rc ts
 | [],_=>by simp
 |t ::r,h=>by
  rw[Et];have:=Vv (fun u hu=>h u (zS _ hu)) (ts:=r);have:=h t (zQ ..);simp;omega
theorem AbN {t:Ae}(h:BM t): 1≤XQ t:=by
 unfold XQ;split
 ·rename_i hk;have hm:Aj t.text∈Cq:=by
   rcases h with h | h | h | h
   ·omega
   ·omega
   ·omega
   ·exact h.2
  have:∀ l∈Cq,1≤l.length:=by decide
  have:=this _ hm;rw[At] at this;exact this
 ·exact NLN
theorem G.one {k:Nat}{c:List Ae}{p:Pt}(g:G k c p): 1≤c.length:=by
 induction g with
 |up hk g a=>exact a
 |_=>first | (simp;done) | (simp;omega)
theorem GC.fields {c:List Ae}{g:Option Pt}(h:GC c g)(hc:∀ t∈c,tkF t)(a:neO g)(hs:∀ q∈N6 g,(Jp q.2).length≤64):∀ b,∀ x∈Fb (g.map Pt.ex) b,ndF x:=by
 cases h with
 |deny h=>intro b x hx;cases hx
 |grant h g=>exact g.fields (fun d f=>hc d (by simp[f])) a hs
theorem SC.fields {c:List Ae}{s:Ps}(h:SC c s)(hc:∀ t∈c,tkF t)(hk:∀ t∈c,1≤XQ t)(j:s.good)(hs:∀ q∈s.sets,(Jp q.2).length≤64):(∀ b,∀ x∈Fb s.sx.cond b,ndF x)∧(∀ b,∀ x∈Fb s.sx.grant b,ndF x)∧(s.kind=1→Bh s.name=true)∧(s.kind≠3→6≤Rc c):=by
 cases h with
 |@let_ t n e c p h l he g=>
  refine ⟨g.fields (fun f i=>hc f (by simp[i])) j.1 (fun q hq=>hs q (za _ hq)),(fun b x hx=>by cases hx),fun _=>(hc n (by simp)).2.2 l,fun _=>?_⟩;have h1:=GR h;have h2:=hk n (by simp);have h3:=GR he;have h4:=Vv (ts:=c) (fun f i=>hk f (by simp[i]));have h5:=g.one;rw[Et,Et,Et];have:Dq.length=3:=rfl;have:QW.length=1:=rfl;omega
 |@when t a c d p g h m o k=>
  refine ⟨m.fields (fun f i=>hc f (by simp[i])) j.1 (fun q hq=>hs q (za _ hq)),k.fields (fun f i=>hc f (by simp[i])) j.2.1 (fun q hq=>hs q (zV _ hq)),fun e=>?_,fun _=>?_⟩
  ·exact absurd (show (2 :Int)=1 from e) (by decide)
  ·have h1:=GR h;have h3:=GR o;rw[Et,PN,Et];have:Bf.length=4:=rfl;have:Br.length=2:=rfl;omega
 |else_ h k=>
  refine ⟨(fun b x hx=>by cases hx),k.fields (fun f i=>hc f (by simp[i])) j.2.1 (fun q hq=>hs q (zV _ hq)),fun e=>?_,fun e=>?_⟩
  ·exact absurd (show (3 :Int)=1 from e) (by decide)
  ·exact absurd rfl e
theorem PC.fields {ts:List Ae}{S:List Ps}(h:PC ts S):(∀ t∈ts,tkF t)→(∀ t∈ts,1≤XQ t)→(∀ s∈S,s.good)→(∀ q∈S.flatMap Ps.sets,(Jp q.2).length≤64)→∀ b,(∀ x∈A7 b (S.map Ps.sx),ndF x)∧(∀ s∈S,s.kind=1→Bh s.name=true)∧(Vs S→7 * (S.length - 1)≤Rc ts):=by
 induction h with
 |nil=>intro _ _ _ _ b;exact ⟨fun x hx=>(by cases hx),fun s hs=>(by cases hs),fun e=>e.elim⟩
 |@cons c r u s S i hu j f=>
  intro hc hk g hs b;obtain ⟨h1,h2,h3,h4⟩:=i.fields (fun a d=>hc a (by simp[d])) (fun a d=>hk a (by simp[d])) (g s (zQ ..)) (fun q hq=>hs q (by rw[zi];exact za _ hq));have f:=f (fun a d=>hc a (by simp[d])) (fun a d=>hk a (by simp[d])) (fun y hy=>g y (zS _ hy)) (fun q hq=>hs q (by rw[zi];exact zV _ hq));rw[List.map_cons,A7];refine ⟨fun x hx=>?_,fun y hy=>?_,fun he=>?_⟩
  ·rcases zH.1 hx with hx | hx
   ·rcases zH.1 hx with hx | hx
    ·exact h1 _ x hx
    ·exact h2 _ x hx
   ·exact (f _).1 x hx
  ·rcases zG.1 hy with rfl | hy
   ·exact h3
   ·exact (f 0).2.1 y hy
  ·cases S with
   |nil=>simp
   |cons t T=>
    have a1:=(f 0).2.2 he.2;have a2:=h4 he.1;have a3:=GR hu;have:AG.length=1:=rfl;rw[PN,Et];simp only[List.length_cons,Nat.add_sub_cancel] at a1 ⊢;omega
theorem Re:∀ (S:List Ps) (b:Nat),(∀ s∈S,s.good)→(∀ s∈S,s.kind=1→Bh s.name=true)→Vs S→BK (Ct b (S.map Ps.sx))=true
 | [],_,_,_,h=>h.elim
 |s ::S,b,hg,hi,he=>by
  have h1:=hg s (zQ ..);have hs:CT ⟨s.kind,s.name,EW s.sx.cond b,EW s.sx.grant (b+AN s.sx.cond)⟩=true:=by
   obtain ⟨_,_,h | h | h⟩:=h1
   ·simp[CT,h.1,hi s (List.mem_cons_self ..) h.1,Ps.sx,h.2.2,EW]
   ·simp[CT,h.1,h.2.2,Gb]
   ·simp[CT,h.1,h.2.2,Gb,Ps.sx,h.2.1,EW]
  rw[List.map_cons,Ct,BK];cases S with
  |nil=>
   have:s.kind=3:=he;rw[show CT ⟨s.sx.kind,s.sx.name,EW s.sx.cond b,EW s.sx.grant (b+AN s.sx.cond)⟩=true from hs];simp[Ct,BK,Ps.sx,this]
  |cons t T=>
   rw[show CT ⟨s.sx.kind,s.sx.name,EW s.sx.cond b,EW s.sx.grant (b+AN s.sx.cond)⟩=true from hs,Re (t ::T) _ (fun y hy=>hg y (zS _ hy)) (fun y hy=>hi y (zS _ hy)) he.2];have:s.sx.kind≠3:=he.1;simp[Ct,this]
theorem OI:∀ {X:List Sx},IM X=none→∀ x∈X,Gt x.cond≤64∧Gt x.grant≤64
 | [],_,x,hx=>by cases hx
 |y ::X,h,x,hx=>by
  rw[IM] at h;split at h
  ·cases h
  ·rename_i b;have a:=FD (Gt y.cond) (Gt y.grant);rcases zG.1 hx with rfl | hx
   ·exact ⟨by omega,by omega⟩
   ·exact OI h x hx
theorem Wq {L:List (Nat × List ByteArray)}(h:(Kl L).head? =none):∀ q∈L,(Jp q.2).length≤64:=fun q hq=>by
 rcases Nat.lt_or_ge 64 (Jp q.2).length with k | k
 ·have:(q.1:Int)∈Kl L:=List.mem_filterMap.2 ⟨q,hq,if_pos k⟩;rw[List.head?_eq_none_iff.1 h] at this;cases this
 ·exact k
theorem X4 {t:ByteArray}{x:QR}(d:DP (Ay t).toks x)(h0:(IX t x).2.2.2.1=0):By (IX t x).1 (IX t x).2.1=true∧∀ n∈(IX t x).1,n.num≤9223372036854775807:=by
 by_cases hc:(Ay t).code=0
 ·cases x with
  |bad q=>rw[LZ hc] at h0;cases h0
  |ok S=>
   cases a:(Kl (S.flatMap Ps.sets)).head? with
   |some i=>rw[Jv hc a] at h0;cases h0
   |none=>
    cases b:IM (S.map Ps.sx) with
    |some i=>rw[Jw hc a b] at h0;cases h0
    |none=>
     rw[Mp hc a b];dsimp only;have g:=d.cut S rfl;obtain ⟨c,he⟩:=d.good S rfl;obtain ⟨m,ts⟩:=XY t;obtain ⟨f1,f2,k⟩:=g.fields m (fun u hu=>AbN (Ik t u hu).1) c (Wq a) 0;have k:=k he;have h4:=GS t;have p:=g.cnt;have o: 1≤S.length:=by
      cases S with
      |nil=>exact he.elim
      |cons=>simp
     obtain ⟨r,g1,g2,g3⟩:=Mo (A7 0 (S.map Ps.sx)) (S.map Ps.sx) 0 (fun j y hy=>by rw[zW];exact hy) (fun y hy=>by
      obtain ⟨s,hs,rfl⟩:=zb.1 hy;obtain ⟨a1,a2⟩:=OI b _ (zb.2 ⟨s,hs,rfl⟩);refine ⟨a1,a2, ?_⟩;obtain ⟨_,_,h | h | h⟩:=c s hs
      ·have:=h.1;simp[Ps.sx,this,h.2.1]
      ·have:=h.1;simp[Ps.sx,this,h.2.1]
      ·have:=h.1;simp[Ps.sx,this,h.2.1])
     have l:=Ll g1 [] g3;rw[zW,Nat.sub_zero,List.nil_append,← CY (S.map Ps.sx) 0] at l;refine ⟨?_,fun n f=>(f1 n f).2⟩;simp only[By,zE,zF];refine ⟨⟨⟨by rw[CY];omega,⟨by rw[Gc,zv];exact o,by rw[Gc,zv];omega⟩,Re S 0 c f2 he⟩,z1.2 (fun n f=>(f1 n f).1)⟩, ?_⟩;rw[EF,l];exact zR g2
 ·rw[Jx hc] at h0;exact absurd h0 hc
theorem X5 {t:ByteArray}{x:QR}(h:(IX t x).2.2.2.1≠0):(IX t x).1= []∧(IX t x).2.1= []:=by
 unfold IX at h ⊢;split at h
 ·rename_i hc;rw[if_pos hc];exact ⟨rfl,rfl⟩
 ·rename_i hc;rw[if_neg hc];cases x with
  |bad q=>exact ⟨rfl,rfl⟩
  |ok S=>
   dsimp only at h ⊢;split at h
   ·exact ⟨rfl,rfl⟩
   ·split at h
    ·exact ⟨rfl,rfl⟩
    ·exact absurd rfl h
theorem IY.pos {N:List Nd}{L:List St}{s:ByteArray}(h:IY N L s)(c:By N L=true):s.size≠0:=by
 rcases h with ⟨h,_⟩ | ⟨_,Es,_,_,rfl⟩
 ·rw[c] at h;cases h
 ·have hl: 1≤L.length:=by
   simp only[By,zE,zF] at c;exact c.1.1.2.1.1
  cases L with
  |nil=>simp at hl
  |cons s L=>
   have h1: 0 < (Lm Es s).size:=by
    have:∀ a b:ByteArray,b.size=2→0 < (a ++b).size:=fun a b e=>by rw[zD];omega
    exact this _ _ rfl
   rw[Gu,List.map_cons,Dl,zD];omega
end Go.Proofs.YtffkofkjpckmpaaGreatDoor
