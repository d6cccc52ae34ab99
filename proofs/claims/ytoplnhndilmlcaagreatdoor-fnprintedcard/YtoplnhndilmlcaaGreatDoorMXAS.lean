/-
  LTU0, PPF, HA0, HS, PPG, QN, VPY0, PPH, IP. Own work.
-/
import Derived.Test.YtoplnhndilmlcaaGreatDoorMXAP
import Derived.Test.YtoplnhndilmlcaaGreatDoorMXAW
import Derived.Test.YtoplnhndilmlcaaGreatDoorMXAD
import Derived.Test.YtoplnhndilmlcaaGreatDoorMXAN
import Derived.Test.YtoplnhndilmlcaaGreatDoorGX
import Derived.Test.YtoplnhndilmlcaaGreatDoorMXAK
import Derived.Test.YtoplnhndilmlcaaGreatDoorMXAU
import Derived.Test.YtoplnhndilmlcaaGreatDoorMXAR
import Derived.Test.YtoplnhndilmlcaaGreatDoorVPS
import Derived.Test.YtoplnhndilmlcaaGreatDoorMXAH
namespace Go.Proofs.YtoplnhndilmlcaaGreatDoor
open Go.RowKit
set_option linter.unusedVariables false
theorem AbP {w:World}{a:Option Addr}{n c:Nat}{zs:List Int}(h:Ed w a n c zs)(g:n≤1048576)(p:Nat)(i:p≤n):H6 (w.alloc (.cells #[.slice a n c,.int .i64 (p:Int)] 63)) w.heap.size a n c zs p:=
 ⟨Aj.new _ _ _,h.len,i,g,fun j k=>by
  obtain ⟨b,d,l,f,hc,m⟩:=h.cells j k;exact ⟨b,d,l,f,by rw[← hc];exact ((Below.refl w.heap.size w).alloc NLN _).cell (p:=⟨b,d+j,none⟩) f,m⟩⟩
theorem VH (x:Int):wrap64 x≤9223372036854775807:=by
 simp only[wrap64];omega
theorem XH {zs:List Int}{p i:Nat}{c:Int}{x:Nd}(h:x.num≤9223372036854775807):(Fa zs p c i x).num≤9223372036854775807:=by
 have e:=VH (x.num+1);unfold Fa
 repeat' split
 all_goals first | exact h | exact e | (show (-1 :Int)≤9223372036854775807;decide)
theorem XG {zs:List Int}{p:Nat}{N a:List Nd}{S d:List St}(e:(a,d)=Iq zs p N S)(h:∀ x∈N,x.num≤9223372036854775807):∀ x∈a,x.num≤9223372036854775807:=by
 have b:Tf.num≤9223372036854775807:=by decide
 have c:∀ j,(N.getD j Tf).num≤9223372036854775807:=fun j=>by
  rw[List.getD_eq_getElem?_getD];cases f:N[j]? with
  | none=>exact b
  | some y=>exact h y (List.mem_of_getElem? f)
 unfold Iq at e;dsimp only at e;intro x hx
 repeat' split at e
 all_goals
  injection e with e1 e2;rw[e1] at hx
  first
  | exact h x hx
  | (rcases List.mem_append.1 hx with hx | hx
     ·exact h x hx
     ·rw[List.mem_singleton.1 hx];first | exact b | exact c _)
  | (rcases List.mem_or_eq_of_mem_set hx with hx | hx
     ·exact h x hx
     ·rw[hx];exact XH (c _))
def Dg (Es:List Ex) (k:Int):Nat:=if k= -1 then 0 else match Es[k.toNat]? with
 | some e=>e.cnt
 | none=>0
def H8 (Es:List Ex) (L:List St):Nat:=(L.map fun s=>Dg Es s.cond+Dg Es s.grant).sum
theorem Pv {Es:List Ex}{k:Int}{m:Nat}{e:Ex}(h:k=(m:Nat))(he:Es[m]? =some e):Dg Es k=e.cnt:=by
 rw[Dg,if_neg (by omega),h,Int.toNat_natCast,he]
def CU (Es:List Ex) (k:Int):Option Ex:=if k= -1 then none else Es[k.toNat]?
def Q8 (Es:List Ex):Nat→List St→List Sx
 | _, []=> []
 | i,s ::L=>⟨i,s.kind,s.name,CU Es s.cond,CU Es s.grant⟩ ::Q8 Es (i+1) L
theorem KX (Es:List Ex)(k:Int):AU (CU Es k)=Dg Es k:=by
 unfold CU Dg;split
 ·rfl
 ·cases Es[k.toNat]? <;> rfl
theorem UH (Es:List Ex):∀ (L:List St) (i:Nat),Dt (Q8 Es i L)=H8 Es L
 | [],i=>rfl
 | s ::L,i=>by
  rw[Q8,Cq,UH Es L (i+1),KX,KX];simp[H8]
theorem GH (Es:List Ex):∀ (L:List St),(∀ s∈L,Dg Es s.cond+Dg Es s.grant=((An s).map (Dg Es)).sum)→H8 Es L=((L.flatMap An).map (Dg Es)).sum
 | [],_=>rfl
 | s ::L,h=>by
  have a:=GH Es L (fun x hx=>h x (List.mem_cons_of_mem _ hx));have h1:=h s (List.mem_cons_self ..);have e:H8 Es (s ::L)=Dg Es s.cond+Dg Es s.grant+H8 Es L:=by simp[H8]
  rw[e,h1,a,List.flatMap_cons,List.map_append,List.sum_append]
def Ye (N:List Nd):List Nat→List Ex→Prop
 | [], []=>True
 | q ::qs,e ::es=>CP N q e∧Ye N qs es
 | _,_=>False
theorem CP.kidsX {N:List Nd}{i:Nat}{e:Ex}(t:CP N i e){x:Nd}(hx:N[i]? =some x):∃ f:List Nat,x.kids=f.map (fun (q:Nat)=>(q:Int))∧Ye N f e.kids:=by
 have b:∀ {y:Nd},N[i]? =some y→y=x:=fun k=>Option.some.inj (k.symm.trans hx);cases t with
 | int h d hk=>obtain rfl:=b h;exact ⟨[],hk,trivial⟩
 | text h d hk=>obtain rfl:=b h;exact ⟨[],hk,trivial⟩
 | bool h d hk=>obtain rfl:=b h;exact ⟨[],hk,trivial⟩
 | set h d hk a n c=>obtain rfl:=b h;exact ⟨[],hk,trivial⟩
 | name h d hk=>obtain rfl:=b h;exact ⟨[],hk,trivial⟩
 | attr h d hk=>obtain rfl:=b h;exact ⟨[],hk,trivial⟩
 | lett h d hk=>obtain rfl:=b h;exact ⟨[],hk,trivial⟩
 | @un _ k _ _ h d hk hi t=>obtain rfl:=b h;exact ⟨[k],hk,t,trivial⟩
 | @bin _ k l _ _ _ h d hk hi t u=>obtain rfl:=b h;exact ⟨[k,l],hk,t,u,trivial⟩
 | @ite _ k l m _ _ _ _ h d hk hi t u v=>obtain rfl:=b h;exact ⟨[k,l,m],hk,t,u,v,trivial⟩
theorem GI {N:List Nd}{Es:List Ex}(k:Es.length=N.length)(f:∀ j,(h:j < Es.length)→CP N j Es[j]){a b:Nat}{S:List (Nat × Nat)}(d:AH (N.map Nd.kids) a S b)(l:b≤N.length):a+((Ar S).map (Dg Es)).sum=b:=by
 have c:∀ q∈S,q.1 < Es.length:=fun q hq=>by have:=(d.lt q hq).2;omega
 have g:=Mk d (S.attach.map (fun q=>Es[q.1.1]'(c q.1 q.2))) (by simp) (fun j h1 h2=>by
  have:=f (S[j]).1 (c _ (List.getElem_mem h1));simpa using this)
 have e2:(Ar S).map (Dg Es)=(S.attach.map (fun q=>Es[q.1.1]'(c q.1 q.2))).map Ex.cnt:=by
  apply List.ext_getElem
  ·simp[Ar]
  ·intro j h1 h2;have i:j < S.length:=by simpa[Ar] using h1
   have hq:=c S[j] (List.getElem_mem i);simp only[Ar,List.getElem_map,List.getElem_attach];exact Pv rfl (List.getElem?_eq_getElem hq)
 rw[e2];exact g
theorem Je {N:List Nd}{L:List St}(h:Bs N L=true):∃ S,AH (N.map Nd.kids) 0 S N.length∧Ar S=L.flatMap An:=by
 simp only[Bs,Bool.and_eq_true,decide_eq_true_eq] at h;obtain ⟨⟨⟨h1,⟨h2,h3⟩,h4⟩,h5⟩,h6⟩:=h;obtain ⟨S,b,ht⟩:∃ S,Cj (N.map Nd.kids) N.length [] 0=some S∧Ar S=L.flatMap An:=by
  rw[EP] at h6;cases hq:Cj (N.map Nd.kids) N.length [] 0 with
  | none=>rw[hq] at h6;cases h6
  | some S=>rw[hq] at h6;exact ⟨S,rfl,of_decide_eq_true h6⟩
 obtain ⟨a,_⟩:=Fi N.length (.nil 0) (fun p c=>(by cases c)) b;rw[Nat.zero_add] at a;exact ⟨S,a,ht⟩
theorem Ml {N:List Nd}{L:List St}(b:Yf N L)(Es:List Ex):∀ s∈L,Dg Es s.cond+Dg Es s.grant=((An s).map (Dg Es)).sum:=fun s hs=>by
 have c:Dg Es s.grant=((if s.grant≠-1 then [s.grant] else []).map (Dg Es)).sum:=by
  by_cases g:s.grant= -1
  ·rw[if_neg (fun k=>k g),g];rfl
  ·rw[if_pos g];simp
 rw[An,List.map_append,List.sum_append,← c]
 congr 1
 by_cases a:s.kind=3
 ·rw[if_neg (fun k=>k a)];rcases b.stm s hs with q | q | q
  ·omega
  ·omega
  ·rw[q.2];rfl
 ·rw[if_pos a];simp
theorem VZ {N:List Nd}{L:List St}(h:Bs N L=true){Es:List Ex}(a:Es.length=N.length)(b:∀ j,(h:j < Es.length)→CP N j Es[j]):H8 Es L=N.length:=by
 obtain ⟨S,c,ht⟩:=Je h;have h1:=GI a b c NLN;rw[GH Es L (Ml (FK h) Es),← ht];omega
def YZ (N:List Nd) (j:Nat):Option Nd:=N[j]?
def Pw:List Ex→Nat→List Nd
 | [],_=> []
 | e ::r,b=>Fc e b ++Pw r (b+e.cnt)
def Kl:Nat→List Ex→List Nat
 | _, []=> []
 | b,e ::r=>(b+e.cnt - 1) ::Kl (b+e.cnt) r
theorem Km {s:ByteArray}(h:s.size=0):s=⟨#[]⟩:=by
 cases s with
 | mk d=>
  have:d.size=0:=h;rw[Array.eq_empty_of_size_eq_zero this]
theorem Is {l:List ByteArray}(h:l.length=0):l= []:=List.eq_nil_of_length_eq_zero h
theorem Yg {N:List Nd}{t:Nat}{e:Ex}{x:Nd}(he:CP N t e)(hx:N[t]? =some x)(hf:Aq x=true)(b:Nat)(hk:x.kids=(Kl b e.kids).map (fun (q:Nat)=>(q:Int))):Fc e b=Pw e.kids b ++ [x]:=by
 have g:∀ {y:Nd},N[t]? =some y→y=x:=fun k=>Option.some.inj (k.symm.trans hx);rw[Aq,Bool.and_eq_true,decide_eq_true_eq] at hf;obtain ⟨_,hf⟩:=hf;cases he with
 | @int _ y h d f=>
  obtain rfl:=g h;rw[if_pos d] at hf;simp only[Bool.and_eq_true,decide_eq_true_eq] at hf;obtain ⟨op,num,text,names,kids⟩:=y;dsimp only at *;subst d f;rw[Km hf.1.2,Is hf.2];rfl
 | @text _ y h d f=>
  obtain rfl:=g h;rw[if_neg (by omega),if_pos d] at hf;simp only[Bool.and_eq_true,decide_eq_true_eq] at hf;obtain ⟨op,num,text,names,kids⟩:=y;dsimp only at *;subst d f;rw[hf.1.2,Is hf.2];rfl
 | @bool _ y h d f=>
  obtain rfl:=g h;rw[if_neg (by omega),if_neg (by omega),if_pos d] at hf;simp only[Bool.and_eq_true,decide_eq_true_eq] at hf;obtain ⟨op,num,text,names,kids⟩:=y;dsimp only at *;subst d f;rw[Km hf.1.2,Is hf.2];rcases hf.1.1 with rfl | rfl <;> rfl
 | @set _ y h d f a n c=>
  obtain rfl:=g h;rw[if_neg (by omega),if_neg (by omega),if_neg (by omega),if_pos d] at hf;simp only[Bool.and_eq_true,decide_eq_true_eq] at hf;obtain ⟨op,num,text,names,kids⟩:=y;dsimp only at *;subst d f;rw[hf.1.2,Km hf.2];rfl
 | @name _ y h d f=>
  obtain rfl:=g h;rw[if_neg (by omega),if_neg (by omega),if_neg (by omega),if_neg (by omega),if_pos d] at hf;simp only[Bool.and_eq_true,decide_eq_true_eq] at hf;obtain ⟨op,num,text,names,kids⟩:=y;dsimp only at *;subst d f;rw[hf.1.2,Is hf.2];rfl
 | @attr _ y h d f=>
  obtain rfl:=g h;rw[if_neg (by omega),if_neg (by omega),if_neg (by omega),if_neg (by omega),if_neg (by omega),if_pos (by omega)] at hf;cases hf
 | @lett _ y h d f=>
  obtain rfl:=g h;rw[if_neg (by omega),if_neg (by omega),if_neg (by omega),if_neg (by omega),if_neg (by omega),if_pos (by omega)] at hf;cases hf
 | @un _ k y e1 h d f hi u=>
  obtain rfl:=g h;rw[if_neg (by omega),if_neg (by omega),if_neg (by omega),if_neg (by omega),if_neg (by omega),if_neg (by omega)] at hf;simp only[Bool.and_eq_true,decide_eq_true_eq] at hf;simp only[Fc,Ex.kids,Pw,Kl,List.append_nil] at hk ⊢;obtain ⟨op,num,text,names,kids⟩:=y;dsimp only at *;rw[hf.1.1,Km hf.1.2,Is hf.2,hk];rfl
 | @bin _ k l y e1 e2 h d f hi u v=>
  obtain rfl:=g h;rw[if_neg (by omega),if_neg (by omega),if_neg (by omega),if_neg (by omega),if_neg (by omega),if_neg (by omega)] at hf;simp only[Bool.and_eq_true,decide_eq_true_eq] at hf;simp only[Fc,Ex.kids,Pw,Kl,List.append_nil] at hk ⊢;obtain ⟨op,num,text,names,kids⟩:=y;dsimp only at *;rw[hf.1.1,Km hf.1.2,Is hf.2,hk];rfl
 | @ite _ k l m y e1 e2 e3 h d f hi u v w=>
  obtain rfl:=g h;rw[if_neg (by omega),if_neg (by omega),if_neg (by omega),if_neg (by omega),if_neg (by omega),if_neg (by omega)] at hf;simp only[Bool.and_eq_true,decide_eq_true_eq] at hf;simp only[Fc,Ex.kids,Pw,Kl,List.append_nil,List.append_assoc] at hk ⊢;obtain ⟨op,num,text,names,kids⟩:=y;dsimp only at *;subst d;rw[hf.1.1,Km hf.1.2,Is hf.2,hk];rfl
theorem V0 {N:List Nd}(j:∀ x∈N,Aq x=true){a b:Nat}{d:List (Nat × Nat)}(h:AH (N.map Nd.kids) a d b):∀ (c:List Ex),Ye N (d.map (fun p=>p.1)) c→Pw c a=(List.range' a (b - a)).filterMap (YZ N)∧d.map (fun p=>p.1)=Kl a c∧a+(c.map Ex.cnt).sum=b:=by
 induction h with
 | nil a=>
  intro c f
  match c,f with
  | [],_=>simp[Pw,Kl]
 | @cons a t b ks d hk ht hf k l=>
  intro c f
  match c,f with
  | e ::c,⟨he,hr⟩=>
   obtain ⟨x,hx,g⟩:∃ x,N[t]? =some x∧x.kids=Ar ks:=by
    rw[List.getElem?_map] at ht;cases hx:N[t]? with
    | none=>rw[hx] at ht;cases ht
    | some x=>rw[hx] at ht;exact ⟨x,rfl,Option.some.inj ht⟩
   obtain ⟨m,hq,n⟩:=he.kidsX hx;have e1:ks.map (fun p=>p.1)=m:=by
    have:=g.symm.trans hq;rw[Ar] at this;have h2:=congrArg (List.map Int.toNat) this;simpa[List.map_map,Function.comp_def] using h2
   obtain ⟨o,q,y⟩:=k e.kids (by rw[e1];exact n);have z:=hk.le;have A:=hf.le;have B:e.cnt=(e.kids.map Ex.cnt).sum+1:=by
    cases e <;> simp[Ex.cnt,Ex.kids] <;> omega
   have i:a+e.cnt=t+1:=by omega
   obtain ⟨r,s,C⟩:=l c hr;have u:List.range' a (b - a)=List.range' a (t - a) ++t ::List.range' (t+1) (b - (t+1)):=by
    have e2:b - a=(t - a)+(1+(b - (t+1))):=by omega
    rw[e2,← List.range'_append_1,← List.range'_append_1];have e3:a+(t - a)=t:=by omega
    rw[e3];rfl
   have v:=Yg he hx (j _ (List.mem_of_getElem? hx)) a (by rw[g,Ar,← q,List.map_map];rfl);have w:YZ N t=some (x):=by rw[YZ,hx]
   refine ⟨?_, ?_, ?_⟩
   ·rw[Pw,v,o,i,r,u,List.filterMap_append,List.filterMap_cons,w];simp
   ·rw[List.map_cons,Kl,i,s];simp
   ·rw[List.map_cons,List.sum_cons];omega
def AaQ (N:List Nd) (c:Nat) (e:Ex):Prop:=Fc e c=(List.range' c e.cnt).filterMap (YZ N)
def KY (N:List Nd) (Es:List Ex) (c:Nat) (k:Int):Prop:=k= -1∨∃ (mm:Nat) (e:Ex),k=mm∧Es[mm]? =some e∧c+e.cnt=mm+1∧AaQ N c e
theorem Mm {N:List Nd}(l:∀ x∈N,Aq x=true){Es:List Ex}(g:Es.length=N.length)(a:∀ j,(h:j < Es.length)→CP N j Es[j]){S:List (Nat × Nat)}(m:AH (N.map Nd.kids) 0 S N.length){b n:List Int}{x:Int}(h:Ar S=b ++x ::n):KY N Es ((b.map (Dg Es)).sum) x:=by
 rw[Ar] at h;obtain ⟨s,t,rfl,h1,h2⟩:=List.map_eq_append_iff.1 h;obtain ⟨p,u,rfl,h3,h4⟩:=List.map_eq_cons_iff.1 h2;obtain ⟨c,o,d⟩:=m.split;have hc:=GI g a o (by have:=d.le;omega);have v:=(d.lt p (List.mem_cons_self ..)).2;have e1:c=(b.map (Dg Es)).sum:=by rw[← h1];rw[Ar] at hc;omega
 have f:p.1 < Es.length:=by omega
 have i:AH (N.map Nd.kids) c [p] (p.1+1):=by
  cases d with
  | cons hk ht hf=>exact .cons hk ht (.nil _)
 have q:=GI g a i (by omega);have w:Dg Es (p.1:Nat)=Es[p.1].cnt:=Pv rfl (List.getElem?_eq_getElem f);have r:c+Es[p.1].cnt=p.1+1:=by
  simp only[Ar,List.map_cons,List.map_nil,List.sum_cons,List.sum_nil] at q;omega
 rw[← e1];refine .inr ⟨p.1,Es[p.1],h3.symm,List.getElem?_eq_getElem f,r, ?_⟩;have k:=(V0 l i [Es[p.1]] ⟨a p.1 f,trivial⟩).1;rw[show p.1+1 - c=Es[p.1].cnt by omega] at k;rw[AaQ,← k];simp[Pw]
def Yh (N:List Nd) (Es:List Ex) (L:List St):Prop:=∀ k,(h:k < L.length)→KY N Es (H8 Es (L.take k)) L[k].cond∧KY N Es (H8 Es (L.take k)+Dg Es L[k].cond) L[k].grant
theorem V4 {N:List Nd}{L:List St}(h:Bs N L=true){Es:List Ex}(c:Es.length=N.length)(d:∀ j,(h:j < Es.length)→CP N j Es[j]):Yh N Es L:=fun k hk=>by
 obtain ⟨S,f,ht⟩:=Je h;have a:=FK h;have l:L=L.take k ++L[k] ::L.drop (k+1):=by rw[List.getElem_cons_drop,List.take_append_drop]
 have e1:H8 Es (L.take k)=(((L.take k).flatMap An).map (Dg Es)).sum:=GH Es _ (fun s hs=>Ml a Es s (List.mem_of_mem_take hs));have e2:Ar S=(L.take k).flatMap An ++(An L[k] ++(L.drop (k+1)).flatMap An):=by
  rw[ht]
  conv=>lhs;rw[l]
  rw[List.flatMap_append,List.flatMap_cons]
 have hs:=List.getElem_mem hk;generalize L[k]=s at e2 hs ⊢;have i:s.cond= -1∨s.kind≠3:=by
  rcases a.stm s hs with q | q | q
  ·right;omega
  ·right;omega
  ·exact .inl q.2
 rw[e1];refine ⟨?_, ?_⟩
 ·rcases i with q | q
  ·exact .inl q
  ·rw[An,if_pos q] at e2;exact Mm a.fields c d f e2
 ·by_cases g:s.grant= -1
  ·exact .inl g
  ·have q2:An s=(if s.kind≠3 then [s.cond] else []) ++ [s.grant]:=by rw[An,if_pos g]
   have e3:Ar S=((L.take k).flatMap An ++(if s.kind≠3 then [s.cond] else [])) ++s.grant ::(L.drop (k+1)).flatMap An:=by
    rw[e2,q2];simp
   have r:=Mm a.fields c d f e3;have e4:(((L.take k).flatMap An ++(if s.kind≠3 then [s.cond] else [])).map (Dg Es)).sum=(((L.take k).flatMap An).map (Dg Es)).sum+Dg Es s.cond:=by
    rw[List.map_append,List.sum_append]
    congr 1
    by_cases b:s.kind=3
    ·rw[if_neg (fun k=>k b)];rcases i with q | q
     ·rw[q];rfl
     ·exact absurd b q
    ·rw[if_pos b];simp
   rw[e4] at r;exact r
theorem Q9 (Es:List Ex)(s:St):∀ (L:List St) (i:Nat),Q8 Es i (L ++ [s])=Q8 Es i L ++ [⟨((i+L.length:Nat):Int),s.kind,s.name,CU Es s.cond,CU Es s.grant⟩]
 | [],i=>by simp[Q8]
 | x ::L,i=>by
  have e:i+1+L.length=i+(L.length+1):=by omega
  rw[List.cons_append,Q8,Q8,Q9 Es s L (i+1),List.cons_append,List.length_cons,e]
theorem Yi {N:List Nd}{Es:List Ex}{c:Nat}{k:Int}(h:KY N Es c k):IV (CU Es k) c=(List.range' c (Dg Es k)).filterMap (YZ N)∧LC (CU Es k) c=k:=by
 rcases h with rfl | ⟨a,e,rfl,he,h1,h2⟩
 ·exact ⟨by simp[CU,IV,Dg],rfl⟩
 ·have b:CU Es (a:Int)=some e:=by rw[CU,if_neg (by omega),Int.toNat_natCast,he]
  rw[b,Pv rfl he];refine ⟨h2, ?_⟩;show (((c+e.cnt - 1 :Nat)):Int)=a;omega
theorem Ra {N:List Nd}{Es:List Ex}{L:List St}(hs:Yh N Es L):∀ k,k≤L.length→A9 0 (Q8 Es 0 (L.take k))=(List.range' 0 (H8 Es (L.take k))).filterMap (YZ N)∧Dn 0 (Q8 Es 0 (L.take k))=L.take k
 | 0,_=>by simp[Q8,A9,Dn,H8]
 | k+1,h=>by
  obtain ⟨b,c⟩:=Ra hs k (by omega);have hk:k < L.length:=by omega
  obtain ⟨d,f⟩:=hs k hk;obtain ⟨a1,a2⟩:=Yi d;obtain ⟨b1,b2⟩:=Yi f;have g:∀ (a:List St) (s:St),H8 Es (a ++ [s])=H8 Es a+(Dg Es s.cond+Dg Es s.grant):=fun a s=>by simp[H8]
  have i:Dt (Q8 Es 0 (L.take k))=H8 Es (L.take k):=by rw[UH]
  rw[List.take_succ_eq_append_getElem hk,Q9,JI,JJ,i,b,c,g];simp only[Nat.zero_add];have j:∀ m n p:Nat,List.range' 0 (m+(n+p))=List.range' 0 m ++List.range' m n ++List.range' (m+n) p:=fun m n p=>by
   rw[← Nat.add_assoc,← List.range'_append_1,← List.range'_append_1];simp
  generalize L[k]=s at *;refine ⟨?_, ?_⟩
  ·rw[j,List.filterMap_append,List.filterMap_append];show _ ++IV (CU Es s.cond) _ ++IV (CU Es s.grant) (_+AU (CU Es s.cond))=_;rw[a1,KX,b1]
  ·show _ ++ [(⟨s.kind,s.name,LC (CU Es s.cond) _,LC (CU Es s.grant) (_+AU (CU Es s.cond))⟩:St)]=_;rw[a2,KX,b2]
theorem Og:∀ (N M:List Nd) (k:Nat),M.drop k=N→(List.range' k N.length).filterMap (YZ M)=N
 | [],M,k,h=>by simp
 | x ::N,M,k,h=>by
  have h1:M[k]? =some x:=by
   have:=congrArg (fun l=>l[0]?) h;simpa[List.getElem?_drop] using this
  have h2:M.drop (k+1)=N:=by
   have:=congrArg List.tail h;simpa[List.tail_drop] using this
  have e:YZ M k=some (x):=by rw[YZ,h1]
  rw[List.length_cons,List.range'_succ,List.filterMap_cons,e];dsimp only;rw[Og N M (k+1) h2]
theorem Yj (N:List Nd):(List.range' 0 N.length).filterMap (YZ N)=N:=Og N N 0 rfl
theorem ZQ {N:List Nd}{L:List St}(h:Bs N L=true){Es:List Ex}(a:Es.length=N.length)(b:∀ j,(h:j < Es.length)→CP N j Es[j]):A9 0 (Q8 Es 0 L)=N∧Dn 0 (Q8 Es 0 L)=L:=by
 have:=Ra (V4 h a b) L.length NLN;rw[List.take_length,VZ h a b,Yj] at this;exact this
def KS:List Sx→Option Int
 | []=>none
 | x ::X=>if 64 < mx (NF x.cond) (NF x.grant) then some x.at' else KS X
def SO (ss:List ByteArray):List ByteArray:=(Li ss).map Bg
theorem Xg {a K:List ByteArray}(h:Bz a K):K=SO a:=h.unique (FS a)
def Pt.ex:Pt→Ex
 | .int i n=> .int i n
 | .text i s=> .text i s
 | .bool i b=> .bool i b
 | .set i ss=> .set i none 0 0 (SO ss)
 | .name i s=> .name i s
 | .un i op k=> .un i op k.ex
 | .bin i op l r=> .bin i op l.ex r.ex
 | .ite i c t e=> .ite i c.ex t.ex e.ex
def Ps.sx (s:Ps):Sx:=⟨(s.at_:Int),s.kind,s.name,s.cond.map Pt.ex,s.grant.map Pt.ex⟩
def Qw (L:List (Nat × List ByteArray)):List Int:=L.filterMap fun q=>if 64 < (SO q.2).length then some (q.1:Int) else none
theorem KT (a B:List (Nat × List ByteArray)):Qw (a ++B)=Qw a ++Qw B:=by simp[Qw]
def PU (t:ByteArray) (x:QR):List Nd × List St × List Int × Int × Int:=
 if (AW t).code≠0 then ([], [], [],(AW t).code,((AW t).at_:Int)) else match x with
 | .bad q=>([], [], [],4,((CX t.size q).at_:Int))
 | .ok S=>match (Qw (S.flatMap Ps.sets)).head? with
  | some i=>([], [], [],5,i)
  | none=>match KS (S.map Ps.sx) with
   | some i=>([], [], [],6,i)
   | none=>(A9 0 (S.map Ps.sx),Dn 0 (S.map Ps.sx),De (S.map Ps.sx),0,0)
theorem Qx {t:ByteArray}{x:QR}(h:(AW t).code≠0):PU t x=([], [], [],(AW t).code,((AW t).at_:Int)):=by
 unfold PU;rw[if_pos h]
theorem Up {t:ByteArray}{q:List Ae}(h:(AW t).code=0):PU t (.bad q)=([], [], [],4,((CX t.size q).at_:Int)):=by
 unfold PU;rw[if_neg (by omega)]
theorem Qy {t:ByteArray}{S:List Ps}{i:Int}(h:(AW t).code=0)(a:(Qw (S.flatMap Ps.sets)).head? =some i):PU t (.ok S)=([], [], [],5,i):=by
 unfold PU;rw[if_neg (by omega)];simp only[a]
theorem Qz {t:ByteArray}{S:List Ps}{i:Int}(h:(AW t).code=0)(a:(Qw (S.flatMap Ps.sets)).head? =none)(b:KS (S.map Ps.sx)=some i):PU t (.ok S)=([], [], [],6,i):=by
 unfold PU;rw[if_neg (by omega)];simp only[a,b]
theorem SP {t:ByteArray}{S:List Ps}(h:(AW t).code=0)(a:(Qw (S.flatMap Ps.sets)).head? =none)(b:KS (S.map Ps.sx)=none):PU t (.ok S)=(A9 0 (S.map Ps.sx),Dn 0 (S.map Ps.sx),De (S.map Ps.sx),0,0):=by
 unfold PU;rw[if_neg (by omega)];simp only[a,b]
theorem NL (n:Nat):∀ (f:Nat) (l:List UInt8) (out:List Ae),(AG n f l out).toks.length≤out.length+l.length
 | 0,l,out=>by simp[AG]
 | f+1,l,out=>by
  rw[AG];have b:=Ik false l;split
  ·simp
  ·rename_i c r d;rw[d] at b;split
   ·simp
   ·rename_i k m s a g;have h1:=Pb (c ::r);rw[g] at h1;have h2: 1≤a∧a≤(c ::r).length:=⟨h1.1,h1.2.1⟩
    have h:=NL n f ((c ::r).drop a) (out ++ [⟨k,m,Bg s,n - (r.length+1)⟩]);rw[List.length_drop,List.length_append] at h;simp only[List.length_cons,List.length_nil] at *;omega
theorem QA (t:ByteArray):(AW t).toks.length≤4000:=by
 unfold AW;split
 ·simp
 ·have:=NL t.size (t.size+1) (Al t) [];rw[Av] at this;simp only[List.length_nil] at this;omega
theorem G.cnt {k:Nat}{c:List Ae}{p:Pt}(g:G k c p):p.ex.cnt≤c.length:=by
 induction g with
 | up hk g a=>exact a
 | ite ht hu b l m n o q id=>simp only[Pt.ex,Ex.cnt,List.length_cons,List.length_append];omega
 | bin hk d ht f i j=>simp only[Pt.ex,Ex.cnt,List.length_cons,List.length_append];omega
 | cmp d ht f i j=>simp only[Pt.ex,Ex.cnt,List.length_cons,List.length_append];omega
 | not ht g a=>simp only[Pt.ex,Ex.cnt,List.length_cons];omega
 | neg ht g a=>simp only[Pt.ex,Ex.cnt,List.length_cons];omega
 | par ht g hu a=>simp only[List.length_cons,List.length_append];omega
 | size ht hu g b a=>simp only[Pt.ex,Ex.cnt,List.length_cons,List.length_append];omega
 | set ht hc hu=>simp only[Pt.ex,Ex.cnt,List.length_cons,List.length_append];omega
 | num h | text h | name h | tru h | fls h=>simp[Pt.ex,Ex.cnt]
theorem GC.cnt {c:List Ae}{g:Option Pt}(h:GC c g):AU (g.map Pt.ex)≤c.length:=by
 cases h with
 | deny h=>simp[AU]
 | grant h g=>have:=g.cnt;simp only[Option.map_some,AU,List.length_cons];omega
theorem SC.cnt {c:List Ae}{s:Ps}(h:SC c s):AU s.sx.cond+AU s.sx.grant≤c.length:=by
 cases h with
 | let_ h d he g=>have:=g.cnt;simp only[Ps.sx,Option.map_some,Option.map_none,AU,List.length_cons];omega
 | when h b f a=>have:=b.cnt;have:=a.cnt;simp only[Ps.sx,Option.map_some,AU,List.length_cons,List.length_append] at *;omega
 | else_ h a=>have:=a.cnt;simp only[Ps.sx,Option.map_none,AU,List.length_cons] at *;omega
theorem PC.cnt {a:List Ae}{S:List Ps}(h:PC a S):Dt (S.map Ps.sx)+S.length≤a.length:=by
 induction h with
 | nil=>simp[Dt]
 | cons b hu c d=>
  have:=b.cnt;rw[List.map_cons,Cq,List.length_cons,List.length_append,List.length_cons];omega
theorem Xi {X:List Sx}{x:Sx}(h:x∈X):AU x.cond+AU x.grant≤Dt X:=by
 induction X with
 | nil=>cases h
 | cons y X a=>
  rw[Cq];rcases List.mem_cons.1 h with rfl | h
  ·omega
  ·have:=a h;omega
def Zk (ss:List ByteArray):Prop:=(∀ x∈ss,x.size≤maxLen)∧ss.length≤1048576
theorem Xj:∀ (a:List Ae),(∀ t∈a,t.text.size≤maxLen)→(∀ x∈WO a,x.size≤maxLen)∧(WO a).length≤a.length
 | [],_=>⟨fun x h=>(by cases h),by simp[WO]⟩
 | t ::r,h=>by
  obtain ⟨b,c⟩:=Xj r (fun u hu=>h u (List.mem_cons_of_mem _ hu));rw[WO];split
  ·exact ⟨fun x h=>(by cases h),by simp⟩
  ·split
   ·refine ⟨fun x hx=>?_,by simp;omega⟩;rcases List.mem_cons.1 hx with rfl | hx
    ·exact h t (List.mem_cons_self ..)
    ·exact b x hx
   ·exact ⟨b,by simp;omega⟩
theorem LD:∀ (a:List Ae),(∀ t∈a,t.text.size≤maxLen)→a.length≤1048576→∀ q∈DX a,Zk q.2
 | [],_,_,q,h=>by cases h
 | t ::r,h,hl,q,hq=>by
  have b:∀ u∈r,u.text.size≤maxLen:=fun u hu=>h u (List.mem_cons_of_mem _ hu);have c:r.length≤1048576:=by simp at hl;omega
  rw[DX] at hq;split at hq
  ·rcases List.mem_cons.1 hq with rfl | hq
   ·have:=Xj r b;exact ⟨this.1,by show (WO r).length≤_;omega⟩
   ·exact LD r b c q hq
  ·exact LD r b c q hq
theorem DP.ne {a:List Ae}{x:QR}(d:DP a x):∀ S,x= .ok S→S≠ []:=by
 induction d with
 | bad=>intro S h;cases h
 | over=>intro S h;cases h
 | @more a r s x d hk d2 b=>
  intro S h;cases x with
  | bad=>cases h
  | ok T=>cases h;simp
 | last=>intro S h;cases h;simp
theorem Vo (l:List UInt8){k m:Int}{s:List UInt8}{b a:Nat}(h:Dy l= .tok k m s b):BI ⟨k,m,Bg s,a⟩∧s.length≤l.length:=by
 have d:∀ r,CJ r= .tok k m s b→BI ⟨k,m,Bg s,a⟩∧s.length≤r.length:=by
  intro r h;rw[CJ] at h;split at h
  ·cases h
  ·simp only[SU.tok.injEq] at h;obtain ⟨h1,_,h3,_⟩:=h;refine ⟨?_,by rw[← h3,List.length_take];omega⟩;split at h1
   ·rename_i hi;refine .inr (.inr (.inr ⟨.inl h1.symm, ?_⟩));rw[Fb,← h3];refine List.mem_append_left _ (List.mem_append_left _ ?_);simpa[FF] using hi
   ·exact .inr (.inr (.inl h1.symm))
 have f:∀ r,EG r= .tok k m s b→BI ⟨k,m,Bg s,a⟩∧s.length≤r.length:=by
  intro r h;rw[EG] at h;split at h
  ·cases h
  ·simp only[SU.tok.injEq] at h;exact ⟨.inl h.1.symm,by rw[← h.2.2.1];simp⟩
 have ht:∀ r,Du r= .tok k m s b→BI ⟨k,m,Bg s,a⟩∧s.length≤r.length:=by
  intro r h;rw[Du] at h;split at h
  ·cases h
  ·simp only[SU.tok.injEq] at h;exact ⟨.inr (.inl h.1.symm),by rw[← h.2.2.1,List.length_take];omega⟩
 have hs:∀ c r,BM c (c ::r)= .tok k m s b→BI ⟨k,m,Bg s,a⟩∧s.length≤(c ::r).length:=by
  intro c r h;rw[BM] at h;split at h
  ·rename_i h2;simp only[SU.tok.injEq] at h;refine ⟨.inr (.inr (.inr ⟨.inr h.1.symm, ?_⟩)),by rw[← h.2.2.1,List.length_take];omega⟩;rw[Fb,← h.2.2.1];refine List.mem_append_left _ (List.mem_append_right _ ?_);simpa using h2
  ·split at h
   ·rename_i h2;simp only[SU.tok.injEq] at h;refine ⟨.inr (.inr (.inr ⟨.inr h.1.symm, ?_⟩)),by rw[← h.2.2.1];simp⟩;rw[Fb,← h.2.2.1];refine List.mem_append_right _ (List.mem_map.2 ⟨c, ?_,rfl⟩);simpa using h2
   ·cases h
 match l,h with
 | [],h=>cases h
 | c ::r,h=>
  rw[Dy] at h;split at h
  ·exact d _ h
  ·split at h
   ·exact f _ h
   ·split at h
    ·obtain ⟨h1,h2⟩:=ht _ h;exact ⟨h1,by simp;omega⟩
    ·exact hs _ _ h
theorem LG (n:Nat):∀ (f:Nat) (l:List UInt8) (out:List Ae),l.length≤4000→(∀ t∈out,BI t∧t.text.size≤4000)→∀ t∈(AG n f l out).toks,BI t∧t.text.size≤4000
 | 0,l,out,_,h=>h
 | f+1,l,out,hl,h=>by
  rw[AG];have b:=Ik false l;split
  ·exact h
  ·rename_i c r d;rw[d] at b;split
   ·intro t ht;cases ht
   ·rename_i k m s i g;refine LG n f _ _ (by rw[List.length_drop];omega) ?_;intro t ht;rcases List.mem_append.1 ht with ht | ht
    ·exact h t ht
    ·rw[List.mem_singleton.1 ht];obtain ⟨h1,h2⟩:=Vo (c ::r) (a:=n - (r.length+1)) g;refine ⟨h1, ?_⟩;show (Bg s).size≤4000;have e:(Bg s).size=s.length:=by simp[Bg,ByteArray.size]
     rw[e];omega
theorem Vp (t:ByteArray):∀ u∈(AW t).toks,BI u∧u.text.size≤4000:=by
 unfold AW;split
 ·intro u hu;cases hu
 ·exact LG t.size (t.size+1) (Al t) [] (by rw[Av];omega) (fun u hu=>by cases hu)
theorem Abi {N:List Nd}(g:∀ x∈N,Aq x=true)(k:∀ x∈N,x.num≤9223372036854775807){i:Nat}{e:Ex}(h:CP N i e):e.okW:=by
 have d:∀ {j:Nat} {x:Nd},N[j]? =some x→Aq x=true∧x.num≤9223372036854775807:=fun hx=>⟨g _ (List.mem_of_getElem? hx),k _ (List.mem_of_getElem? hx)⟩
 induction h with
 | int h b hk=>
  obtain ⟨f1,f2⟩:=d h;rw[Aq,Bool.and_eq_true,if_pos b] at f1;simp only[Bool.and_eq_true,decide_eq_true_eq] at f1;exact ⟨f1.2.1.1,f2⟩
 | text h b hk=>
  obtain ⟨f1,f2⟩:=d h;rw[Aq,Bool.and_eq_true,if_neg (by omega),if_pos b] at f1;simp only[Bool.and_eq_true,decide_eq_true_eq] at f1;exact f1.2.1.1
 | bool h b hk=>trivial
 | set h b hk a n c=>
  obtain ⟨f1,f2⟩:=d h;rw[Aq,Bool.and_eq_true,if_neg (by omega),if_neg (by omega),if_neg (by omega),if_pos b] at f1;simp only[Bool.and_eq_true,decide_eq_true_eq] at f1;exact f1.2.1.1
 | name h b hk=>
  obtain ⟨f1,f2⟩:=d h;rw[Aq,Bool.and_eq_true,if_neg (by omega),if_neg (by omega),if_neg (by omega),if_neg (by omega),if_pos b] at f1;simp only[Bool.and_eq_true,decide_eq_true_eq] at f1;exact f1.2.1.1
 | attr h b hk=>
  obtain ⟨f1,f2⟩:=d h;rw[Aq,Bool.and_eq_true,if_neg (by omega),if_neg (by omega),if_neg (by omega),if_neg (by omega),if_neg (by omega),if_pos (by omega)] at f1;cases f1.2
 | lett h b hk=>
  obtain ⟨f1,f2⟩:=d h;rw[Aq,Bool.and_eq_true,if_neg (by omega),if_neg (by omega),if_neg (by omega),if_neg (by omega),if_neg (by omega),if_pos (by omega)] at f1;cases f1.2
 | un h b hk hi t it=>exact ⟨b,it⟩
 | bin h b hk hi t u it f=>exact ⟨b,it,f⟩
 | ite h b hk hi t u v it f l=>exact ⟨it,f,l⟩
theorem ZR {a:List ByteArray}(h:EN a=true):SO a=a:=by
 have b:=h;rw[EN,Bool.and_eq_true,Bool.and_eq_true] at b;exact (Xg (K:=a) ⟨b.2.2,fun x=>Iff.rfl⟩).symm
theorem Mn:∀ (e:Ex),e.okW→∀ T p,KI e T p→p.ex.cnt=e.cnt∧Eu p.ex=Eu e∧(∀ b,Fc p.ex b=Fc e b)∧(∀ q∈p.sets,(SO q.2).length≤64)
 | .int _ n,_,T,p,h=>by obtain ⟨t,rfl,h1,h2,rfl⟩:=h;exact ⟨rfl,rfl,fun b=>rfl,fun q hq=>by cases hq⟩
 | .text _ s,_,T,p,h=>by obtain ⟨t,rfl,h1,h2,rfl⟩:=h;exact ⟨rfl,rfl,fun b=>rfl,fun q hq=>by cases hq⟩
 | .bool _ b,_,T,p,h=>by obtain ⟨t,rfl,h1,rfl⟩:=h;exact ⟨rfl,rfl,fun b=>rfl,fun q hq=>by cases hq⟩
 | .set _ _ _ _ ss,ho,T,p,h=>by
  obtain ⟨t,c,u,rfl,h1,h2,h3,rfl⟩:=h;have hs:=ZR ho;have E:EN ss=true:=ho;rw[EN,Bool.and_eq_true,decide_eq_true_eq] at E;refine ⟨rfl,rfl,fun b=>?_,fun q hq=>?_⟩
  ·show [VI (.set _ none 0 0 (SO ss))]= [VI (.set _ _ _ _ ss)]
   rw[hs];rfl
  ·rw[Pt.sets,List.mem_singleton] at hq;subst hq;rw[hs];exact E.1
 | .name _ s,_,T,p,h=>by obtain ⟨t,rfl,h1,h2,rfl⟩:=h;exact ⟨rfl,rfl,fun b=>rfl,fun q hq=>by cases hq⟩
 | .attr ..,_,T,p,h=>by cases h
 | .lett ..,_,T,p,h=>by cases h
 | .un i op k,ho,T,p,h=>by
  have F:=Mn k ho.2;have g:∀ {y:Int} {d:List Ae} {q:Pt},YY y k.op (KI k) d q→∃ a,KI k a q:=fun h=>by
   rcases h with ⟨_,h⟩ | ⟨_,t,d,u,_,_,_,h⟩
   ·exact ⟨_,h⟩
   ·exact ⟨_,h⟩
  obtain ⟨t,a,q,hq,rfl⟩:∃ (t:Ae) (a:List Ae) (q:Pt),KI k a q∧p= .un t.at_ op q:=by
   rcases h with ⟨rfl,t,d,q,rfl,h1,h2,rfl⟩ | ⟨rfl,t,d,q,rfl,h1,h2,rfl⟩ | ⟨rfl,t,u,v,d,q,rfl,h1,h2,h3,h4,rfl⟩
   ·obtain ⟨a,h3⟩:=g h2;exact ⟨t,a,q,h3,rfl⟩
   ·obtain ⟨a,h3⟩:=g h2;exact ⟨t,a,q,h3,rfl⟩
   ·exact ⟨t,d,q,h4,rfl⟩
  obtain ⟨f,j,m,o⟩:=F _ _ hq;exact ⟨by simp[Pt.ex,Ex.cnt,f],by simp[Pt.ex,Eu,j],fun b=>by simp[Pt.ex,Fc,f,m],o⟩
 | .bin i op l r,ho,T,p,h=>by
  have g:∀ {k:Ex} {y:Int} {d:List Ae} {q:Pt},YY y k.op (KI k) d q→∃ a,KI k a q:=fun h=>by
   rcases h with ⟨_,h⟩ | ⟨_,t,d,u,_,_,_,h⟩
   ·exact ⟨_,h⟩
   ·exact ⟨_,h⟩
  obtain ⟨t,H,I,J,K,rfl,h1,h2,h3,rfl⟩:=h;obtain ⟨N,x⟩:=g h2;obtain ⟨O,z⟩:=g h3;obtain ⟨f,j,m,o⟩:=Mn l ho.2.1 _ _ x;obtain ⟨w,A,B,C⟩:=Mn r ho.2.2 _ _ z;refine ⟨by simp[Pt.ex,Ex.cnt,f,w],by simp[Pt.ex,Eu,j,A],fun b=>by simp[Pt.ex,Fc,f,m,w,B],fun q hq=>?_⟩;rw[Pt.sets,List.mem_append] at hq;rcases hq with hq | hq
  ·exact o q hq
  ·exact C q hq
 | .ite i c t e,ho,T,p,h=>by
  obtain ⟨P,Q,R,H,I,S,J,K,U,rfl,a1,a2,a3,b1,b2,b3,rfl⟩:=h;obtain ⟨f,j,m,o⟩:=Mn c ho.1 _ _ b1;obtain ⟨w,A,B,C⟩:=Mn t ho.2.1 _ _ b2;obtain ⟨x,z,L,M⟩:=Mn e ho.2.2 _ _ b3;refine ⟨by simp[Pt.ex,Ex.cnt,f,w,x],by simp[Pt.ex,Eu,j,A,z],fun b=>by simp[Pt.ex,Fc,f,m,w,B,x,L],fun q hq=>?_⟩;rw[Pt.sets] at hq;simp only[List.mem_append] at hq;rcases hq with hq | hq | hq
  ·exact o q hq
  ·exact C q hq
  ·exact M q hq
set_option maxRecDepth 100000
set_option maxHeartbeats 1600000
def Oi (N:List Nd) (L:List St) (s:ByteArray):Prop:=
 (Bs N L=false∧s=⟨#[]⟩)∨(Bs N L=true∧∃ Es:List Ex,Es.length=N.length∧(∀ j,(h:j < Es.length)→CP N j Es[j])∧s=Gj Es L)
theorem Yw (w:World):Pr w.heap.size w.heap.size ⟨#[]⟩ (w.alloc (.cells #[.pointer none,.slice none 0 0] 41)):=by
 exact Or.inl ⟨NLN,.slice none 0 0,(Aj.new w #[.pointer none,.slice none 0 0] 41).out,World.ownsRow_nil _ _ _ _,by simp[Value.ownBlock]⟩
theorem Np (B b:Nat)(a:World)(A:Cw a)(C:QP a)(E:a.heap.size≤B)(Es:List Ex)(j:Nat)(s:St)(hs:Yu a Es s)(acc:ByteArray)(w:World)(i:Below B a w)(h:Pr B b acc w)(k:acc.size≤30000000000):
  Calls Tryz.prog 13 #[.pointer (some ⟨b,0,none⟩),.agg #[.int .i64 j,.int .i64 s.kind,.string s.name,Ee Es s.cond,Ee Es s.grant]] w (Fo B b (acc ++KJ Es s) w):=by
 have o:∀ e:Ex,e.fit a→Dk B b a e.val e.put e.cnt:=BC B b a A C E;have z:∀ g,(g= -1∨Z3 a Es g)→∃ v,v=Ee Es g∧(v= .nilIface∨∃ t u,v= .iface t u)∧TC B b a v (Rc Es g):=fun g d=>by
  rcases d with rfl | ⟨m,e,rfl,h1,h2,h3⟩
  ·exact ⟨_,rfl,.inl rfl,Nm B b a⟩
  ·obtain ⟨t,u,c⟩:=e.form;refine ⟨.iface t u,by rw[PF h1,c],.inr ⟨t,u,rfl⟩, ?_⟩;have:=Nn B b a t u e.put e.cnt (c ▸ o e h2) h3;rw[Bt] at this;rw[Rc,if_neg (by omega),Fy h1];exact this
 rcases hs with ⟨f,p,⟨m,e,hm,h1,h2,h3⟩,F⟩ | ⟨f,⟨m,e,hm,h1,h2,h3⟩,l⟩ | ⟨f,p,l⟩
 ·obtain ⟨t,u,c⟩:=e.form;rw[KJ,if_pos f,f,F,hm,PF h1,Fy h1,c,FL];have:=No B b a j s.name t u e.put e.cnt (c ▸ o e h2) h3 (e.put_size h2 0) p acc w i h k;rw[Bt] at this;exact this
 ·obtain ⟨t,u,c⟩:=e.form;have d:=Jg l;obtain ⟨v,q,r,n⟩:=z _ l;rw[KJ,if_neg (by omega),if_pos f,f,hm,PF h1,Fy h1,c,← q];rcases r with rfl | ⟨x,y,rfl⟩
  ·have:=KM B b a j s.name t u e.put e.cnt (c ▸ o e h2) h3 (e.put_size h2 0) (Rc Es s.grant) n d acc w i h k;rw[Bt] at this;exact this
  ·have:=KN B b a j s.name t u e.put e.cnt (c ▸ o e h2) h3 (e.put_size h2 0) x y (Rc Es s.grant) n d acc w i h k;rw[Bt] at this;exact this
 ·have d:=Jg l;obtain ⟨v,q,r,n⟩:=z _ l;rw[KJ,if_neg (by omega),if_neg (by omega),f,p,FL,← q];rcases r with rfl | ⟨x,y,rfl⟩
  ·exact KO B b a j s.name (Rc Es s.grant) n d acc w i h k
  ·exact KQ B b a j s.name x y (Rc Es s.grant) n d acc w i h k
theorem Ol (Es:List Ex)(k:Int):Ee Es k= .nilIface∨∃ t u,Ee Es k= .iface t u:=by
 rw[Ee];split
 ·exact .inl rfl
 ·split
  ·exact .inr (Ex.form _)
  ·exact .inl rfl
theorem Th (a b:Option Addr)(n c m d:Nat)(N:List Nd)(L:List St)(w:World)(h1:Fe w a n c N)(h2:KU w b m d L)(aa:Cw w)(ab:QP w)(ac:∀ x∈N,x.num≤9223372036854775807):
  Calls Tryz.prog 5 #[.agg #[.slice a n c,.slice b m d]] w fun r w'=>(∃ s,r= .returned (.string s)∧Oi N L s)∧Below w.heap.size w w':=by
 have I:=Ab h1.len;have z:=Ab h2.len;have av:=Ab ac;have ad:=Aj.new w #[.slice a n c,.slice b m d] 26;have j:=(Below.refl w.heap.size w).alloc NLN (.cells #[.slice a n c,.slice b m d] 26);have J:=h1.below j NLN;have K:=h2.below j NLN;have M:=aa.below j NLN;have ae:=ab.below j NLN;clear h1 h2 aa ab ac;go_enter Tryz.func5,Tryz.ntmps5
 go_wp2_with fail
 refine (JS _ _ _ _ _ _ N L _ J K M).mono ?_;rintro r f ⟨rfl,l⟩;have O:=j.trans (l.mono j.size);have af:=J.below l NLN;have ag:=K.below l NLN;have aw:=M.below l NLN;have ax:=ae.below l NLN;have ah:=ad.after l NLN;clear J K M ae ad j l;have ay:=O.size;have aQ:w.heap.size < f.heap.size:=ah.lt;dsimp only;cases t:Bs N L with
 | false=>
  have P:=Ab t;clear t;go_wp2_with fail
  go_ret
  exact ⟨⟨_,rfl,.inl ⟨Aa P,rfl⟩⟩,O⟩
 | true=>
  have P:=Ab t;have p:=Ab (FK t);clear t;have q:=(Below.refl f.heap.size f).alloc NLN (.cells #[.pointer none,.slice none 0 0] 41);have ai:=Yw f;have Q:=ah.after q NLN;have az:(f.alloc (.cells #[.pointer none,.slice none 0 0] 41)).cell? ⟨w.heap.size,0,none⟩=some (.slice a n c):=Q.cell 0;have aA:(f.alloc (.cells #[.pointer none,.slice none 0 0] 41)).cell? ⟨w.heap.size,1,none⟩=some (.slice b m d):=Q.cell 1;have aj:=Ab (JR a b n c m d N L f _ af q (ag.below q NLN) (fun e=>e.fit f) (Nl (Aa p).fields (Aa av) (Aa p).kids) (by rw[← Aa I];exact (Aa p).roots));go_wp2_with fail
  refine (Aa aj).mono ?_;rintro r R ⟨⟨v,Es,rfl,S,T,hf,A⟩,U⟩;have aB:(f.alloc (.cells #[.pointer none,.slice none 0 0] 41)).heap.size=f.heap.size+1:=by simp
  have aC:Pr f.heap.size f.heap.size ⟨#[]⟩ R:=ai.below U;have V:Below f.heap.size f R:=q.trans (U.mono q.size);have W:=Ab (UP (Aa p) (by rw[S,Aa I]) T hf);have aD:=Ab T;have aE:=Ab (show Es.length=N.length by rw[S,Aa I]);have B:=Ab (show 1≤m∧m≤600 by rw[← Aa z];exact ⟨(Aa p).m0,(Aa p).m⟩);rw[aB] at A;obtain ⟨aR,aS,rfl,hx⟩:=Af A;obtain ⟨g,rfl,aT,ak⟩:=hx (by have:=Aa B;omega);obtain ⟨aU,al,_⟩:=Rx A;have aF:=Ab ak;have aG:g≠f.heap.size:=by omega
  have aV:m≤600:=(Aa B).2;clear S T hf hx ak aj A U ai az aA Q q ag af;dsimp only;go_wp2_with fail
  go_loopw [12] (fun i wr=>∃ k:Nat,k≤m∧i= .int .i64 k∧Pr f.heap.size f.heap.size (Gj Es (L.take k)) wr∧Kp f.heap.size f.heap.size R wr) (fun i _=>m - (intOf i).toNat)
  case atStart=>exact ⟨0,by omega,rfl,aC,Kp.refl _ _ _⟩
  case round=>
   obtain ⟨k,hk,rfl,C,y⟩:=hrel;by_cases X:k < m
   ·have aW:(k:Int) < (m:Int):=by omega
    have E:k < L.length:=by rw[Aa z];exact X
    have Y:=y.row al aG (by decide);have o:∀ r,r < 5→∀ u,(Mt Es k L[k])[r]? =some u→wr.cell? ⟨g,k * 5+r,none⟩=some u:=fun r aH u hu=>by
     rw[Y.cell,← al.cell];refine Aa aF _ _ ?_;rw[Yt Es L 0 k E r aH,Nat.zero_add];exact hu
    have ao:=o 0 (by decide) _ rfl;have c1:=o 1 (by decide) _ rfl;have c2:=o 2 (by decide) _ rfl;have c3:=o 3 (by decide) _ rfl;have c4:=o 4 (by decide) _ rfl;simp only[Nat.add_zero] at ao;have aI:=y.size;have aJ:=V.size;have F:=Ab (show (Gj Es (L.take k)).size≤30000000000 by
     have h1:=Mu (w:=f) (Es:=Es) (L:=L.take k) (fun s hs=>Aa W s (List.mem_of_mem_take hs));have h2:=Aa B;rw[List.length_take] at h1;omega)
    have ap:=Ab (Nat.le_trans aJ aI);have H:=Ab (Rv Es L k E);have h:=Ab (fun Z (aK:Below f.heap.size f Z) (aL:Pr f.heap.size f.heap.size (Gj Es (L.take k)) Z)=>Np f.heap.size f.heap.size f aw ax NLN Es k L[k] (Aa W _ (List.getElem_mem E)) _ Z aK aL (Aa F));have aq:=Ab X;have aX:=Y.lt;generalize Gj Es (L.take k)=acc at C H h F;generalize L[k]=s at ao c1 c2 c3 c4 H h o;generalize KJ Es s=st at H h;clear o Y X E;have ar:=Ol Es s.cond;have au:=Ol Es s.grant;generalize Ee Es s.cond=aY at c3 h ar;generalize Ee Es s.grant=aZ at c4 h au;generalize s.kind=a0 at c1 h;generalize s.name=nm at c2 h;rcases ar with rfl | ⟨a1,u3,rfl⟩ <;> rcases au with rfl | ⟨a2,u4,rfl⟩
    all_goals
     go_wp2_with fail
     refine (Aa h _ ?_ (C.alloc _)).mono ?_
     ·exact (V.trans y.low).alloc (Aa ap) _
     rintro r a3 ⟨rfl,aM,aN⟩;dsimp only;go_wp2_with fail
     go_roundw
     case rel=>exact ⟨k+1,Aa aq,by go_num,by rw[Aa H];exact aM,(y.trans (Kp.alloc0 wr _ (Aa ap))).trans aN⟩
     case measure=>have:=Aa aq;simp[intOf];omega
   ·have e:k=m:=by omega
    subst e;have aO:=Ab (show Gj Es (L.take k)=Gj Es L by rw[← Aa z,List.take_length]);have F:=Ab (show (Gj Es L).size≠0 from Z4 (w:=f) (by rw[Aa z];exact (Aa B).1) (Aa W));rw[Aa aO] at C;go_wp2_with fail
    refine (Tu _ _ _ _ C (Aa F)).mono ?_;rintro r a4 ⟨rfl,aP⟩;dsimp only;go_wp2_with fail
    go_ret
    exact ⟨⟨_,rfl,.inr ⟨Aa P,Es,Aa aE,Aa aD,rfl⟩⟩,O.trans (((V.trans y.low).trans aP).mono ay)⟩
set_option maxHeartbeats 800000
theorem TY (N:List Nd)(L:List St):EP N L=true↔∃ S,Cj (N.map Nd.kids) N.length [] 0=some S∧Ar S=L.flatMap An:=by
 rw[EP];cases h:Cj (N.map Nd.kids) N.length [] 0 with
 | none=>simp
 | some S=>simp
theorem Oj (N:List Nd)(L:List St):Bs N L=true↔(N.length≤4000∧1≤L.length∧L.length≤600)∧N.all Aq=true∧IA N L:=by
 rw[← TU,YR,← TY,Bs];simp only[Bool.and_eq_true,decide_eq_true_eq];constructor
 ·rintro ⟨⟨⟨h1,h2,h3⟩,h4⟩,h5⟩;exact ⟨⟨h1,h2⟩,h4,h3,h5⟩
 ·rintro ⟨⟨h1,h2⟩,h4,h3,h5⟩;exact ⟨⟨⟨h1,h2,h3⟩,h4⟩,h5⟩
theorem TZ {n m:Nat}{N:List Nd}{L:List St}{e:Ending}(h:Eb n m N L e)(a:N.length=n)(hm:L.length=m):e= .returned (.bool (Bs N L)):=by
 obtain ⟨b,rfl,c⟩:=h;have:b=Bs N L:=by
  rw[Bool.eq_iff_iff,c,Oj,a,hm]
 rw[this]
theorem FH (a b:Option Addr)(n c m d:Nat)(N:List Nd)(L:List St)(w:World)(h1:Fe w a n c N)(h2:KU w b m d L):
  Calls Tryz.prog 7 #[.agg #[.slice a n c,.slice b m d]] w fun e w'=>e= .returned (.bool (Bs N L))∧Below w.heap.size w w':=by
 have f:=(Below.refl w.heap.size w).alloc NLN (.cells #[.slice a n c,.slice b m d] 26);have g:=Ab h1.len;have h:=Ab h2.len;go_enter Tryz.func7,Tryz.ntmps7
 go_wp2_with (go_at_call 16;refine (Sj _ _ _ _ _ _ N L _ (h1.below f NLN) (h2.below f NLN)).mono ?_;rintro e k ⟨he,i⟩;have j:=TZ he (Aa g) (Aa h);subst j;clear he)
 go_ret
 exact ⟨rfl,f.trans (i.mono f.size)⟩
def Rb (Es:List Ex) (s:St):Sw:=⟨s.kind,s.name,CU Es s.cond,CU Es s.grant⟩
theorem Mo {Es:List Ex}{N:List Nd}(a:Es.length=N.length){k:Int}(h: 0≤k∧k < N.length):∃ e,CU Es k=some e∧e∈Es∧Es[k.toNat]? =some e:=by
 have hk:k.toNat < Es.length:=by omega
 exact ⟨Es[k.toNat],by rw[CU,if_neg (by omega),List.getElem?_eq_getElem hk],List.getElem_mem hk,List.getElem?_eq_getElem hk⟩
theorem Px {Es:List Ex}{k:Int}{e:Ex}(h:CU Es k=some e):WB Es k=e.pr:=by
 unfold CU at h;split at h
 ·cases h
 ·rw[WB,h]
theorem ZS {Es:List Ex}{N:List Nd}(a:Es.length=N.length){k:Int}(h:k= -1∨(0≤k∧k < N.length)):Rc Es k=ZN (CU Es k):=by
 rcases h with rfl | h
 ·rfl
 ·obtain ⟨e,he,-,-⟩:=Mo a h;rw[Rc,if_neg (by omega),Px he,he];rfl
theorem AbY {N:List Nd}{L:List St}(d:Bs N L=true)(n:∀ x∈N,x.num≤9223372036854775807){Es:List Ex}(c:Es.length=N.length)(o:∀ j,(h:j < Es.length)→CP N j Es[j]):∀ s∈L,(Rb Es s).okW∧(Rb Es s).pr=KJ Es s:=by
 have f:=FK d;have p:BK L=true:=by
  simp only[Bs,Bool.and_eq_true] at d;exact d.1.1.2.2
 have ok:∀ e∈Es,e.okW:=fun e he=>by
  obtain ⟨j,q,rfl⟩:=List.getElem_of_mem he;exact Abi f.fields n (o j q)
 intro s hs;obtain ⟨i,k⟩:=f.roots s hs;have b:=It p s hs;have l:okG (CU Es s.grant):=by
  rcases k with e | h
  ·rw[e];trivial
  ·obtain ⟨e,he,hm,-⟩:=Mo c h;rw[he];exact ok e hm
 have m:=ZS c k;rcases f.stm s hs with ⟨a,t,g,r⟩ | ⟨a,g⟩ | ⟨a,g⟩
 ·obtain ⟨e,he,hm,-⟩:=Mo c (i.resolve_left (by omega));rw[DB,if_pos a,Bool.and_eq_true] at b;refine ⟨.inl ⟨a,b.1,⟨e,he,ok e hm⟩,by show CU Es s.grant=none;rw[r];rfl⟩, ?_⟩;rw[Sw.pr,KJ];show (if s.kind=1 then _ else _) ++_=_;rw[if_pos a,if_pos a,Px he];show _ ++VX (CU Es s.cond) ++_=_;rw[he];rfl
 ·obtain ⟨e,he,hm,-⟩:=Mo c (i.resolve_left (by omega));rw[DB,if_neg (by omega),if_pos a,decide_eq_true_eq] at b;refine ⟨.inr (.inl ⟨a,Km b,⟨e,he,ok e hm⟩,l⟩), ?_⟩;rw[Sw.pr,KJ];show (if s.kind=1 then _ else if s.kind=2 then _ else _) ++_=_;rw[if_neg (by omega),if_pos a,if_neg (by omega),if_pos a,Px he,m];show _ ++VX (CU Es s.cond) ++_ ++_ ++_=_;rw[he];rfl
 ·rw[DB,if_neg (by omega),if_neg (by omega),if_pos a,Bool.and_eq_true,decide_eq_true_eq] at b;refine ⟨.inr (.inr ⟨a,Km b.1,by show CU Es s.cond=none;rw[g];rfl,l⟩), ?_⟩;rw[Sw.pr,KJ];show (if s.kind=1 then _ else if s.kind=2 then _ else _) ++_=_;rw[if_neg (by omega),if_neg (by omega),if_neg (by omega),if_neg (by omega),m];rfl
theorem UI (Es:List Ex):∀ (L:List St),1≤L.length→BK L=true→UG (L.map (Rb Es))
 | [],h,_=>by simp at h
 | [s],_,h=>by
  simp only[BK,Bool.and_eq_true,List.isEmpty_nil,beq_iff_eq,decide_eq_true_eq] at h;exact h.1.2
 | s ::t ::L,_,h=>by
  simp only[BK,Bool.and_eq_true] at h;refine ⟨fun e=>?_,UI Es (t ::L) (by simp) (by simp only[BK,Bool.and_eq_true];exact h.2)⟩;have h1:=h.1.2;have e':s.kind=3:=e;simp[e'] at h1
theorem Yk {Es:List Ex} :∀ (L:List St),(∀ s∈L,(Rb Es s).pr=KJ Es s)→Al (Gj Es L)=prX (L.map (Rb Es))
 | [],_=>by simp[Gj,CV,prX,Al]
 | s ::L,h=>by
  have a:=Yk (Es:=Es) L (fun x hx=>h x (List.mem_cons_of_mem _ hx));rw[Gj] at a;rw[Gj,List.map_cons,CV,Ap,a,List.map_cons,prX,h s (List.mem_cons_self ..)]
theorem Yl {Es:List Ex} :∀ {L:List St} {i:Nat} {x:Sx},x∈Q8 Es i L→∃ s∈L,x.cond=CU Es s.cond∧x.grant=CU Es s.grant
 | s ::L,i,x,h=>by
  rw[Q8,List.mem_cons] at h;rcases h with rfl | h
  ·exact ⟨s,List.mem_cons_self ..,rfl,rfl⟩
  ·obtain ⟨s',h1,h2⟩:=Yl h;exact ⟨s',List.mem_cons_of_mem _ h1,h2⟩
structure Acs (x y:Sx):Prop where
 kind:x.kind=y.kind
 name:x.name=y.name
 c1:AU x.cond=AU y.cond
 c2:AU x.grant=AU y.grant
 f1:∀ b,IV x.cond b=IV y.cond b∧LC x.cond b=LC y.cond b
 f2:∀ b,IV x.grant b=IV y.grant b∧LC x.grant b=LC y.grant b
 d1:NF x.cond=NF y.cond
 d2:NF x.grant=NF y.grant
def V5:List Sx→List Sx→Prop
 | [], []=>True
 | x ::X,y ::Y=>Acs x y∧V5 X Y
 | _,_=>False
theorem V5.num:∀ {X Y:List Sx},V5 X Y→∀ b,A9 b X=A9 b Y∧Dn b X=Dn b Y
 | [], [],_,b=>⟨rfl,rfl⟩
 | x ::X,y ::Y,h,b=>by
  obtain ⟨h1,h2⟩:=h;obtain ⟨a,c⟩:=V5.num h2 (b+AU y.cond+AU y.grant);refine ⟨?_, ?_⟩
  ·rw[A9,A9,h1.c1,h1.c2,a,(h1.f1 b).1,(h1.f2 _).1]
  ·rw[Dn,Dn,h1.c1,h1.c2,c,h1.kind,h1.name,(h1.f1 b).2,(h1.f2 _).2]
theorem UJ {a:Option Ex}(d:okG a){p:Option Pt}(h:ZO a p):AU (p.map Pt.ex)=AU a∧(∀ b,IV (p.map Pt.ex) b=IV a b∧LC (p.map Pt.ex) b=LC a b)∧NF (p.map Pt.ex)=NF a∧∀ q∈OI p,(SO q.2).length≤64:=by
 match a,p,h with
 | none,none,_=>exact ⟨rfl,fun b=>⟨rfl,rfl⟩,rfl,fun q hq=>by cases hq⟩
 | some e,some p,⟨T,h⟩=>
  obtain ⟨c,f,g,i⟩:=Mn e d T p h;exact ⟨c,fun b=>⟨g b,by show ((b+p.ex.cnt - 1 :Nat):Int)=_;rw[c];rfl⟩,f,i⟩
theorem Sw.okG {x:Sw}(h:x.okW):okG x.cond∧okG x.grant:=by
 rcases h with ⟨h1,h2,⟨e,h3,h4⟩,h5⟩ | ⟨h1,h2,⟨e,h3,h4⟩,h5⟩ | ⟨h1,h2,h3,h5⟩
 ·rw[h3,h5];exact ⟨h4,trivial⟩
 ·rw[h3];exact ⟨h4,h5⟩
 ·rw[h3];exact ⟨trivial,h5⟩
theorem UK (Es:List Ex):∀ (L:List St) (i:Nat) (S:List Ps),(∀ s∈L,(Rb Es s).okW)→ZP (L.map (Rb Es)) S→V5 (S.map Ps.sx) (Q8 Es i L)∧∀ q∈S.flatMap Ps.sets,(SO q.2).length≤64
 | [],_, [],_,_=>⟨trivial,fun q hq=>by cases hq⟩
 | s ::L,i,p ::S,ho,h=>by
  obtain ⟨h1,h2⟩:=h;obtain ⟨a1,a2,a3,a4⟩:=h1;obtain ⟨a,b⟩:=UK Es L (i+1) S (fun x hx=>ho x (List.mem_cons_of_mem _ hx)) h2;obtain ⟨c,d⟩:=Sw.okG (ho s (List.mem_cons_self ..));obtain ⟨b1,b2,b3,b4⟩:=UJ c a3;obtain ⟨c1,c2,c3,c4⟩:=UJ d a4;refine ⟨⟨⟨a1,a2,b1,c1,b2,c2,b3,c3⟩,a⟩,fun q hq=>?_⟩;rw[List.flatMap_cons,List.mem_append,Ps.sets,List.mem_append] at hq;rcases hq with (hq | hq) | hq
  ·exact b4 q hq
  ·exact c4 q hq
  ·exact b q hq
theorem Fj (K:List (List Int))(m:Nat)(top:Int):AY K (m+1) top=((K.getD top.toNat []).foldl (fun d k=>max d (AY K m k)) 0)+1:=rfl
theorem Ym {N:List Nd}{i:Nat}{e:Ex}(h:CP N i e):∀ n,i < n→((AY (N.map Nd.kids) n (i:Int):Nat):Int)=Eu e:=by
 have K:∀ {i:Nat} {x:Nd} {ks:List Int},N[i]? =some x→x.kids=ks→(N.map Nd.kids).getD ((i:Int)).toNat []=ks:=fun hx hk=>by
  rw[List.getD_eq_getElem?_getD,Int.toNat_natCast,List.getElem?_map,hx];exact hk
 have d:∀ a b:Nat,((max a b:Nat):Int)=mx (a:Int) (b:Int):=fun a b=>by unfold mx;split <;> omega
 induction h with
 | int h c hk | text h c hk | bool h c hk | set h c hk | name h c hk | attr h c hk | lett h c hk=>
  intro n f;obtain ⟨m,rfl⟩:∃ m,n=m+1:=⟨n - 1,by omega⟩
  rw[Fj,K h hk];rfl
 | un h c hk hi t it=>
  intro n f;obtain ⟨m,rfl⟩:∃ m,n=m+1:=⟨n - 1,by omega⟩
  rw[Fj,K h hk,List.foldl_cons,List.foldl_nil,Int.natCast_add,d,it m (by omega)];rfl
 | bin h c hk hi t u it g=>
  intro n f;obtain ⟨m,rfl⟩:∃ m,n=m+1:=⟨n - 1,by omega⟩
  rw[Fj,K h hk,List.foldl_cons,List.foldl_cons,List.foldl_nil,Int.natCast_add,d,d,it m (by omega),g m (by omega)];rfl
 | ite h c hk hi t u v it g j=>
  intro n f;obtain ⟨m,rfl⟩:∃ m,n=m+1:=⟨n - 1,by omega⟩
  rw[Fj,K h hk,List.foldl_cons,List.foldl_cons,List.foldl_cons,List.foldl_nil,Int.natCast_add,d,d,d,it m (by omega),g m (by omega),j m (by omega)];rfl
theorem Oh {N:List Nd}{Es:List Ex}(a:Es.length=N.length)(b:∀ j,(h:j < Es.length)→CP N j Es[j]){k:Int}(hk:k= -1∨(0≤k∧k < N.length))(c: 0≤k→AY (N.map Nd.kids) N.length k≤64):NF (CU Es k)≤64:=by
 rcases hk with rfl | h
 ·show (0 :Int)≤64;decide
 ·obtain ⟨e,he,-,hm⟩:=Mo a h;obtain ⟨j,d⟩:=List.getElem?_eq_some_iff.1 hm;have:=Ym (b k.toNat j) N.length (by omega);rw[d,show ((k.toNat:Nat):Int)=k by omega] at this;have h6:=c h.1;rw[he];show Eu e≤64;omega
theorem Re:∀ {X Y:List Sx},V5 X Y→(∀ y∈Y,NF y.cond≤64∧NF y.grant≤64)→KS X=none
 | [], [],_,_=>rfl
 | x ::X,y ::Y,h,hd=>by
  obtain ⟨h1,h2⟩:=h;obtain ⟨d1,d2⟩:=hd y (List.mem_cons_self ..);rw[KS,if_neg (by
   rw[h1.d1,h1.d2];have:=(LA (NF y.cond) (NF y.grant)).2.2;omega)]
  exact Re h2 (fun a b=>hd a (List.mem_cons_of_mem _ b))
theorem Yn {L:List (Nat × List ByteArray)}(h:∀ q∈L,(SO q.2).length≤64):Qw L= []:=by
 rw[Qw,List.filterMap_eq_nil_iff];intro q hq;rw[if_neg (by have:=h q hq;omega)]
def En (a b:List Int):Prop:=∃ l,a.Perm l∧l.Sublist b
theorem En.app {a b c d:List Int}(h:En a b)(k:En c d):En (a ++c) (b ++d):=by
 obtain ⟨l,h1,h2⟩:=h;obtain ⟨m,f,g⟩:=k;exact ⟨l ++m,h1.append f,h2.append g⟩
theorem En.mono {a b c:List Int}(h:En a b)(k:b.Sublist c):En a c:=by
 obtain ⟨l,h1,h2⟩:=h;exact ⟨l,h1,h2.trans k⟩
theorem En.mid {a b c:List Int}(i:Int)(h:En a (b ++c)):En (a ++ [i]) (b ++i ::c):=by
 obtain ⟨l,h1,h2⟩:=h;obtain ⟨d,f,rfl,g,j⟩:=List.sublist_append_iff.1 h2;refine ⟨d ++i ::f,((h1.append_right [i]).trans ?_),g.append (j.cons_cons i)⟩;exact (List.perm_append_comm (l₁:=d ++f) (l₂:= [i])).trans (by rw[List.singleton_append];exact List.perm_middle.symm)
theorem En.nodup {a b:List Int}(h:En a b)(c:b.Nodup):a.Nodup∧∀ i∈a,i∈b:=by
 obtain ⟨l,h1,h2⟩:=h;exact ⟨(h1.nodup_iff).2 (c.sublist h2),fun i hi=>h2.subset ((h1.mem_iff).1 hi)⟩
def UL (c:List Ae):List Int:=c.map fun t=>(t.at_:Int)
theorem Fk (a b:List Ae):UL (a ++b)=UL a ++UL b:=List.map_append ..
theorem A8 (t:Ae)(b:List Ae):UL (t ::b)=(t.at_:Int) ::UL b:=rfl
theorem G.places {k:Nat}{c:List Ae}{p:Pt}(g:G k c p):En (Jw p.ex) (UL c):=by
 induction g with
 | up hk g f=>exact f
 | @ite t u v a b d r s w ht hu l x y z m n id=>
  have h:=En.mid (b:= []) (c:=(UL a ++UL b) ++UL d) (t.at_:Int) ((m.app n).app id);refine En.mono h ?_;rw[A8,Fk,A8,Fk,A8,List.nil_append,List.append_assoc];exact .cons_cons _ ((List.Sublist.refl _).append (.cons _ ((List.Sublist.refl _).append (.cons _ (.refl _)))))
 | bin hk o ht q i j=>rw[Fk,A8];exact En.mid _ (i.app j)
 | cmp o ht q i j=>rw[Fk,A8];exact En.mid _ (i.app j)
 | not ht g f=>rw[A8];exact En.mid (b:= []) _ f
 | neg ht g f=>rw[A8];exact En.mid (b:= []) _ f
 | par ht g hu f=>rw[A8,Fk];exact f.mono (.cons _ (List.sublist_append_left _ _))
 | size ht hu g l f=>rw[A8,A8,Fk];exact En.mid (b:= []) _ (f.mono (.cons _ (List.sublist_append_left _ _)))
 | @set t u c ht hc hu=>rw[A8];exact ⟨[(t.at_:Int)],.refl _,.cons_cons _ (List.nil_sublist _)⟩
 | num h | text h | name h | tru h | fls h=>exact ⟨_,.refl _,.refl _⟩
theorem GC.places {c:List Ae}{g:Option Pt}(h:GC c g):En (PT (g.map Pt.ex)) (UL c):=by
 cases h with
 | deny h=>exact ⟨[],.refl _,List.nil_sublist _⟩
 | grant h g=>rw[A8];exact g.places.mono (.cons _ (.refl _))
theorem SC.places {c:List Ae}{s:Ps}(h:SC c s):En (PT s.sx.cond ++PT s.sx.grant) (UL c):=by
 cases h with
 | let_ h d he g=>
  rw[A8,A8,A8];show En (_ ++ []) _;rw[List.append_nil];exact g.places.mono (.cons _ (.cons _ (.cons _ (.refl _))))
 | when h b f a=>
  rw[A8,Fk,A8];exact (b.places.app a.places).mono (.cons _ ((List.Sublist.refl _).append (.cons _ (.refl _))))
 | else_ h a=>
  rw[A8];exact a.places.mono (.cons _ (.refl _))
theorem PC.places {a:List Ae}{S:List Ps}(h:PC a S):En (De (S.map Ps.sx)) (UL a):=by
 induction h with
 | nil=>exact ⟨[],.refl _,.refl _⟩
 | cons b hu d c=>
  rw[Fk,A8,List.map_cons,De];exact (b.places.app c).mono ((List.Sublist.refl _).append (.cons _ (.refl _)))
theorem Pn {N:List Nd}{L:List St}{t:ByteArray}(a:Bs N L=true)(n:∀ x∈N,x.num≤9223372036854775807)(ht:Oi N L t)(h4:t.size≤4000):
  ∃ S,DP (AW t).toks (.ok S)∧∃ P,PU t (.ok S)=(N,L,P,0,0)∧P.length=N.length∧P.Nodup∧∀ i∈P,0≤i∧i < t.size:=by
 rcases ht with ⟨h,_⟩ | ⟨_,Es,b,c,rfl⟩
 ·rw[a] at h;cases h
 have f:=FK a;have o:BK L=true:=by
  simp only[Bs,Bool.and_eq_true] at a;exact a.1.1.2.2
 have so:=AbY a n b c;obtain ⟨h0,S,p,d⟩:=Yd (X:=L.map (Rb Es)) (Yk L (fun s hs=>(so s hs).2)) h4 (fun x hx=>by
  obtain ⟨s,hs,rfl⟩:=List.mem_map.1 hx;exact (so s hs).1) (UI Es L f.m0 o)
 obtain ⟨g,q⟩:=UK Es L 0 S (fun s hs=>(so s hs).1) p;have r:=((Oj N L).1 a).2.2;have v:KS (S.map Ps.sx)=none:=Re g (fun y hy=>by
  obtain ⟨s,hs,e1,e2⟩:=Yl hy;rw[e1,e2];have j:∀ k:Int,(k=s.cond∨k=s.grant)→0≤k→AY (N.map Nd.kids) N.length k≤64:=fun k hk h0=>r.2.2.2 k (List.mem_flatMap.2 ⟨s,hs,by
   rw[As,List.mem_append];rcases hk with rfl | rfl
   ·exact .inl (by rw[if_pos h0];exact List.mem_singleton.2 rfl)
   ·exact .inr (by rw[if_pos h0];exact List.mem_singleton.2 rfl)⟩)
  exact ⟨Oh b c (f.roots s hs).1 (j _ (.inl rfl)),Oh b c (f.roots s hs).2 (j _ (.inr rfl))⟩)
 have w:(Qw (S.flatMap Ps.sets)).head? =none:=by rw[Yn q];rfl
 obtain ⟨l,z⟩:=g.num 0;obtain ⟨m,A⟩:=ZQ a b c;refine ⟨S,d,De (S.map Ps.sx),by rw[SP h0 w v,l,z,m,A],by rw[Gx,← EF _ 0,l,m], ?_⟩;obtain ⟨B,lt⟩:=VY (Gj Es L);have C:(UL (AW (Gj Es L)).toks).Nodup:=by
  rw[UL,List.Nodup,List.pairwise_map];exact B.imp (fun h=>by omega)
 obtain ⟨E,F⟩:=(d.cut S rfl).places.nodup C;refine ⟨E,fun i hi=>?_⟩;obtain ⟨u,hu,rfl⟩:=List.mem_map.1 (F i hi);have:=lt u hu;show 0≤(u.at_:Int)∧(u.at_:Int) < _;omega
def ndS (x:Nd):Prop:=okN x∧x.text.size≤1048576∧x.names.length+x.kids.length≤65535
theorem Pd:∀ (c:List Ae) (s:ByteArray),s∈Lp c→∃ t∈c,t.text=s
 | [],s,h=>by cases h
 | t ::r,s,h=>by
  rw[Lp] at h;split at h
  ·rcases List.mem_cons.1 h with rfl | h
   ·exact ⟨t,List.mem_cons_self ..,rfl⟩
   ·obtain ⟨u,hu,e⟩:=Pd r s h;exact ⟨u,List.mem_cons_of_mem _ hu,e⟩
  ·obtain ⟨u,hu,e⟩:=Pd r s h;exact ⟨u,List.mem_cons_of_mem _ hu,e⟩
theorem Ur:∀ (c:List Ae),(Lp c).length≤c.length
 | []=>by simp[Lp]
 | t ::r=>by
  have:=Ur r;rw[Lp];split <;> simp <;> omega
theorem Gz (op num:Int)(s:ByteArray)(h:s.size≤4000):ndS ⟨op,num,s, [], []⟩:=
 ⟨⟨by simp,by simp,fun x hx=>by cases hx⟩,by show s.size≤1048576;omega,by simp⟩
theorem GB (op:Int)(ks:List Int)(h:ks.length≤3):ndS ⟨op,0,⟨#[]⟩, [],ks⟩:=
 ⟨⟨by simp,by show ks.length≤1048576;omega,fun x hx=>by cases hx⟩,by show (⟨#[]⟩:ByteArray).size≤1048576;decide,by show 0+ks.length≤65535;omega⟩
theorem Zl (c:List Ae)(a:c.length≤4000)(hc:∀ t∈c,t.text.size≤4000):ndS ⟨4,0,⟨#[]⟩,SO (Lp c), []⟩:=by
 have hs:Bz (Lp c) (SO (Lp c)):=FS (Lp c);have h1:=hs.len;have h2:=Ur c;refine ⟨⟨by show (SO (Lp c)).length≤1048576;omega,by simp,fun x hx=>?_⟩,by show (⟨#[]⟩:ByteArray).size≤1048576;decide,by show (SO (Lp c)).length+0≤65535;omega⟩;obtain ⟨t,ht,e⟩:=Pd c x ((hs.mem x).1 hx);have:=hc t ht;rw[← e];unfold maxLen;omega
theorem G.small {k:Nat}{c:List Ae}{p:Pt}(g:G k c p):c.length≤4000→(∀ t∈c,t.text.size≤4000)→∀ b,∀ x∈Fc p.ex b,ndS x:=by
 have q:(⟨#[]⟩:ByteArray).size≤4000:=by decide
 induction g with
 | up hk g o=>exact o
 | @ite t u v a b d I J K ht hu y L M N z A id=>
  intro j hc n x hx;simp only[List.length_cons,List.length_append] at j;rw[Pt.ex,Fc] at hx;rcases List.mem_append.1 hx with hx | hx
  ·rcases List.mem_append.1 hx with hx | hx
   ·rcases List.mem_append.1 hx with hx | hx
    ·exact z (by omega) (fun f i=>hc f (by simp[i])) _ x hx
    ·exact A (by omega) (fun f i=>hc f (by simp[i])) _ x hx
   ·exact id (by omega) (fun f i=>hc f (by simp[i])) _ x hx
  ·rw[List.mem_singleton.1 hx];exact GB _ _ (by simp)
 | @bin k l r t op B C hk E ht F s w=>
  intro j hc n x hx;simp only[List.length_cons,List.length_append] at j;rw[Pt.ex,Fc] at hx;rcases List.mem_append.1 hx with hx | hx
  ·rcases List.mem_append.1 hx with hx | hx
   ·exact s (by omega) (fun f i=>hc f (by simp[i])) _ x hx
   ·exact w (by omega) (fun f i=>hc f (by simp[i])) _ x hx
  ·rw[List.mem_singleton.1 hx];exact GB _ _ (by simp)
 | @cmp l r t op B C E ht F s w=>
  intro j hc n x hx;simp only[List.length_cons,List.length_append] at j;rw[Pt.ex,Fc] at hx;rcases List.mem_append.1 hx with hx | hx
  ·rcases List.mem_append.1 hx with hx | hx
   ·exact s (by omega) (fun f i=>hc f (by simp[i])) _ x hx
   ·exact w (by omega) (fun f i=>hc f (by simp[i])) _ x hx
  ·rw[List.mem_singleton.1 hx];exact GB _ _ (by simp)
 | @not t r p ht g o | @neg t r p ht g o=>
  intro j hc n x hx;simp only[List.length_cons] at j;rw[Pt.ex,Fc] at hx;rcases List.mem_append.1 hx with hx | hx
  ·exact o (by omega) (fun f i=>hc f (by simp[i])) _ x hx
  ·rw[List.mem_singleton.1 hx];exact GB _ _ (by simp)
 | @size t u v r p ht hu g y o=>
  intro j hc n x hx;simp only[List.length_cons,List.length_append] at j;rw[Pt.ex,Fc] at hx;rcases List.mem_append.1 hx with hx | hx
  ·exact o (by omega) (fun f i=>hc f (by simp[i])) _ x hx
  ·rw[List.mem_singleton.1 hx];exact GB _ _ (by simp)
 | @par t u r p ht g hu o=>
  intro j hc;simp only[List.length_cons,List.length_append] at j;exact o (by omega) (fun f i=>hc f (by simp[i]))
 | @set t u c ht hc hu=>
  intro j H n x hx;simp only[List.length_cons,List.length_append] at j;have m:x∈ [(⟨4,0,⟨#[]⟩,SO (Lp c), []⟩:Nd)]:=hx;rw[List.mem_singleton.1 m];exact Zl c (by omega) (fun f i=>H f (by simp[i]))
 | @num t h=>
  intro j hc n x hx;have m:x∈ [(⟨1,t.num,⟨#[]⟩, [], []⟩:Nd)]:=hx;rw[List.mem_singleton.1 m];exact Gz _ _ _ q
 | @text t h=>
  intro j hc n x hx;have m:x∈ [(⟨2,0,t.text, [], []⟩:Nd)]:=hx;rw[List.mem_singleton.1 m];exact Gz _ _ _ (hc t (by simp))
 | @name t h=>
  intro j hc n x hx;have m:x∈ [(⟨5,0,t.text, [], []⟩:Nd)]:=hx;rw[List.mem_singleton.1 m];exact Gz _ _ _ (hc t (by simp))
 | @tru t h=>
  intro j hc n x hx;have m:x∈ [(⟨3,1,⟨#[]⟩, [], []⟩:Nd)]:=hx;rw[List.mem_singleton.1 m];exact Gz _ _ _ q
 | @fls t h=>
  intro j hc n x hx;have m:x∈ [(⟨3,0,⟨#[]⟩, [], []⟩:Nd)]:=hx;rw[List.mem_singleton.1 m];exact Gz _ _ _ q
theorem GC.small {c:List Ae}{g:Option Pt}(h:GC c g)(a:c.length≤4000)(hc:∀ t∈c,t.text.size≤4000):∀ b,∀ x∈IV (g.map Pt.ex) b,ndS x:=by
 cases h with
 | deny h=>intro b x hx;cases hx
 | grant h g=>
  simp only[List.length_cons] at a;exact g.small (by omega) (fun d f=>hc d (by simp[f]))
theorem SC.small {c:List Ae}{s:Ps}(h:SC c s)(f:c.length≤4000)(hc:∀ t∈c,t.text.size≤4000):(∀ b,∀ x∈IV s.sx.cond b,ndS x)∧(∀ b,∀ x∈IV s.sx.grant b,ndS x)∧s.sx.name.size≤1048576:=by
 cases h with
 | @let_ t n e c p h k he g=>
  simp only[List.length_cons] at f;exact ⟨g.small (by omega) (fun a d=>hc a (by simp[d])),(fun b x hx=>by cases hx),by have:=hc n (by simp);show n.text.size≤1048576;omega⟩
 | when h j l i=>
  simp only[List.length_cons,List.length_append] at f;exact ⟨j.small (by omega) (fun a d=>hc a (by simp[d])),i.small (by omega) (fun a d=>hc a (by simp[d])),by show (Bg []).size≤1048576;decide⟩
 | else_ h i=>
  simp only[List.length_cons] at f;exact ⟨(fun b x hx=>by cases hx),i.small (by omega) (fun a d=>hc a (by simp[d])),by show (Bg []).size≤1048576;decide⟩
theorem PC.small {d:List Ae}{S:List Ps}(h:PC d S):d.length≤4000→(∀ t∈d,t.text.size≤4000)→∀ b,(∀ x∈A9 b (S.map Ps.sx),ndS x)∧∀ s∈Dn b (S.map Ps.sx),s.name.size≤1048576:=by
 induction h with
 | nil=>intro _ _ b;exact ⟨fun x hx=>(by cases hx),fun s hs=>(by cases hs)⟩
 | @cons c r u s S i hu k a=>
  intro j hc b;simp only[List.length_cons,List.length_append] at j;obtain ⟨h1,h2,h3⟩:=i.small (by omega) (fun f g=>hc f (by simp[g]));have a:=a (by omega) (fun f g=>hc f (by simp[g]));rw[List.map_cons,A9,Dn];refine ⟨fun x hx=>?_,fun y hy=>?_⟩
  ·rcases List.mem_append.1 hx with hx | hx
   ·rcases List.mem_append.1 hx with hx | hx
    ·exact h1 _ x hx
    ·exact h2 _ x hx
   ·exact (a _).1 x hx
  ·rcases List.mem_cons.1 hy with rfl | hy
   ·exact h3
   ·exact (a _).2 y hy
theorem Vq (t:ByteArray)(x:QR)(d:DP (AW t).toks x):Aa1 (PU t x).1 (PU t x).2.1 (PU t x).2.2.1:=by
 have a:Aa1 [] [] []:=⟨⟨by simp,fun x hx=>by cases hx⟩,⟨by simp,fun x hx=>by cases hx⟩,by simp⟩
 by_cases hc:(AW t).code=0
 ·cases x with
  | bad q=>rw[Up hc];exact a
  | ok S=>
   cases b:(Qw (S.flatMap Ps.sets)).head? with
   | some i=>rw[Qy hc b];exact a
   | none=>
    cases c:KS (S.map Ps.sx) with
    | some i=>rw[Qz hc b c];exact a
    | none=>
     rw[SP hc b c];have f:=d.cut S rfl;have h4:=QA t;have g:=f.cnt;obtain ⟨h1,h2⟩:=f.small h4 (fun u hu=>(Vp t u hu).2) 0;refine ⟨⟨by show (A9 0 _).length≤65535;rw[EF];omega,h1⟩,⟨by show (Dn 0 _).length≤65535;rw[LF,List.length_map];omega,h2⟩,by show (De _).length≤65535;rw[Gx];omega⟩
 ·rw[Qx hc];exact a
end Go.Proofs.YtoplnhndilmlcaaGreatDoor
