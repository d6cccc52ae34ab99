/-
  QJ1, VPM, QM0, QM, GT, GU. Own work.
-/
import Derived.Test.YtoplnhndilmlcaaGreatDoorMXAN
import Derived.Test.YtoplnhndilmlcaaGreatDoorMXAR
import Derived.Test.YtoplnhndilmlcaaGreatDoorVPJ
import Derived.Test.YtoplnhndilmlcaaGreatDoorQK
import Derived.Test.YtoplnhndilmlcaaGreatDoorMXAP
import Derived.Test.YtoplnhndilmlcaaGreatDoorNUI
namespace Go.Proofs.YtoplnhndilmlcaaGreatDoor
open Go.RowKit
set_option linter.unusedVariables false
theorem Kr {s:ByteArray}(h:Bq s=true):s.size≤32:=by
 unfold Bq at h;have e:(Al s).length=s.size:=by simp[Al]
 cases hs:Al s with
 | nil=>rw[hs] at e;simp at e;omega
 | cons c r=>
  rw[hs] at h;simp only[Bool.and_eq_true,decide_eq_true_eq] at h;rw[← e,hs];exact h.1.1.1
theorem PE {s:ByteArray}(h:BP s=true):s.size≤32:=by
 unfold BP at h;simp only[Bool.and_eq_true,decide_eq_true_eq] at h;exact h.1
theorem Rp {a:List ByteArray}(h:EN a=true):a.length≤64∧∀ x∈a,x.size≤32:=by
 unfold EN at h;simp only[Bool.and_eq_true,decide_eq_true_eq] at h;refine ⟨h.1,fun x hx=>?_⟩;have:=List.all_eq_true.1 h.2.1 x hx;simp only[vnB,Bool.and_eq_true,decide_eq_true_eq] at this;omega
theorem G8 {N:List Nd}{i:Nat}{Es:List Ex}(b:Es.length=i)(a:∀ j,(h:j < Es.length)→CP N j Es[j]){k:Int}(hk: 0≤k∧k < i):∃ (m:Nat) (e:Ex),k=m∧m < i∧Es[m]? =some e∧CP N m e:=by
 refine ⟨k.toNat,Es[k.toNat]'(by omega),by omega,by omega,List.getElem?_eq_getElem _,a _ _⟩
theorem Ys {N:List Nd}{w:World}{i:Nat}{x:Nd}{an:Option Addr}{nn v:Nat}(hx:N[i]? =some x)(hf:Aq x=true)(hk:∀ k∈x.kids,0≤k∧k < i)(C:x.num≤9223372036854775807){Es:List Ex}(b:Es.length=i)
  (c:∀ j,(h:j < Es.length)→CP N j Es[j])(E:∀ e∈Es,e.fit w)(A:Bb w an nn v x.names):∃ e,V9 Es i x an nn v e∧CP N i e∧e.fit w:=by
 unfold Aq at hf;rw[Bool.and_eq_true,decide_eq_true_eq] at hf;obtain ⟨F,hf⟩:=hf;have t:∀ n:Nat,Fx x.op=n→x.kids.length=n:=fun n e=>by omega
 have q:(1≤x.op∧x.op≤7)→x.kids= []:=fun h=>List.eq_nil_of_length_eq_zero (t 0 (by rw[Fx,if_pos h];rfl));have d:∀ {m:Nat} {e:Ex},Es[m]? =some e→e.fit w:=fun h=>E _ (List.mem_of_getElem? h);by_cases h1:x.op=1
 ·rw[if_pos h1] at hf;simp only[Bool.and_eq_true,decide_eq_true_eq] at hf;exact ⟨_,.int h1,.int hx h1 (q (by omega)),hf.1.1,C⟩
 rw[if_neg h1] at hf;by_cases h2:x.op=2
 ·rw[if_pos h2] at hf;simp only[Bool.and_eq_true,decide_eq_true_eq] at hf;exact ⟨_,.text h2,.text hx h2 (q (by omega)),PE hf.1.1⟩
 rw[if_neg h2] at hf;by_cases h3:x.op=3
 ·exact ⟨_,.bool h3,.bool hx h3 (q (by omega)),trivial⟩
 rw[if_neg h3] at hf;by_cases h4:x.op=4
 ·rw[if_pos h4] at hf;simp only[Bool.and_eq_true,decide_eq_true_eq] at hf;obtain ⟨J,H⟩:=Rp hf.1.1;exact ⟨_,.set h4,.set hx h4 (q (by omega)) an nn v,A,by have:=A.len;omega,H⟩
 rw[if_neg h4] at hf;by_cases h5:x.op=5
 ·rw[if_pos h5] at hf;simp only[Bool.and_eq_true,decide_eq_true_eq] at hf;exact ⟨_,.name h5,.name hx h5 (q (by omega)),Kr hf.1.1⟩
 rw[if_neg h5] at hf;by_cases h6:x.op=6∨x.op=7
 ·rw[if_pos h6] at hf;cases hf
 by_cases h8: 8≤x.op∧x.op≤10
 ·have r:=t 1 (by rw[Fx,if_neg (by omega),if_pos h8];rfl)
  match a:x.kids,r with
  | [k],_=>
   obtain ⟨m,e,rfl,hm,g1,g2⟩:=G8 b c (hk k (by rw[a];simp));exact ⟨_,.un h8 a g1,.un hx h8 a hm g2,h8,d g1⟩
 by_cases h11: 11≤x.op∧x.op≤26
 ·have r:=t 2 (by rw[Fx,if_neg (by omega),if_neg h8,if_pos h11];rfl)
  match a:x.kids,r with
  | [k,l],_=>
   obtain ⟨m,e,rfl,hm,g1,g2⟩:=G8 b c (hk k (by rw[a];simp));obtain ⟨n,f,rfl,y,s,z⟩:=G8 b c (hk l (by rw[a];simp));exact ⟨_,.bin h11 a g1 s,.bin hx h11 a ⟨hm,y⟩ g2 z,h11,d g1,d s⟩
 by_cases u:x.op=27
 ·have r:=t 3 (by rw[Fx,if_neg (by omega),if_neg h8,if_neg h11,if_pos u];rfl)
  match a:x.kids,r with
  | [k,l,o],_=>
   obtain ⟨m,e,rfl,hm,g1,g2⟩:=G8 b c (hk k (by rw[a];simp));obtain ⟨n,f,rfl,y,s,z⟩:=G8 b c (hk l (by rw[a];simp));obtain ⟨p,g,rfl,I,B,q2⟩:=G8 b c (hk o (by rw[a];simp));exact ⟨_,.ite u a g1 s B,.ite hx u a ⟨hm,y,I⟩ g2 z q2,d g1,d s,d B⟩
 ·rw[Fx,if_neg (by omega),if_neg h8,if_neg h11,if_neg u] at F;omega
theorem Nl {a:World}{N:List Nd}(b:∀ x∈N,Aq x=true)(c:∀ x∈N,x.num≤9223372036854775807)(d:∀ (i:Nat) (x:Nd),N[i]? =some x→∀ k∈x.kids,0≤k∧k < (i:Int)):Yr a N (fun e=>e.fit a):=
 fun k x an nn j Es hx f g hf h=>Ys (w:=a) hx (b _ (List.mem_of_getElem? hx)) (d k _ hx) (c _ (List.mem_of_getElem? hx)) f g hf h
set_option maxRecDepth 100000
set_option maxHeartbeats 3200000
def Bs (N:List Nd) (L:List St):Bool:=decide (N.length≤4000) && (decide (1≤L.length∧L.length≤600) && BK L) && N.all Aq && EP N L
theorem MT (a b:Option Addr)(n c m d:Nat)(N:List Nd)(L:List St)(w:World)(h1:Fe w a n c N)(h2:KU w b m d L)(aa:Cw w):
  Calls Tryz.prog 25 #[.agg #[.slice a n c,.slice b m d],.func (.func 26) #[] #[]] w fun e w'=>e= .returned (.bool (Bs N L))∧Below w.heap.size w w':=by
 have ap:=h1.small;have aq:=h2.small;have ab:=Ab h1.len;have ac:=Ab h2.len;have x:=Ab (show Bs N L=(decide (n≤4000) && (decide (1≤m∧m≤600) && BK L) && N.all Aq && EP N L) by rw[Bs,h1.len,h2.len]);have j:=Aj.new w #[.slice a n c,.slice b m d] 26;have g:=(Below.refl w.heap.size w).alloc NLN (.cells #[.slice a n c,.slice b m d] 26);have l:=h1.below g NLN;have o:=h2.below g NLN;have y:=aa.below g NLN;go_enter Tryz.func25,Tryz.ntmps25
 by_cases J: 4000 < n
 ·have ad:(4000 :Int) < (n:Int):=by omega
  have h:=Ab (show Bs N L=false by rw[Aa x,decide_eq_false (by omega)];rfl);clear J;go_wp2_with fail
  go_ret
  exact ⟨Ag (Aa h).symm,g⟩
 have ad: ¬ ((4000 :Int) < (n:Int)):=by omega
 have s:=Ab (show Bs N L=((decide (1≤m∧m≤600) && BK L) && N.all Aq && EP N L) by rw[Aa x,decide_eq_true (by omega)];rfl);clear J x;generalize M:(decide (1≤m∧m≤600) && BK L)=v1 at s;have p:=Ab M;clear M;cases v1
 ·have h:=Ab (show Bs N L=false by rw[Aa s];rfl);go_wp2_with (go_at_call 52;refine (Dx _ _ _ _ _ o).mono ?_;rintro e z ⟨rfl,f⟩;rw[Aa p])
  go_ret
  exact ⟨Ag (Aa h).symm,g.trans (f.mono g.size)⟩
 ·have t:=Ab (show Bs N L=(N.all Aq && EP N L) by rw[Aa s,Bool.true_and]);clear s;generalize O:N.all Aq=ae at t;have A:=Ab O;clear O;cases ae
  ·have h:=Ab (show Bs N L=false by rw[Aa t];rfl);go_wp2_with (first
    | (go_at_call 52;refine (Dx _ _ _ _ _ o).mono ?_;rintro e z ⟨rfl,f⟩;rw[Aa p];obtain ⟨P,Q⟩:=JT (j.after f NLN))
    | (go_at_call 53;refine (ET _ _ _ _ _ (l.below f NLN) (y.below f NLN)).mono ?_;rintro e R ⟨rfl,q⟩;rw[Aa A]))
   go_ret
   exact ⟨Ag (Aa h).symm,g.trans ((f.trans (q.mono f.size)).mono g.size)⟩
  ·have T:=Ab (show Bs N L=EP N L by rw[Aa t,Bool.true_and]);clear t;have B:=Ab (show EP N L=match Cj (N.map Nd.kids) n [] 0 with | none=>false | some S=>decide (Ar S=L.flatMap An) by rw[EP,Aa ab];try rfl)
   have U:=Ab (fun S=>(Sc (K:=N.map Nd.kids) (k:=n) (S:=S)));generalize V:Cj (N.map Nd.kids) n [] 0=af at B U;have W:=Ab V;clear V;cases af with
   | none=>
    have h:=Ab (show Bs N L=false by rw[Aa T,Aa B]);go_wp2_with (first
     | (go_at_call 52;refine (Dx _ _ _ _ _ o).mono ?_;rintro e z ⟨rfl,f⟩;rw[Aa p];obtain ⟨P,Q⟩:=JT (j.after f NLN))
     | (go_at_call 53;refine (ET _ _ _ _ _ (l.below f NLN) (y.below f NLN)).mono ?_;rintro e R ⟨rfl,q⟩;rw[Aa A];have i:=f.trans (q.mono f.size);obtain ⟨ag,ah⟩:=JT (j.after i NLN))
     | (go_at_call 54;refine (MS _ _ _ _ _ (l.below i NLN)).mono ?_;rw[Aa W];rintro e ai ⟨he,C⟩;change e=_ at he;subst he))
    go_ret
    exact ⟨Ag (Aa h).symm,g.trans ((i.trans (C.mono i.size)).mono g.size)⟩
   | some S=>
    obtain ⟨r,E⟩:∃ r,Hid (L.flatMap An=r):=⟨_,Ab rfl⟩
    obtain ⟨F,X⟩:∃ F,Hid (Ar S=F):=⟨_,Ab rfl⟩
    have h:=Ab (show Bs N L=decide (F=r) by rw[Aa T,Aa B,Aa E];show decide (Ar S=r)=_;rw[Aa X]);have ar:S.length≤n:=by
     rcases Aa U S rfl with k | ⟨_,k⟩
     ·exact k.1
     ·subst k;simp
    have au:m≤600:=(of_decide_eq_true (Bool.and_eq_true _ _ ▸ Aa p).1).2;have av:r.length≤2 * m:=by have:=JU L;rw[Aa ac,Aa E] at this;exact this
    go_wp2_with (first
     | (go_at_call 52;refine (Dx _ _ _ _ _ o).mono ?_;rintro e z ⟨rfl,f⟩;rw[Aa p];obtain ⟨P,Q⟩:=JT (j.after f NLN))
     | (go_at_call 53;refine (ET _ _ _ _ _ (l.below f NLN) (y.below f NLN)).mono ?_;rintro e R ⟨rfl,q⟩;rw[Aa A];have i:=f.trans (q.mono f.size);obtain ⟨ag,ah⟩:=JT (j.after i NLN))
     | (go_at_call 54;refine (MS _ _ _ _ _ (l.below i NLN)).mono ?_;rw[Aa W];rintro e ai ⟨⟨v,he,H⟩,C⟩;subst he;rw[Aa X] at H;obtain ⟨aw,ax,rfl,_⟩:=Af H;have u:=i.trans (C.mono i.size);obtain ⟨ay,az⟩:=JT (j.after u NLN);have aj:=Kw H (by omega))
     | (go_at_call 56;refine (Nv _ _ _ _ _ (o.below u NLN)).mono ?_;rintro e aA ⟨v,rfl,I,Y⟩;rw[Aa E] at I;obtain ⟨aB,aC,rfl,_⟩:=Af I;have ak:=Kw I (by omega);have al:=aj.below Y NLN;have Z:=u.trans (Y.mono u.size))
     | (go_at_call 55;refine (SV _ _ _ _ _ _ _ _ _ al ak).mono ?_;rintro e aD ⟨rfl,ao⟩))
    go_ret
    exact ⟨Ag (Aa h).symm,g.trans ((Z.trans (ao.mono Z.size)).mono g.size)⟩
theorem JS (a b:Option Addr)(n c m d:Nat)(N:List Nd)(L:List St)(w:World)(h1:Fe w a n c N)(h2:KU w b m d L)(g:Cw w):
  Calls Tryz.prog 11 #[.agg #[.slice a n c,.slice b m d]] w fun e w'=>e= .returned (.bool (Bs N L))∧Below w.heap.size w w':=by
 have f:=(Below.refl w.heap.size w).alloc NLN (.cells #[.slice a n c,.slice b m d] 26);go_enter Tryz.func11,Tryz.ntmps11
 go_wp2_with (go_at_call 25;refine (MT _ _ _ _ _ _ _ _ _ (h1.below f NLN) (h2.below f NLN) (g.below f NLN)).mono ?_;rintro e i ⟨rfl,h⟩)
 go_ret
 exact ⟨rfl,f.trans (h.mono f.size)⟩
theorem Rw {K:List (List Int)}{a b:Nat}{c:List (Nat × Nat)}(h:AH K a c b):∀ t,a≤t→t < b→∃ ks:List (Nat × Nat),K[t]? =some (Ar ks)∧∀ p∈ks,p.1 < t:=by
 induction h with
 | nil a=>intro t h1 h2;omega
 | @cons a t b ks c hk ht hf d f=>
  intro q h1 h2;by_cases h3:q < t
  ·exact d q h1 h3
  by_cases h4:q=t
  ·subst h4;exact ⟨ks,ht,fun p g=>(hk.lt p g).2⟩
  ·exact f q (by omega) h2
theorem Yv {e:Ex} :∀ {Es:List Ex},e∈Es→e.cnt≤Jf Es
 | x ::Es,h=>by
  have e5:Jf (x ::Es)=x.cnt+Jf Es:=by simp[Jf]
  rw[e5];rcases List.mem_cons.1 h with rfl | h
  ·omega
  ·have:=Yv h;omega
def Z3 (w:World) (Es:List Ex) (k:Int):Prop:=∃ (m:Nat) (e:Ex),k=m∧Es[m]? =some e∧e.fit w∧e.cnt≤4000
def Yu (w:World) (Es:List Ex) (s:St):Prop:=
 (s.kind=1∧s.name.size≤32∧Z3 w Es s.cond∧s.grant= -1)∨(s.kind=2∧Z3 w Es s.cond∧(s.grant= -1∨Z3 w Es s.grant))∨(s.kind=3∧s.cond= -1∧(s.grant= -1∨Z3 w Es s.grant))
structure Yf (N:List Nd) (L:List St):Prop where
 n:N.length≤4000
 m0: 1≤L.length
 m:L.length≤600
 fields:∀ x∈N,Aq x=true
 kids:∀ (i:Nat) (x:Nd),N[i]? =some x→∀ k∈x.kids,0≤k∧k < (i:Int)
 roots:∀ s∈L,(s.cond= -1∨(0≤s.cond∧s.cond < N.length))∧(s.grant= -1∨(0≤s.grant∧s.grant < N.length))
 stm:∀ s∈L,(s.kind=1∧s.name.size≤32∧0≤s.cond∧s.grant= -1)∨(s.kind=2∧0≤s.cond)∨(s.kind=3∧s.cond= -1)
 cnt:∀ (Es:List Ex),Es.length=N.length→(∀ j,(h:j < Es.length)→CP N j Es[j])→∀ s∈L,∀ k,(k=s.cond∨k=s.grant)→0≤k→∀ e,Es[k.toNat]? =some e→e.cnt≤4000
theorem It:∀ {L:List St},BK L=true→∀ s∈L,DB s=true
 | x ::L,h,s,hs=>by
  simp only[BK,Bool.and_eq_true] at h;rcases List.mem_cons.1 hs with rfl | hs
  ·exact h.1.1
  ·exact It h.2 s hs
theorem FK {N:List Nd}{L:List St}(h:Bs N L=true):Yf N L:=by
 simp only[Bs,Bool.and_eq_true,decide_eq_true_eq] at h;obtain ⟨⟨⟨h1,⟨h2,h3⟩,h4⟩,h5⟩,h6⟩:=h;obtain ⟨S,t,ht⟩:∃ S,Cj (N.map Nd.kids) N.length [] 0=some S∧Ar S=L.flatMap An:=by
  rw[EP] at h6;cases hq:Cj (N.map Nd.kids) N.length [] 0 with
  | none=>rw[hq] at h6;cases h6
  | some S=>rw[hq] at h6;exact ⟨S,rfl,of_decide_eq_true h6⟩
 obtain ⟨c,_⟩:=Fi N.length (.nil 0) (fun p a=>(by cases a)) t;rw[Nat.zero_add] at c;have n:∀ s∈L,∀ k∈An s,∃ p∈S,k=(p.1:Int):=fun s hs k hk=>by
  have:k∈Ar S:=by rw[ht];exact List.mem_flatMap.2 ⟨s,hs,hk⟩
  rw[Ar] at this;obtain ⟨p,a,rfl⟩:=List.mem_map.1 this;exact ⟨p,a,rfl⟩
 have d:∀ s∈L,∀ k∈An s,0≤k∧k < N.length:=fun s hs k hk=>by
  obtain ⟨p,a,rfl⟩:=n s hs k hk;have:=(c.lt p a).2;omega
 have f:∀ s∈L,s.kind≠3→s.cond∈An s:=fun s _ h=>by rw[An,if_pos h];simp
 have o:∀ s∈L,s.grant≠-1→s.grant∈An s:=fun s _ h=>by rw[An,if_pos h];simp
 have u:=It h4;have stm:∀ s∈L,(s.kind=1∧s.name.size≤32∧0≤s.cond∧s.grant= -1)∨(s.kind=2∧0≤s.cond)∨(s.kind=3∧s.cond= -1):=fun s hs=>by
  have h:=u s hs;rw[DB] at h;by_cases l:s.kind=1
  ·rw[if_pos l] at h;simp only[Bool.and_eq_true,decide_eq_true_eq] at h;exact .inl ⟨l,Kr h.1,(d s hs _ (f s hs (by omega))).1,h.2⟩
  rw[if_neg l] at h;by_cases r:s.kind=2
  ·exact .inr (.inl ⟨r,(d s hs _ (f s hs (by omega))).1⟩)
  rw[if_neg r] at h;by_cases b:s.kind=3
  ·rw[if_pos b] at h;simp only[Bool.and_eq_true,decide_eq_true_eq] at h;exact .inr (.inr ⟨b,h.2⟩)
  ·rw[if_neg b] at h;cases h
 refine ⟨h1,h2,h3,fun x hx=>List.all_eq_true.1 h5 x hx,fun i x hx k hk=>?_,fun s hs=>⟨?_, ?_⟩,stm,fun Es v w s hs k hk h0 e he=>?_⟩
 ·have hi:i < N.length:=(List.getElem?_eq_some_iff.1 hx).1;obtain ⟨ks,e1,e2⟩:=Rw c i (Nat.zero_le _) hi;rw[List.getElem?_map,hx] at e1;have e3:x.kids=Ar ks:=Option.some.inj e1;rw[e3,Ar] at hk;obtain ⟨p,a,rfl⟩:=List.mem_map.1 hk;have:=e2 p a;omega
 ·by_cases b:s.kind=3
  ·rcases stm s hs with h | h | h
   ·omega
   ·omega
   ·exact .inl h.2
  ·exact .inr (d s hs _ (f s hs b))
 ·by_cases g:s.grant= -1
  ·exact .inl g
  ·exact .inr (d s hs _ (o s hs g))
 ·have y:k∈An s:=by
   rcases hk with rfl | rfl
   ·apply f s hs;intro b;rcases stm s hs with h | h | h <;> omega
   ·exact o s hs (by omega)
  obtain ⟨p,a,rfl⟩:=n s hs k y;have m:∀ q∈S,q.1 < Es.length:=fun q hq=>by rw[v];exact (c.lt q hq).2
  have z:=Mk c (S.attach.map (fun q=>Es[q.1.1]'(m q.1 q.2))) (by simp) (fun j h1 h2=>by
   have:=w (S[j]).1 (m _ (List.getElem_mem h1));simpa using this)
  rw[Int.toNat_natCast] at he;have hm:e∈S.attach.map (fun q=>Es[q.1.1]'(m q.1 q.2)):=by
   refine List.mem_map.2 ⟨⟨p,a⟩,List.mem_attach _ _, ?_⟩;exact (List.getElem?_eq_some_iff.1 he).2
  have:=Yv hm;omega
theorem UP {N:List Nd}{L:List St}{w:World}{Es:List Ex}(h:Yf N L)(g:Es.length=N.length)(i:∀ j,(h:j < Es.length)→CP N j Es[j])(hf:∀ e∈Es,e.fit w):∀ s∈L,Yu w Es s:=fun s hs=>by
 obtain ⟨d,l⟩:=h.roots s hs;have get:∀ k,(k=s.cond∨k=s.grant)→0≤k∧k < N.length→Z3 w Es k:=fun k hk c=>
  ⟨k.toNat,Es[k.toNat]'(by omega),by omega,List.getElem?_eq_getElem _,hf _ (List.getElem_mem _),h.cnt Es g i s hs k hk c.1 _ (List.getElem?_eq_getElem (by omega))⟩
 have f:s.grant= -1∨Z3 w Es s.grant:=l.imp id (fun c=>get _ (.inr rfl) c);rcases h.stm s hs with ⟨a,b,n,m⟩ | ⟨a,b⟩ | ⟨a,b⟩
 ·exact .inl ⟨a,b,get _ (.inl rfl) (d.resolve_left (by omega)),m⟩
 ·exact .inr (.inl ⟨a,get _ (.inl rfl) (d.resolve_left (by omega)),f⟩)
 ·exact .inr (.inr ⟨a,b,f⟩)
theorem Fy {Es:List Ex}{m:Nat}{e:Ex}(h:Es[m]? =some e):WB Es (m:Int)=e.pr:=by
 rw[WB,Int.toNat_natCast,h]
theorem PF {Es:List Ex}{m:Nat}{e:Ex}(h:Es[m]? =some e):Ee Es (m:Int)=e.val:=by
 rw[Ee,if_neg (by omega),Int.toNat_natCast,h]
theorem Jg {w:World}{Es:List Ex}{g:Int}(h:g= -1∨Z3 w Es g):(Rc Es g).size≤16000100:=by
 have e1:(⟨#[103,114,97,110,116,32]⟩:ByteArray).size=6:=rfl;rcases h with rfl | ⟨m,e,rfl,h1,h2,h3⟩
 ·exact (by decide:(⟨#[100,101,110,121]⟩:ByteArray).size≤16000100)
 ·rw[Rc,if_neg (by omega),Fy h1,ByteArray.size_append,e1];have:=e.pr_size h2;omega
theorem Rs {w:World}{Es:List Ex}{g:Int}(h:Z3 w Es g):(WB Es g).size≤16000000:=by
 obtain ⟨m,e,rfl,h1,h2,h3⟩:=h;rw[Fy h1];have:=e.pr_size h2;omega
theorem Rt {w:World}{Es:List Ex}{s:St}(h:Yu w Es s):(KJ Es s).size≤40000000∧0 < (KJ Es s).size:=by
 have f:(⟨#[108,101,116,32]⟩:ByteArray).size=4:=rfl;have g:(⟨#[32,61,32]⟩:ByteArray).size=3:=rfl;have i:(⟨#[119,104,101,110,32]⟩:ByteArray).size=5:=rfl;have j:(⟨#[32,61,62,32]⟩:ByteArray).size=4:=rfl;have k:(⟨#[101,108,115,101,32]⟩:ByteArray).size=5:=rfl;have c:(⟨#[59,10]⟩:ByteArray).size=2:=rfl;rcases h with ⟨b,d,a,l⟩ | ⟨b,d,a⟩ | ⟨b,d,a⟩
 ·have:=Rs a;rw[KJ,if_pos b];simp only[ByteArray.size_append,f,g,c];omega
 ·have:=Rs d;have:=Jg a;rw[KJ,if_neg (by omega),if_pos b];simp only[ByteArray.size_append,i,j,c];omega
 ·have:=Jg a;rw[KJ,if_neg (by omega),if_neg (by omega)];simp only[ByteArray.size_append,k,c];omega
def Gj (Es:List Ex) (L:List St):ByteArray:=CV (L.map (KJ Es))
theorem Rv (Es:List Ex)(L:List St)(k:Nat)(h:k < L.length):Gj Es (L.take (k+1))=Gj Es (L.take k) ++KJ Es L[k]:=by
 rw[Gj,Gj,List.take_succ_eq_append_getElem h,List.map_append,List.map_cons,List.map_nil,JP]
theorem Mu {w:World}{Es:List Ex} :∀ {L:List St},(∀ s∈L,Yu w Es s)→(Gj Es L).size≤40000000 * L.length
 | [],_=>by simp[Gj,CV,ByteArray.size]
 | s ::L,h=>by
  have h1:=(Rt (h s (List.mem_cons_self ..))).1;have h2:=Mu (L:=L) (fun x hx=>h x (List.mem_cons_of_mem _ hx));rw[Gj] at h2;rw[Gj,List.map_cons,CV,ByteArray.size_append,List.length_cons];omega
theorem Z4 {w:World}{Es:List Ex} :∀ {L:List St},1≤L.length→(∀ s∈L,Yu w Es s)→(Gj Es L).size≠0
 | [],h,_=>by simp at h
 | s ::L,_,h=>by
  have h1:=(Rt (h s (List.mem_cons_self ..))).2;rw[Gj,List.map_cons,CV,ByteArray.size_append];omega
end Go.Proofs.YtoplnhndilmlcaaGreatDoor
namespace Go.Proofs.YtoplnhndilmlcaaGreatDoor
set_option maxRecDepth 100000
set_option maxHeartbeats 1600000
open Go.RowKit
set_option linter.unusedVariables false
variable {aY : Addr} {pb g c : Nat} {T : List Ae} {tl : Nat}
def ErO:Option Ex→Option Pt→Prop
 | none,none=>True
 | some e,some p=>Er e p
 | _,_=>False
def KA (lo:Nat) (w:World):Option Ex→Prop
 | none=>True
 | some e=>e.own lo w
theorem Lt {a:Nat}{w w':World}(T:Ai a (a+1) w w')(b:Option Ex)(h:KA (a+1) w b):KA (a+1) w' b:=by
 cases b with
 | none=>trivial
 | some e=>exact e.own_touch T h
theorem GV (a:Option Ex):Gs (DG a):=by
 cases a with
 | none=>exact .inl rfl
 | some e=>exact e.val_if
def DrA (aY:Addr) (pb g c:Nat) (T:List Ae) (tl:Nat):DR→World→Ending→World→Prop
 | .ok p q,w,r,w'=>(∃ o k,r= .returned (.tuple #[DG o,.nilIface])∧ErO o p∧KA (pb+1) w' o∧Pp w' pb g c T tl q k)∧Ai pb (pb+1) w w'
 | .bad q,w,r,w'=>(∃ v b,r= .returned (.tuple #[v,By b])∧Gs v∧Wx aY tl q b w')∧Ai pb (pb+1) w w'
theorem IP (z: 16≤pb)(s:List UInt8)(H:List Ae)(x:DR)(d:DD s H x)(w:World)(k:Nat)(h:Pp w pb g c T tl H k)(l:Gy w aY):
  Calls Tryz.prog 137 #[.pointer (some ⟨pb,0,none⟩),.string (Bg s)] w (DrA aY pb g c T tl x w):=by
 have I:=Ab l;cases d with
 | no hs=>
  have i:=Ab (DF h l s hs);clear h hs l;go_enter Tryz.func137,Tryz.ntmps137
  go_wp2_with fail
  refine (Aa i).mono ?_;rintro e B ⟨b,rfl,L,M⟩;dsimp only[By];go_wp2_with fail
  go_ret2
  exact ⟨⟨.nilIface,b,rfl,.inl rfl,L⟩,Ai.of_below M NLN⟩
 | @deny t u r hs hu=>
  have i:=Ab (CI h s hs);have m:=Ab (show Aw Gg (u ::r)=true from hu);clear h hs l hu;go_enter Tryz.func137,Tryz.ntmps137
  go_wp2_with fail
  refine (Aa i).mono ?_;rintro e B ⟨rfl,a,j⟩;have n:=Ab (AD a Gg);have o:=Ab a;clear a;dsimp only;go_wp2_with fail
  refine (Aa n).mono ?_;rintro e A ⟨rfl,f⟩;rw[Aa m];have p:=Ab (Bm ((Aa o).below f));dsimp only;go_wp2_with fail
  refine (Aa p).mono ?_;rintro e J ⟨rfl,C,y⟩;dsimp only[Cf];go_wp2_with fail
  go_ret2
  exact ⟨⟨none,_,rfl,trivial,trivial,C⟩,(j.allP f).trans y⟩
 | @grant t r q e hs hu d=>
  have i:=Ab (CI h s hs);have m:=Ab hu;have E:=Ab d;clear h hs l hu d;go_enter Tryz.func137,Tryz.ntmps137
  go_wp2_with fail
  refine (Aa i).mono ?_;rintro e B ⟨rfl,a,j⟩;have n:=Ab (AD a Gg);have o:=Ab a;clear a;dsimp only;go_wp2_with fail
  refine (Aa n).mono ?_;rintro e A ⟨rfl,f⟩;rw[Aa m];have p:=Ab (g0 (aY:=aY) z CL _ _ (Aa E) A _ ((Aa o).below f) (((Aa I).touch j z).below f));dsimp only;go_wp2_with fail
  refine (Aa p).mono ?_;rintro e J ⟨⟨e,N,rfl,he,K,C⟩,y⟩;obtain ⟨Q,R,hf⟩:=e.form;have F:=Ab (And.intro he (And.intro K hf));rw[hf];clear he K hf;dsimp only;go_wp2_with fail
  go_ret2
  exact ⟨⟨some e,N,by rw[DG,(Aa F).2.2];rfl,(Aa F).1,(Aa F).2.1,C⟩,(j.allP f).trans y⟩
 | @grant_bad t r q hs hu d=>
  have i:=Ab (CI h s hs);have m:=Ab hu;have E:=Ab d;clear h hs l hu d;go_enter Tryz.func137,Tryz.ntmps137
  go_wp2_with fail
  refine (Aa i).mono ?_;rintro e B ⟨rfl,a,j⟩;have n:=Ab (AD a Gg);have o:=Ab a;clear a;dsimp only;go_wp2_with fail
  refine (Aa n).mono ?_;rintro e A ⟨rfl,f⟩;rw[Aa m];have p:=Ab (g0 (aY:=aY) z CL _ _ (Aa E) A _ ((Aa o).below f) (((Aa I).touch j z).below f));dsimp only;go_wp2_with fail
  refine (Aa p).mono ?_;rintro e J ⟨⟨v,b,rfl,O,P⟩,y⟩;rcases O with rfl | ⟨S,U,rfl⟩
  all_goals
   dsimp only[By];go_wp2_with fail
   go_ret2
   exact ⟨⟨_,b,rfl,by first | exact .inl rfl | exact .inr ⟨_,_,rfl⟩,P⟩,(j.allP f).trans y⟩
def M5 (aY:Addr) (pb g c:Nat) (T:List Ae) (tl:Nat):SR→World→Ending→World→Prop
 | .ok s q,w,r,w'=>(∃ o1 o2 k,r= .returned (.tuple #[.agg #[.int .i64 (s.at_:Int),.int .i64 s.kind,.string s.name,DG o1,DG o2],.nilIface])∧ErO o1 s.cond∧ErO o2 s.grant∧KA (pb+1) w' o1∧KA (pb+1) w' o2∧Pp w' pb g c T tl q k)∧Ai pb (pb+1) w w'
 | .bad q,w,r,w'=>(∃ i1 i2 n v3 v4 b,r= .returned (.tuple #[.agg #[.int .i64 i1,.int .i64 i2,.string n,v3,v4],By b])∧Gs v3∧Gs v4∧Wx aY tl q b w')∧Ai pb (pb+1) w w'
theorem M5.from {aY:Addr}{a g c:Nat}{T:List Ae}{b:Nat}{x:SR}{d w w':World}{r:Ending}(h:M5 aY a g c T b x w r w')(f:Ai a (a+1) d w):M5 aY a g c T b x d r w':=by
 cases x with
 | ok p q=>exact ⟨h.1,f.trans h.2⟩
 | bad q=>exact ⟨h.1,f.trans h.2⟩
theorem Qo (a b c d:Value)(w:World):(Instr.field 93 (.agg #[a,b,c,d]) 0).run Tryz.prog w= .ok a w:=by
 simp[Instr.field,run_underlying Tryz.underlying93,Sem.run_bind,part,asAgg,isAgg,go_sem]
def IQ (W:World) (b:Nat) (v0 v1 v2 v3 v4:Value):World:=(EY W b v0 v1 v2 v3).setCell ⟨b,4,none⟩ v4
theorem FU (a:World)(b k:Nat)(v0 v1 c d f:Value)(h:k≠b):(IQ a b v0 v1 c d f).heap[k]? =a.heap[k]? :=by
 unfold IQ;rw[heap_setCell_other _ _ _ _ h,Le _ _ _ _ _ _ _ h]
theorem Bf {f:World}{b:Nat}{g i j k l:Value}{t:TypeId}(h:Aj f b #[g,i,j,k,l] t)(v0 v1 a c d:Value):Aj (IQ f b v0 v1 a c d) b #[v0,v1,a,c,d] t:=by
 have:=((((h.set 0 v0).set 1 v1).set 2 a).set 3 c).set 4 d;exact this
theorem Ai.put5 {lo hi:Nat}{w w':World}{b:Nat}(T:Ai lo hi w w')(a:w.heap.size≤b)(v0 v1 c d f:Value):Ai lo hi w (IQ w' b v0 v1 c d f):=(T.put4P a v0 v1 c d).setNewP ⟨b,4,none⟩ f a
theorem Dd {i:Func}{a u:Tmp}(h:i.results= #[.cell a 47,.tmp u]){c:Array Value}{w:World}{b:Nat}{cs:Array Value}{v0 v1 d f g e:Value}(j:c.getD a undef= .pointer (some ⟨b,0,none⟩))(hu:c.getD u undef=e)
  (R:Aj w b #[v0,v1,d,f,g] 47):
  (results i c).run Tryz.prog w= .ok (.tuple #[.agg #[v0,v1,d,f,g],e]) w:=by
 rw[Array.getD_eq_getD_getElem?] at j hu;have k:w.cell? ⟨b,0,none⟩=some v0:=R.cell 0;have g1:w.cell? ⟨b,1,none⟩=some v1:=R.cell 1;have g2:w.cell? ⟨b,2,none⟩=some d:=R.cell 2;have g3:w.cell? ⟨b,3,none⟩=some f:=R.cell 3;have g4:w.cell? ⟨b,4,none⟩=some g:=R.cell 4;simp[results,h,j,hu,go_sem,k,g1,g2,g3,g4]
theorem EE {w:World}{b:Nat}{v0 v1 a c d:Value}{t:TypeId}(R:Aj w b #[v0,v1,a,c,d] t):w.cell? ⟨b,0,none⟩=some v0∧w.cell? ⟨b,1,none⟩=some v1∧w.cell? ⟨b,2,none⟩=some a∧w.cell? ⟨b,3,none⟩=some c∧w.cell? ⟨b,4,none⟩=some d∧∀ j,w.frozen? ⟨b,j,none⟩=false:=⟨R.cell 0,R.cell 1,R.cell 2,R.cell 3,R.cell 4,fun j=>R.frozen j⟩
theorem Pp.put5 {w:World}{k:Nat}{d:List Ae}(h:Pp w pb g c T tl d k){b:Nat}{cs:Array Value}(R:Aj w b cs 47)(v0 v1 f i j:Value):Pp (IQ w b v0 v1 f i j) pb g c T tl d k:=by
 have l:pb≠b:=fun e=>by
  have m:=R.out;have a:=h.row.out;rw[e,m] at a;injection a with a;injection a with _ a;exact absurd a (by decide)
 exact ⟨⟨(FU w b pb _ _ _ _ _ l).trans h.row.out⟩,Ac h.toks (fun q hq=>FU w b q _ _ _ _ _ (fun e=>Ad R h.toks (by decide) (by rw[hq,e]))),h.drop,h.len,h.small⟩
theorem Ex.own_of {lo:Nat}{w w':World}(hk:∀ (v:Value) (n:Nat) (b:List Value),w.ownsRow lo 9 1 v n b→∀ q,v.ownBlock=some q→w'.heap[q]? =w.heap[q]?):∀ (e:Ex),e.own lo w→e.own lo w'
 | .int ..,h=>h
 | .text ..,h=>h
 | .bool ..,h=>h
 | .set _ a n c ss,h=>Ac h (fun q hq=>hk _ _ _ h q hq)
 | .name ..,h=>h
 | .attr ..,h=>h
 | .lett ..,h=>h
 | .un _ _ k,h=>k.own_of hk h
 | .bin _ _ l r,h=>⟨l.own_of hk h.1,r.own_of hk h.2⟩
 | .ite _ c t e,h=>⟨c.own_of hk h.1,t.own_of hk h.2.1,e.own_of hk h.2.2⟩
theorem Ex.own_put5 {lo:Nat}{w:World}{b:Nat}{cs:Array Value}(R:Aj w b cs 47)(v0 v1 a c d:Value)(e:Ex)(h:e.own lo w):e.own lo (IQ w b v0 v1 a c d):=
 e.own_of (fun v n g f q hq=>FU w b q _ _ _ _ _ (fun e=>Ad R f (by decide) (by rw[hq,e]))) h
theorem Et {lo:Nat}{w:World}{b:Nat}{cs:Array Value}(R:Aj w b cs 47)(v0 v1 c d f:Value)(a:Option Ex)(h:KA lo w a):KA lo (IQ w b v0 v1 c d f) a:=by
 cases a with
 | none=>trivial
 | some e=>exact e.own_put5 R v0 v1 c d f h
theorem Wx.put5 {w:World}{c:Nat}{q:List Ae}(h:Wx aY tl q c w){b:Nat}{cs:Array Value}(R:Aj w b cs 47)(v0 v1 f g i:Value):Wx aY tl q c (IQ w b v0 v1 f g i):=by
 have d:Aj w c _ 107:=h;have j:c≠b:=fun e=>by
  have k:=R.out;have a:=d.out;rw[e,k] at a;injection a with a;injection a with _ a;exact absurd a (by decide)
 exact ⟨(FU w b c _ _ _ _ _ j).trans d.out⟩
end Go.Proofs.YtoplnhndilmlcaaGreatDoor
namespace Go.Proofs.YtoplnhndilmlcaaGreatDoor
set_option maxRecDepth 100000
set_option maxHeartbeats 1600000
open Go.RowKit
set_option linter.unusedVariables false
variable {aY : Addr} {pb g c : Nat} {T : List Ae} {tl : Nat}
theorem Lu (p: 16≤pb)(t:Ae)(r:List Ae)(q:(CX tl r).kind≠3)(w:World)(k:Nat)(h:Pp w pb g c T tl (t ::r) k)(l:Gy w aY):
  Calls Tryz.prog 112 #[.pointer (some ⟨pb,0,none⟩)] w (M5 aY pb g c T tl (.bad r) w):=by
 have a:=(Below.refl w.heap.size w).alloc NLN (.cells #[.int .i64 0,.int .i64 0,.string ⟨#[]⟩,.nilIface,.nilIface] 47);have s:=Aj.new w #[.int .i64 0,.int .i64 0,.string ⟨#[]⟩,.nilIface,.nilIface] 47;have v:=Ab (l.below a);have x:=h.below a;have nz:=h.row.lt;have H:=Cp (.int .i64 t.kind) (.int .i64 t.num) (.string t.text) (.int .i64 (t.at_:Int));have e3:((CX tl r).kind != 3)=true:=bne_iff_ne.2 q;clear h l;go_enter Tryz.func112,Tryz.ntmps112
 go_wp2_with fail
 generalize w.alloc (.cells #[.int .i64 0,.int .i64 0,.string ⟨#[]⟩,.nilIface,.nilIface] 47)=I at *;refine (Bm x).mono ?_;rintro e m ⟨rfl,d,f⟩;have y:=s.touchP f (.inr nz);have z:=(Ai.of_below (lo:=pb) (hi:=pb+1) a NLN).trans f;have A:=Ab (Bc d);have B:=Ab (fun w' (n:Below m.heap.size m w')=>CH (d.below n) (((Aa v).touch f p).below n));clear d;dsimp only[Cf];go_wp2_with fail
 refine (Aa A).mono ?_;rintro e C ⟨rfl,i⟩;generalize CX tl r=u at e3;have J:=Qo (.int .i64 u.kind) (.int .i64 u.num) (.string u.text) (.int .i64 (u.at_:Int));dsimp only[Cf];go_wp2_with fail
 refine (Aa B C i).mono ?_;rintro e K ⟨b,rfl,E,o⟩;have j:=(y.after i NLN).after o NLN;have F:=(z.allP i).allP o;obtain ⟨L,c1,c2,c3,c4,M⟩:=EE j;dsimp only[By];go_wp2_with fail
 exact bodyPost_ret (Dd (cs:=#[]) Tryz.results112 rfl rfl (Bf j (.int .i64 0) (.int .i64 0) (.string ⟨#[]⟩) .nilIface .nilIface)) rfl ⟨⟨_,_,_,_,_,b,rfl,.inl rfl,.inl rfl,E.put5 j (.int .i64 0) (.int .i64 0) (.string ⟨#[]⟩) .nilIface .nilIface⟩,F.put5 NLN (.int .i64 0) (.int .i64 0) (.string ⟨#[]⟩) .nilIface .nilIface⟩
def W9 (t n:Ae):PR→SR
 | .bad q=> .bad q
 | .ok e []=> .bad []
 | .ok e (u ::q)=>if see Ax u=true then .ok ⟨t.at_,1,n.text,some e,none⟩ q else .bad (u ::q)
theorem OX (o: 16≤pb)(t n:Ae)(r:List Ae)(y:PR)(K:n.kind=3)(d:D (.beh Qf) r y)(w:World)(k:Nat)(h:Pp w pb g c T tl (t ::n ::r) k)(L:Gy w aY):
  Calls Tryz.prog 112 #[.pointer (some ⟨pb,0,none⟩)] w (M5 aY pb g c T tl (W9 t n y) w):=by
 have x:=(Below.refl w.heap.size w).alloc NLN (.cells #[.int .i64 0,.int .i64 0,.string ⟨#[]⟩,.nilIface,.nilIface] 47);have ac:=Aj.new w #[.int .i64 0,.int .i64 0,.string ⟨#[]⟩,.nilIface,.nilIface] 47;have ad:=Ab (L.below x);have M:=h.below x;have nz:=h.row.lt;have av:=Cp (.int .i64 t.kind) (.int .i64 t.num) (.string t.text) (.int .i64 (t.at_:Int));have aw:=Qo (.int .i64 n.kind) (.int .i64 n.num) (.string n.text) (.int .i64 (n.at_:Int));have ax:=Qm (.int .i64 n.kind) (.int .i64 n.num) (.string n.text) (.int .i64 (n.at_:Int));have e3:(n.kind != 3)=false:=by rw[K];rfl
 have ae:=Ab d;clear h L;go_enter Tryz.func112,Tryz.ntmps112
 go_wp2_with fail
 generalize w.alloc (.cells #[.int .i64 0,.int .i64 0,.string ⟨#[]⟩,.nilIface,.nilIface] 47)=ay at *;refine (Bm M).mono ?_;rintro e N ⟨rfl,z,A⟩;have af:=ac.touchP A (.inr nz);have ag:=(Ai.of_below (lo:=pb) (hi:=pb+1) x NLN).trans A;have ah:=Ab (Bc z);have ai:=Ab (fun w' (aj:Below N.heap.size N w')=>Bm (z.below aj));clear z M d K;dsimp only[Cf];go_wp2_with fail
 refine (Aa ah).mono ?_;rintro e ak ⟨rfl,B⟩;dsimp only[Cf,CX];go_wp2_with fail
 refine (Aa ai ak B).mono ?_;rintro e al ⟨rfl,O,P⟩;have Q:=(af.after B NLN).touchP P (.inr nz);have R:=(Ai.of_below (lo:=pb) (hi:=pb+1) B NLN).trans P;have S:=ag.trans R;have U:=Ab (((Aa ad).touch A o).touch R o);have ao:=Ab (g0 (aY:=aY) o Qf r y (Aa ae) al _ O (Aa U));clear O;dsimp only[Cf];go_wp2_with fail
 refine (Aa ao).mono ?_;intro az aA V;cases y with
 | bad q=>
  obtain ⟨⟨v,b,rfl,ap,C⟩,i⟩:=V;have j:=Q.touchP i (.inr nz);have s:=S.trans i;obtain ⟨W,c1,c2,c3,c4,X⟩:=EE j;rcases ap with rfl | ⟨aB,aC,rfl⟩
  all_goals
   dsimp only[By];go_wp2_with fail
   exact bodyPost_ret (Dd (cs:=#[]) Tryz.results112 rfl rfl (Bf j (.int .i64 0) (.int .i64 0) (.string ⟨#[]⟩) .nilIface .nilIface)) rfl ⟨⟨_,_,_,_,_,b,rfl,.inl rfl,.inl rfl,C.put5 j (.int .i64 0) (.int .i64 0) (.string ⟨#[]⟩) .nilIface .nilIface⟩,s.put5 NLN (.int .i64 0) (.int .i64 0) (.string ⟨#[]⟩) .nilIface .nilIface⟩
 | ok p q=>
  obtain ⟨⟨e,aD,rfl,he,Y,Z⟩,i⟩:=V;have j:=Q.touchP i (.inr nz);have s:=S.trans i;have aq:=Ab ((Aa U).touch i o);obtain ⟨l,m,hf⟩:=e.form;have E:=Ab (And.intro he (And.intro Y hf));rw[hf];have aa:(Aw Ax q=false→W9 t n (.ok p q)= .bad q)∧(∀ u a,q=u ::a→see Ax u=true→W9 t n (.ok p q)= .ok ⟨t.at_,1,n.text,some p,none⟩ a):=⟨fun h=>by
    cases q with
    | nil=>rfl
    | cons u q=>exact if_neg (by rw[show see Ax u=false from h];decide),fun u a e h=>by subst e;exact if_pos h⟩
  clear he Y hf;cases hq:Aw Ax q
  ·have F:=Ab (DF Z (Aa aq) Ax hq);have H:=Ab (aa.1 hq);clear hq;dsimp only;go_wp2_with fail
   refine (Aa F).mono ?_;rintro e ar ⟨b,rfl,C,ab⟩;have f:=j.after ab NLN;have I:=s.allP ab;obtain ⟨W,c1,c2,c3,c4,X⟩:=EE f;dsimp only[By];go_wp2_with fail
   rw[Aa H];exact bodyPost_ret (Dd (cs:=#[]) Tryz.results112 rfl rfl (Bf f (.int .i64 (t.at_:Int)) (.int .i64 1) (.string n.text) (.iface l m) .nilIface)) rfl ⟨⟨_,_,_,_,_,b,rfl,.inr ⟨_,_,rfl⟩,.inl rfl,C.put5 f (.int .i64 (t.at_:Int)) (.int .i64 1) (.string n.text) (.iface l m) .nilIface⟩,I.put5 NLN (.int .i64 (t.at_:Int)) (.int .i64 1) (.string n.text) (.iface l m) .nilIface⟩
  ·obtain ⟨u,a,rfl⟩:∃ u a,q=u ::a:=by
    cases q with
    | nil=>cases hq
    | cons u a=>exact ⟨u,a,rfl⟩
   have F:=Ab (CI Z Ax hq);have H:=Ab (aa.2 u a rfl hq);clear hq;dsimp only;go_wp2_with fail
   refine (Aa F).mono ?_;rintro e ar ⟨rfl,au,J⟩;have f:=j.touchP J (.inr nz);have I:=s.trans J;obtain ⟨W,c1,c2,c3,c4,X⟩:=EE f;dsimp only;go_wp2_with fail
   rw[Aa H];exact bodyPost_ret (Dd (cs:=#[]) Tryz.results112 rfl rfl (Bf f (.int .i64 (t.at_:Int)) (.int .i64 1) (.string n.text) (.iface l m) .nilIface)) rfl ⟨⟨some e,none,_,by rw[DG,DG,(Aa E).2.2];rfl,(Aa E).1,trivial,Et f _ _ _ _ _ (some e) (e.own_touch J (Aa E).2.1),trivial,au.put5 f (.int .i64 (t.at_:Int)) (.int .i64 1) (.string n.text) (.iface l m) .nilIface⟩,I.put5 NLN (.int .i64 (t.at_:Int)) (.int .i64 1) (.string n.text) (.iface l m) .nilIface⟩
def Qp (t:Ae) (e:Pt):DR→SR
 | .bad q=> .bad q
 | .ok g []=> .bad []
 | .ok g (u ::q)=>if see Ax u=true then .ok ⟨t.at_,2,Bg [],some e,g⟩ q else .bad (u ::q)
def Qq (t:Ae):DR→SR
 | .bad q=> .bad q
 | .ok g []=> .bad []
 | .ok g (u ::q)=>if see Ax u=true then .ok ⟨t.at_,3,Bg [],none,g⟩ q else .bad (u ::q)
theorem OY (o: 16≤pb)(t:Ae)(r q:List Ae)(d:D (.beh Bk) (t ::r) (.bad q))(w:World)(k:Nat)(h:Pp w pb g c T tl (t ::r) k)(l:Gy w aY):
  Calls Tryz.prog 113 #[.pointer (some ⟨pb,0,none⟩)] w (M5 aY pb g c T tl (.bad q) w):=by
 have f:=(Below.refl w.heap.size w).alloc NLN (.cells #[.int .i64 0,.int .i64 0,.string ⟨#[]⟩,.nilIface,.nilIface] 47);have p:=Aj.new w #[.int .i64 0,.int .i64 0,.string ⟨#[]⟩,.nilIface,.nilIface] 47;have s:=Ab (l.below f);have i:=h.below f;have nz:=h.row.lt;have H:=Cp (.int .i64 t.kind) (.int .i64 t.num) (.string t.text) (.int .i64 (t.at_:Int));have u:=Ab d;clear h l;go_enter Tryz.func113,Tryz.ntmps113
 go_wp2_with fail
 generalize w.alloc (.cells #[.int .i64 0,.int .i64 0,.string ⟨#[]⟩,.nilIface,.nilIface] 47)=I at *;refine (Bc i).mono ?_;rintro e x ⟨rfl,a⟩;have m:=i.below a;have y:=p.after a NLN;have z:=(Ai.of_below (lo:=pb) (hi:=pb+1) f NLN).allP a;have A:=Ab ((Aa s).below a);have B:=Ab (g0 (aY:=aY) o Bk _ _ (Aa u) x _ m (Aa A));clear m i d;dsimp only[Cf,CX];go_wp2_with fail
 refine (Aa B).mono ?_;rintro J K ⟨⟨v,b,rfl,C,E⟩,n⟩;have j:=y.touchP n (.inr nz);have F:=z.trans n;obtain ⟨L,c1,c2,c3,c4,M⟩:=EE j;rcases C with rfl | ⟨N,O,rfl⟩
 all_goals
  dsimp only[By];go_wp2_with fail
  exact bodyPost_ret (Dd (cs:=#[]) Tryz.results113 rfl rfl (Bf j (.int .i64 0) (.int .i64 0) (.string ⟨#[]⟩) .nilIface .nilIface)) rfl ⟨⟨_,_,_,_,_,b,rfl,.inl rfl,.inl rfl,E.put5 j (.int .i64 0) (.int .i64 0) (.string ⟨#[]⟩) .nilIface .nilIface⟩,F.put5 NLN (.int .i64 0) (.int .i64 0) (.string ⟨#[]⟩) .nilIface .nilIface⟩
theorem Lv (o: 16≤pb)(t:Ae)(r q:List Ae)(p:Pt)(y:DR)(d:D (.beh Bk) (t ::r) (.ok p q))(d2:DD Ce q y)(w:World)(k:Nat)(h:Pp w pb g c T tl (t ::r) k)(L:Gy w aY):
  Calls Tryz.prog 113 #[.pointer (some ⟨pb,0,none⟩)] w (M5 aY pb g c T tl (Qp t p y) w):=by
 have A:=(Below.refl w.heap.size w).alloc NLN (.cells #[.int .i64 0,.int .i64 0,.string ⟨#[]⟩,.nilIface,.nilIface] 47);have ae:=Aj.new w #[.int .i64 0,.int .i64 0,.string ⟨#[]⟩,.nilIface,.nilIface] 47;have af:=Ab (L.below A);have B:=h.below A;have nz:=h.row.lt;have az:=Cp (.int .i64 t.kind) (.int .i64 t.num) (.string t.text) (.int .i64 (t.at_:Int));have ag:=Ab d;have ah:=Ab d2;clear h L;go_enter Tryz.func113,Tryz.ntmps113
 go_wp2_with fail
 generalize w.alloc (.cells #[.int .i64 0,.int .i64 0,.string ⟨#[]⟩,.nilIface,.nilIface] 47)=aA at *;refine (Bc B).mono ?_;rintro e ai ⟨rfl,s⟩;have M:=B.below s;have aj:=ae.after s NLN;have ak:=(Ai.of_below (lo:=pb) (hi:=pb+1) A NLN).allP s;have N:=Ab ((Aa af).below s);have al:=Ab (g0 (aY:=aY) o Bk _ _ (Aa ag) ai _ M (Aa N));clear M B d d2;dsimp only[Cf,CX];go_wp2_with fail
 refine (Aa al).mono ?_;rintro ao ap ⟨⟨e,aB,rfl,he,O,P⟩,C⟩;have Q:=aj.touchP C (.inr nz);have R:=ak.trans C;have S:=Ab ((Aa N).touch C o);obtain ⟨l,m,hf⟩:=e.form;have E:=Ab (And.intro he (And.intro O hf));rw[hf];have aq:=Ab (IP (aY:=aY) o Ce q y (Aa ah) ap _ P (Aa S));clear he O hf P;dsimp only;go_wp2_with fail
 refine (Aa aq).mono ?_;intro ao aC U;cases y with
 | bad q2=>
  obtain ⟨⟨v,b,rfl,ar,F⟩,i⟩:=U;have n:=Q.touchP i (.inr nz);have x:=R.trans i;obtain ⟨V,c1,c2,c3,c4,W⟩:=EE n;rcases ar with rfl | ⟨aD,aE,rfl⟩
  all_goals
   dsimp only[By];go_wp2_with fail
   exact bodyPost_ret (Dd (cs:=#[]) Tryz.results113 rfl rfl (Bf n (.int .i64 0) (.int .i64 0) (.string ⟨#[]⟩) .nilIface .nilIface)) rfl ⟨⟨_,_,_,_,_,b,rfl,.inl rfl,.inl rfl,F.put5 n (.int .i64 0) (.int .i64 0) (.string ⟨#[]⟩) .nilIface .nilIface⟩,x.put5 NLN (.int .i64 0) (.int .i64 0) (.string ⟨#[]⟩) .nilIface .nilIface⟩
 | ok g2 q2=>
  obtain ⟨⟨j,aF,rfl,X,Y,Z⟩,i⟩:=U;have n:=Q.touchP i (.inr nz);have x:=R.trans i;have au:=Ab ((Aa S).touch i o);have H:=Ab (And.intro X (And.intro Y (e.own_touch i (Aa E).2.1)));have aa:=GV j;have av:=Ab (show DG j=DG j from rfl);generalize ab:DG j=aG at aa;have aw:=Ab ab;clear av ab X Y;have ac:(Aw Ax q2=false→Qp t p (.ok g2 q2)= .bad q2)∧(∀ u a,q2=u ::a→see Ax u=true→Qp t p (.ok g2 q2)= .ok ⟨t.at_,2,Bg [],some p,g2⟩ a):=⟨fun h=>by
    cases q2 with
    | nil=>rfl
    | cons u q=>exact if_neg (by rw[show see Ax u=false from h];decide),fun u a e h=>by subst e;exact if_pos h⟩
  rcases aa with rfl | ⟨aH,aI,rfl⟩
  all_goals
   cases hq:Aw Ax q2
   ·have I:=Ab (DF Z (Aa au) Ax hq);have J:=Ab (ac.1 hq);clear hq;dsimp only;go_wp2_with fail
    refine (Aa I).mono ?_;rintro e ax ⟨b,rfl,F,ad⟩;have f:=n.after ad NLN;have K:=x.allP ad;obtain ⟨V,c1,c2,c3,c4,W⟩:=EE f;dsimp only[By];go_wp2_with fail
    rw[Aa J];exact bodyPost_ret (Dd (cs:=#[]) Tryz.results113 rfl rfl (Bf f (.int .i64 (t.at_:Int)) (.int .i64 2) (.string ⟨#[]⟩) (.iface l m) _)) rfl ⟨⟨_,_,_,_,_,b,rfl,.inr ⟨_,_,rfl⟩,by first | exact .inl rfl | exact .inr ⟨_,_,rfl⟩,F.put5 f (.int .i64 (t.at_:Int)) (.int .i64 2) (.string ⟨#[]⟩) (.iface l m) _⟩,K.put5 NLN (.int .i64 (t.at_:Int)) (.int .i64 2) (.string ⟨#[]⟩) (.iface l m) _⟩
   ·obtain ⟨u,a,rfl⟩:∃ u a,q2=u ::a:=by
     cases q2 with
     | nil=>cases hq
     | cons u a=>exact ⟨u,a,rfl⟩
    have I:=Ab (CI Z Ax hq);have J:=Ab (ac.2 u a rfl hq);clear hq;dsimp only;go_wp2_with fail
    refine (Aa I).mono ?_;rintro e ax ⟨rfl,ay,z⟩;have f:=n.touchP z (.inr nz);have K:=x.trans z;obtain ⟨V,c1,c2,c3,c4,W⟩:=EE f;dsimp only;go_wp2_with fail
    rw[Aa J];exact bodyPost_ret (Dd (cs:=#[]) Tryz.results113 rfl rfl (Bf f (.int .i64 (t.at_:Int)) (.int .i64 2) (.string ⟨#[]⟩) (.iface l m) _)) rfl ⟨⟨some e,j,_,by rw[DG,Aa aw,(Aa E).2.2];rfl,(Aa E).1,(Aa H).1,Et f _ _ _ _ _ (some e) (e.own_touch z (Aa H).2.2),Et f _ _ _ _ _ j (Lt z j (Aa H).2.1),ay.put5 f (.int .i64 (t.at_:Int)) (.int .i64 2) (.string ⟨#[]⟩) (.iface l m) _⟩,K.put5 NLN (.int .i64 (t.at_:Int)) (.int .i64 2) (.string ⟨#[]⟩) (.iface l m) _⟩
theorem Lw (B: 16≤pb)(t:Ae)(r:List Ae)(y:DR)(d2:DD AE (t ::r) y)(w:World)(k:Nat)(h:Pp w pb g c T tl (t ::r) k)(C:Gy w aY):
  Calls Tryz.prog 114 #[.pointer (some ⟨pb,0,none⟩)] w (M5 aY pb g c T tl (Qq t y) w):=by
 have n:=(Below.refl w.heap.size w).alloc NLN (.cells #[.int .i64 0,.int .i64 0,.string ⟨#[]⟩,.nilIface,.nilIface] 47);have V:=Aj.new w #[.int .i64 0,.int .i64 0,.string ⟨#[]⟩,.nilIface,.nilIface] 47;have W:=Ab (C.below n);have o:=h.below n;have nz:=h.row.lt;have af:=Cp (.int .i64 t.kind) (.int .i64 t.num) (.string t.text) (.int .i64 (t.at_:Int));have X:=Ab d2;clear h C;go_enter Tryz.func114,Tryz.ntmps114
 go_wp2_with fail
 generalize w.alloc (.cells #[.int .i64 0,.int .i64 0,.string ⟨#[]⟩,.nilIface,.nilIface] 47)=ag at *;refine (Bc o).mono ?_;rintro e Y ⟨rfl,l⟩;have E:=o.below l;have F:=V.after l NLN;have H:=(Ai.of_below (lo:=pb) (hi:=pb+1) n NLN).allP l;have I:=Ab ((Aa W).below l);have Z:=Ab (IP (aY:=aY) B AE (t ::r) y (Aa X) Y _ E (Aa I));clear E o d2;dsimp only[Cf,CX];go_wp2_with fail
 refine (Aa Z).mono ?_;intro ah ai J;cases y with
 | bad q2=>
  obtain ⟨⟨v,b,rfl,aa,p⟩,f⟩:=J;have i:=F.touchP f (.inr nz);have m:=H.trans f;obtain ⟨K,c1,c2,c3,c4,L⟩:=EE i;rcases aa with rfl | ⟨aj,ak,rfl⟩
  all_goals
   dsimp only[By];go_wp2_with fail
   exact bodyPost_ret (Dd (cs:=#[]) Tryz.results114 rfl rfl (Bf i (.int .i64 0) (.int .i64 0) (.string ⟨#[]⟩) .nilIface .nilIface)) rfl ⟨⟨_,_,_,_,_,b,rfl,.inl rfl,.inl rfl,p.put5 i (.int .i64 0) (.int .i64 0) (.string ⟨#[]⟩) .nilIface .nilIface⟩,m.put5 NLN (.int .i64 0) (.int .i64 0) (.string ⟨#[]⟩) .nilIface .nilIface⟩
 | ok g2 q2=>
  obtain ⟨⟨j,al,rfl,M,N,O⟩,f⟩:=J;have i:=F.touchP f (.inr nz);have m:=H.trans f;have ab:=Ab ((Aa I).touch f B);have P:=Ab (And.intro M N);have Q:=GV j;generalize R:DG j=ao at Q;have ac:=Ab R;clear R M N;have S:(Aw Ax q2=false→Qq t (.ok g2 q2)= .bad q2)∧(∀ u a,q2=u ::a→see Ax u=true→Qq t (.ok g2 q2)= .ok ⟨t.at_,3,Bg [],none,g2⟩ a):=⟨fun h=>by
    cases q2 with
    | nil=>rfl
    | cons u q=>exact if_neg (by rw[show see Ax u=false from h];decide),fun u a e h=>by subst e;exact if_pos h⟩
  rcases Q with rfl | ⟨ap,aq,rfl⟩
  all_goals
   cases hq:Aw Ax q2
   ·have s:=Ab (DF O (Aa ab) Ax hq);have x:=Ab (S.1 hq);clear hq;dsimp only;go_wp2_with fail
    refine (Aa s).mono ?_;rintro e ad ⟨b,rfl,p,U⟩;have d:=i.after U NLN;have z:=m.allP U;obtain ⟨K,c1,c2,c3,c4,L⟩:=EE d;dsimp only[By];go_wp2_with fail
    rw[Aa x];exact bodyPost_ret (Dd (cs:=#[]) Tryz.results114 rfl rfl (Bf d (.int .i64 (t.at_:Int)) (.int .i64 3) (.string ⟨#[]⟩) .nilIface _)) rfl ⟨⟨_,_,_,_,_,b,rfl,.inl rfl,by first | exact .inl rfl | exact .inr ⟨_,_,rfl⟩,p.put5 d (.int .i64 (t.at_:Int)) (.int .i64 3) (.string ⟨#[]⟩) .nilIface _⟩,z.put5 NLN (.int .i64 (t.at_:Int)) (.int .i64 3) (.string ⟨#[]⟩) .nilIface _⟩
   ·obtain ⟨u,a,rfl⟩:∃ u a,q2=u ::a:=by
     cases q2 with
     | nil=>cases hq
     | cons u a=>exact ⟨u,a,rfl⟩
    have s:=Ab (CI O Ax hq);have x:=Ab (S.2 u a rfl hq);clear hq;dsimp only;go_wp2_with fail
    refine (Aa s).mono ?_;rintro e ad ⟨rfl,ae,A⟩;have d:=i.touchP A (.inr nz);have z:=m.trans A;obtain ⟨K,c1,c2,c3,c4,L⟩:=EE d;dsimp only;go_wp2_with fail
    rw[Aa x];exact bodyPost_ret (Dd (cs:=#[]) Tryz.results114 rfl rfl (Bf d (.int .i64 (t.at_:Int)) (.int .i64 3) (.string ⟨#[]⟩) .nilIface _)) rfl ⟨⟨none,j,_,by rw[DG,Aa ac];rfl,trivial,(Aa P).1,trivial,Et d _ _ _ _ _ j (Lt A j (Aa P).2),ae.put5 d (.int .i64 (t.at_:Int)) (.int .i64 3) (.string ⟨#[]⟩) .nilIface _⟩,z.put5 NLN (.int .i64 (t.at_:Int)) (.int .i64 3) (.string ⟨#[]⟩) .nilIface _⟩
end Go.Proofs.YtoplnhndilmlcaaGreatDoor
