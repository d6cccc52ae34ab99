/-
  VPM0, QJ1, VPM, QM0, VPV, VPW, VPO, ZT10. Own work.
-/
import Derived.Test.YtchakjeegneeoaaGreatDoorMXAN
import Derived.Test.YtchakjeegneeoaaGreatDoorMXAP
import Derived.Test.YtchakjeegneeoaaGreatDoorMXAJ
import Derived.Test.YtchakjeegneeoaaGreatDoorMXAZ
import Derived.Test.YtchakjeegneeoaaGreatDoorMXAG
import Derived.Test.YtchakjeegneeoaaGreatDoorMXAI
namespace Go.Proofs.YtchakjeegneeoaaGreatDoor
open Go.RowKit
set_option linter.unusedVariables false
def Ey (N:List Nd) (L:List St):Bool:=match CB (N.map Nd.kids) N.length [] 0 with
 |none=>false
 |some S=>decide (Aq S=L.flatMap Ak)
theorem Ba {w:World}{b:Nat}{a c:Value}{t:TypeId}(R:Al w b #[a,c] t):w.cell? ⟨b,0,none⟩=some a∧w.cell? ⟨b,1,none⟩=some c:=⟨R.cell 0,R.cell 1⟩
theorem UD {K:List (List Int)} :∀ {k:Nat} {S:List (Nat × Nat)},CB K k [] 0=some S→S.length≤k∧k≤K.length∨k=0∧S= []
 | 0,S,h=>by right;rw[CB] at h;cases h;exact ⟨rfl,rfl⟩
 |k+1,S,h=>by
  left;rw[GL K k 1 [] 0] at h;cases h1:CB K k [] 0 with
  |none=>rw[h1] at h;cases h
  |some S1=>
   rw[h1] at h
   change CB K 1 S1 (0+k)=some S at h
   rw[zX,CB] at h;cases h2:K[k]? with
   |none=>rw[h2] at h;cases h
   |some ks=>
    rw[h2] at h;dsimp only at h;cases h3:DQ S1 k ks with
    |none=>rw[h3] at h;cases h
    |some c=>
     rw[h3] at h
     change some c=some S at h
     cases h;have f:=(ze.1 h2).1;obtain ⟨g,B,e1,_,_,e2⟩:=OV h3;have d:=UD h1;rw[e2,zA,z7];rcases d with ⟨b,a⟩ | ⟨b,a⟩
     ·rw[e1,zA] at b;omega
     ·rw[e1] at a;have:=List.append_eq_nil_iff.1 a;rw[this.1];simp;omega
theorem Mf {s:ByteArray}(h:BD s=true):s.size≤32:=by
 unfold BD at h;have e:(Ap s).length=s.size:=by simp[Ap]
 cases hs:Ap s with
 |nil=>rw[hs] at e;simp at e;omega
 |cons c r=>
  rw[hs] at h;simp only[zI,zG] at h;rw[← e,hs];exact h.1.1.1
theorem RM {s:ByteArray}(h:BM s=true):s.size≤32:=by
 unfold BM at h;simp only[zI,zG] at h;exact h.1
theorem FZ {a:List ByteArray}(h:JC a=true):a.length≤64∧∀ x∈a,x.size≤32:=by
 unfold JC at h;simp only[zI,zG] at h;refine ⟨h.1,fun x hx=>?_⟩;have:=z6.1 h.2.1 x hx;simp only[vnB,zI,zG] at this;omega
theorem I8 {N:List Nd}{i:Nat}{Es:List Ex}(b:Es.length=i)(a:∀ j,(h:j < Es.length)→Ds N j Es[j]){k:Int}(hk: 0≤k∧k < i):∃ (m:Nat) (e:Ex),k=m∧m < i∧Es[m]? =some e∧Ds N m e:=by
 refine ⟨k.toNat,Es[k.toNat]'(by omega),by omega,by omega,zH _,a _ _⟩
theorem ZG {N:List Nd}{w:World}{i:Nat}{x:Nd}{an:Option Addr}{nn y:Nat}(hx:N[i]? =some x)(hf:As x=true)(hk:∀ k∈x.kids,0≤k∧k < i)(E:x.num≤9223372036854775807){Es:List Ex}(b:Es.length=i)
  (c:∀ j,(h:j < Es.length)→Ds N j Es[j])(F:∀ e∈Es,e.fit w)(B:Bg w an nn y x.names):∃ e,YH Es i x an nn y e∧Ds N i e∧e.fit w:=by
 unfold As at hf;rw[zI,zG] at hf;obtain ⟨H,hf⟩:=hf;have u:∀ n:Nat,Dn x.op=n→x.kids.length=n:=fun n e=>by omega
 have q:(1≤x.op∧x.op≤7)→x.kids= []:=fun h=>zy (u 0 (by rw[Dn,if_pos h];rfl));have d:∀ {m:Nat} {e:Ex},Es[m]? =some e→e.fit w:=fun h=>F _ (z5 h);by_cases h1:x.op=1
 ·rw[if_pos h1] at hf;simp only[zI,zG] at hf;exact ⟨_,.int h1,.int hx h1 (q (by omega)),hf.1.1,E⟩
 rw[if_neg h1] at hf;by_cases h2:x.op=2
 ·rw[if_pos h2] at hf;simp only[zI,zG] at hf;exact ⟨_,.text h2,.text hx h2 (q (by omega)),RM hf.1.1⟩
 rw[if_neg h2] at hf;by_cases h3:x.op=3
 ·exact ⟨_,.bool h3,.bool hx h3 (q (by omega)),trivial⟩
 rw[if_neg h3] at hf;by_cases h4:x.op=4
 ·rw[if_pos h4] at hf;simp only[zI,zG] at hf;obtain ⟨J,I⟩:=FZ hf.1.1;exact ⟨_,.set h4,.set hx h4 (q (by omega)) an nn y,B,by have:=B.len;omega,I⟩
 rw[if_neg h4] at hf;by_cases h5:x.op=5
 ·rw[if_pos h5] at hf;simp only[zI,zG] at hf;exact ⟨_,.name h5,.name hx h5 (q (by omega)),Mf hf.1.1⟩
 rw[if_neg h5] at hf;by_cases h6:x.op=6∨x.op=7
 ·rw[if_pos h6] at hf;cases hf
 by_cases h8: 8≤x.op∧x.op≤10
 ·have r:=u 1 (by rw[Dn,if_neg (by omega),if_pos h8];rfl)
  match a:x.kids,r with
  | [k],_=>
   obtain ⟨m,e,rfl,s,g1,g2⟩:=I8 b c (hk k (by rw[a];simp));exact ⟨_,.un h8 a g1,.un hx h8 a s g2,h8,d g1⟩
 by_cases h11: 11≤x.op∧x.op≤26
 ·have r:=u 2 (by rw[Dn,if_neg (by omega),if_neg h8,if_pos h11];rfl)
  match a:x.kids,r with
  | [k,l],_=>
   obtain ⟨m,e,rfl,s,g1,g2⟩:=I8 b c (hk k (by rw[a];simp));obtain ⟨n,f,rfl,z,t,A⟩:=I8 b c (hk l (by rw[a];simp));exact ⟨_,.bin h11 a g1 t,.bin hx h11 a ⟨s,z⟩ g2 A,h11,d g1,d t⟩
 by_cases v:x.op=27
 ·have r:=u 3 (by rw[Dn,if_neg (by omega),if_neg h8,if_neg h11,if_pos v];rfl)
  match a:x.kids,r with
  | [k,l,o],_=>
   obtain ⟨m,e,rfl,s,g1,g2⟩:=I8 b c (hk k (by rw[a];simp));obtain ⟨n,f,rfl,z,t,A⟩:=I8 b c (hk l (by rw[a];simp));obtain ⟨p,g,rfl,hp,C,q2⟩:=I8 b c (hk o (by rw[a];simp));exact ⟨_,.ite v a g1 t C,.ite hx v a ⟨s,z,hp⟩ g2 A q2,d g1,d t,d C⟩
 ·rw[Dn,if_neg (by omega),if_neg h8,if_neg h11,if_neg v] at H;omega
theorem Pj {a:World}{N:List Nd}(b:∀ x∈N,As x=true)(c:∀ x∈N,x.num≤9223372036854775807)(d:∀ (i:Nat) (x:Nd),N[i]? =some x→∀ k∈x.kids,0≤k∧k < (i:Int)):Aa2 a N (fun e=>e.fit a):=
 fun k x an nn j Es hx f g hf h=>ZG (w:=a) hx (b _ (z5 hx)) (d k _ hx) (c _ (z5 hx)) f g hf h
set_option maxRecDepth 100000
set_option maxHeartbeats 3200000
def Bo (N:List Nd) (L:List St):Bool:=decide (N.length≤4000) && (decide (1≤L.length∧L.length≤600) && CN L) && N.all As && Ey N L
theorem OZ (a b:Option Addr)(n c m d:Nat)(N:List Nd)(L:List St)(w:World)(h1:GQ w a n c N)(h2:KN w b m d L)(Y:Jl w):
  Calls Tryz.prog 94 #[.agg #[.slice a n c,.slice b m d],.func (.func 95) #[] #[]] w fun e w'=>e= .returned (.bool (Bo N L))∧Below w.heap.size w w':=by
 have ao:=h1.small;have ap:=h2.small;have Z:=Ab h1.len;have aa:=Ab h2.len;have x:=Ab (show Bo N L=(decide (n≤4000) && (decide (1≤m∧m≤600) && CN L) && N.all As && Ey N L) by rw[Bo,h1.len,h2.len]);have j:=Al.new w #[.slice a n c,.slice b m d] 36;have g:=(Below.refl w.heap.size w).alloc NLN (.cells #[.slice a n c,.slice b m d] 36);have l:=h1.below g NLN;have o:=h2.below g NLN;have T0:=Y.below g NLN;go_enter Tryz.func94,Tryz.ntmps94
 by_cases H: 4000 < n
 ·have ab:(4000 :Int) < (n:Int):=by omega
  have h:=Ab (show Bo N L=false by rw[Aa x,zR (by omega)];rfl);clear H;go_wp2_with fail
  go_ret
  exact ⟨Ag (Aa h).symm,g⟩
 have ab: ¬ ((4000 :Int) < (n:Int)):=by omega
 have s:=Ab (show Bo N L=((decide (1≤m∧m≤600) && CN L) && N.all As && Ey N L) by rw[Aa x,zW (by omega)];rfl);clear H x;generalize I:(decide (1≤m∧m≤600) && CN L)=ac at s;have p:=Ab I;clear I;cases ac
 ·have h:=Ab (show Bo N L=false by rw[Aa s];rfl);go_wp2_with (go_at_call 123;refine (Eo _ _ _ _ _ o).mono ?_;rintro e w2 ⟨rfl,f⟩;rw[Aa p])
  go_ret
  exact ⟨Ag (Aa h).symm,g.trans (f.mono g.size)⟩
 ·have t:=Ab (show Bo N L=(N.all As && Ey N L) by rw[Aa s,Z0]);clear s;generalize J:N.all As=ad at t;have y:=Ab J;clear J;cases ad
  ·have h:=Ab (show Bo N L=false by rw[Aa t];rfl);go_wp2_with (first
    |(go_at_call 123;refine (Eo _ _ _ _ _ o).mono ?_;rintro e w2 ⟨rfl,f⟩;rw[Aa p];obtain ⟨M,O⟩:=Ba (j.after f NLN))
    |(go_at_call 124;refine (FP _ _ _ _ _ (l.below f NLN) (T0.below f NLN)).mono ?_;rintro e P ⟨rfl,q⟩;rw[Aa y]))
   go_ret
   exact ⟨Ag (Aa h).symm,g.trans ((f.trans (q.mono f.size)).mono g.size)⟩
  ·have Q:=Ab (show Bo N L=Ey N L by rw[Aa t,Z0]);clear t;have z:=Ab (show Ey N L=match CB (N.map Nd.kids) n [] 0 with | none=>false | some S=>decide (Aq S=L.flatMap Ak) by rw[Ey,Aa Z];try rfl)
   have R:=Ab (fun S=>(UD (K:=N.map Nd.kids) (k:=n) (S:=S)));generalize T:CB (N.map Nd.kids) n [] 0=ae at z R;have U:=Ab T;clear T;cases ae with
   |none=>
    have h:=Ab (show Bo N L=false by rw[Aa Q,Aa z]);go_wp2_with (first
     |(go_at_call 123;refine (Eo _ _ _ _ _ o).mono ?_;rintro e w2 ⟨rfl,f⟩;rw[Aa p];obtain ⟨M,O⟩:=Ba (j.after f NLN))
     |(go_at_call 124;refine (FP _ _ _ _ _ (l.below f NLN) (T0.below f NLN)).mono ?_;rintro e P ⟨rfl,q⟩;rw[Aa y];have i:=f.trans (q.mono f.size);obtain ⟨af,ag⟩:=Ba (j.after i NLN))
     |(go_at_call 125;refine (OY _ _ _ _ _ (l.below i NLN)).mono ?_;rw[Aa U];rintro e ah ⟨he,A⟩;change e=_ at he;subst he))
    go_ret
    exact ⟨Ag (Aa h).symm,g.trans ((i.trans (A.mono i.size)).mono g.size)⟩
   |some S=>
    obtain ⟨r,B⟩:∃ r,Hid (L.flatMap Ak=r):=⟨_,Ab rfl⟩
    obtain ⟨C,V⟩:∃ C,Hid (Aq S=C):=⟨_,Ab rfl⟩
    have h:=Ab (show Bo N L=decide (C=r) by rw[Aa Q,Aa z,Aa B];show decide (Aq S=r)=_;rw[Aa V]);have aq:S.length≤n:=by
     rcases Aa R S rfl with k | ⟨_,k⟩
     ·exact k.1
     ·subst k;simp
    have ar:m≤600:=(of_decide_eq_true (zI _ _ ▸ Aa p).1).2;have au:r.length≤2 * m:=by have:=LM L;rw[Aa aa,Aa B] at this;exact this
    go_wp2_with (first
     |(go_at_call 123;refine (Eo _ _ _ _ _ o).mono ?_;rintro e w2 ⟨rfl,f⟩;rw[Aa p];obtain ⟨M,O⟩:=Ba (j.after f NLN))
     |(go_at_call 124;refine (FP _ _ _ _ _ (l.below f NLN) (T0.below f NLN)).mono ?_;rintro e P ⟨rfl,q⟩;rw[Aa y];have i:=f.trans (q.mono f.size);obtain ⟨af,ag⟩:=Ba (j.after i NLN))
     |(go_at_call 125;refine (OY _ _ _ _ _ (l.below i NLN)).mono ?_;rw[Aa U];rintro e ah ⟨⟨v,he,E⟩,A⟩;subst he;rw[Aa V] at E;obtain ⟨av,aw,rfl,_⟩:=Ad E;have u:=i.trans (A.mono i.size);obtain ⟨ax,ay⟩:=Ba (j.after u NLN);have ai:=EJ E (by omega))
     |(go_at_call 127;refine (PI _ _ _ _ _ (o.below u NLN)).mono ?_;rintro e az ⟨v,rfl,F,W⟩;rw[Aa B] at F;obtain ⟨aA,aB,rfl,_⟩:=Ad F;have aj:=EJ F (by omega);have ak:=ai.below W NLN;have X:=u.trans (W.mono u.size))
     |(go_at_call 126;refine (VJ _ _ _ _ _ _ _ _ _ ak aj).mono ?_;rintro e aC ⟨rfl,al⟩))
    go_ret
    exact ⟨Ag (Aa h).symm,g.trans ((X.trans (al.mono X.size)).mono g.size)⟩
theorem KZ (a b:Option Addr)(n c m d:Nat)(N:List Nd)(L:List St)(w:World)(h1:GQ w a n c N)(h2:KN w b m d L)(g:Jl w):
  Calls Tryz.prog 58 #[.agg #[.slice a n c,.slice b m d]] w fun e w'=>e= .returned (.bool (Bo N L))∧Below w.heap.size w w':=by
 have f:=(Below.refl w.heap.size w).alloc NLN (.cells #[.slice a n c,.slice b m d] 36);go_enter Tryz.func58,Tryz.ntmps58
 go_wp2_with (go_at_call 94;refine (OZ _ _ _ _ _ _ _ _ _ (h1.below f NLN) (h2.below f NLN) (g.below f NLN)).mono ?_;rintro e w2 ⟨rfl,h⟩)
 go_ret
 exact ⟨rfl,f.trans (h.mono f.size)⟩
theorem Un {K:List (List Int)}{a b:Nat}{c:List (Nat × Nat)}(h:Ax K a c b):∀ t,a≤t→t < b→∃ ks:List (Nat × Nat),K[t]? =some (Aq ks)∧∀ p∈ks,p.1 < t:=by
 induction h with
 |nil a=>intro t h1 h2;omega
 |@cons a t b ks c hk ht hf d f=>
  intro q h1 h2;by_cases h3:q < t
  ·exact d q h1 h3
  by_cases h4:q=t
  ·subst h4;exact ⟨ks,ht,fun p hp=>(hk.lt p hp).2⟩
  ·exact f q (by omega) h2
theorem Aa3 {e:Ex} :∀ {Es:List Ex},e∈Es→e.cnt≤Jv Es
 |x ::Es,h=>by
  have e5:Jv (x ::Es)=x.cnt+Jv Es:=by simp[Jv]
  rw[e5];rcases zE.1 h with rfl | h
  ·omega
  ·have:=Aa3 h;omega
structure AcJ (N:List Nd) (L:List St):Prop where
 n:N.length≤4000
 m0: 1≤L.length
 m:L.length≤600
 fields:∀ x∈N,As x=true
 kids:∀ (i:Nat) (x:Nd),N[i]? =some x→∀ k∈x.kids,0≤k∧k < (i:Int)
 roots:∀ s∈L,(s.cond= -1∨(0≤s.cond∧s.cond < N.length))∧(s.grant= -1∨(0≤s.grant∧s.grant < N.length))
 stm:∀ s∈L,(s.kind=1∧s.name.size≤32∧0≤s.cond∧s.grant= -1)∨(s.kind=2∧0≤s.cond)∨(s.kind=3∧s.cond= -1)
 cnt:∀ (Es:List Ex),Es.length=N.length→(∀ j,(h:j < Es.length)→Ds N j Es[j])→∀ s∈L,∀ k,(k=s.cond∨k=s.grant)→0≤k→∀ e,Es[k.toNat]? =some e→e.cnt≤4000
theorem Om:∀ {L:List St},CN L=true→∀ s∈L,DL s=true
 |x ::L,h,s,hs=>by
  simp only[CN,zI] at h;rcases zE.1 hs with rfl | hs
  ·exact h.1.1
  ·exact Om h.2 s hs
theorem Fv {N:List Nd}{L:List St}(h:Bo N L=true):AcJ N L:=by
 simp only[Bo,zI,zG] at h;obtain ⟨⟨⟨h1,⟨h2,h3⟩,h4⟩,h5⟩,h6⟩:=h;obtain ⟨S,o,ht⟩:∃ S,CB (N.map Nd.kids) N.length [] 0=some S∧Aq S=L.flatMap Ak:=by
  rw[Ey] at h6;cases hq:CB (N.map Nd.kids) N.length [] 0 with
  |none=>rw[hq] at h6;cases h6
  |some S=>rw[hq] at h6;exact ⟨S,rfl,of_decide_eq_true h6⟩
 obtain ⟨b,_⟩:=EM N.length (.nil 0) (fun p hp=>(by cases hp)) o;rw[zX] at b;have l:∀ s∈L,∀ k∈Ak s,∃ p∈S,k=(p.1:Int):=fun s hs k hk=>by
  have:k∈Aq S:=by rw[ht];exact List.mem_flatMap.2 ⟨s,hs,hk⟩
  rw[Aq] at this;obtain ⟨p,hp,rfl⟩:=zQ.1 this;exact ⟨p,hp,rfl⟩
 have c:∀ s∈L,∀ k∈Ak s,0≤k∧k < N.length:=fun s hs k hk=>by
  obtain ⟨p,hp,rfl⟩:=l s hs k hk;have:=(b.lt p hp).2;omega
 have ac:∀ s∈L,s.kind≠3→s.cond∈Ak s:=fun s _ h=>by rw[Ak,if_pos h];simp
 have m:∀ s∈L,s.grant≠-1→s.grant∈Ak s:=fun s _ h=>by rw[Ak,if_pos h];simp
 have r:=Om h4;have stm:∀ s∈L,(s.kind=1∧s.name.size≤32∧0≤s.cond∧s.grant= -1)∨(s.kind=2∧0≤s.cond)∨(s.kind=3∧s.cond= -1):=fun s hs=>by
  have h:=r s hs;rw[DL] at h;by_cases d:s.kind=1
  ·rw[if_pos d] at h;simp only[zI,zG] at h;exact .inl ⟨d,Mf h.1,(c s hs _ (ac s hs (by omega))).1,h.2⟩
  rw[if_neg d] at h;by_cases n:s.kind=2
  ·exact .inr (.inl ⟨n,(c s hs _ (ac s hs (by omega))).1⟩)
  rw[if_neg n] at h;by_cases a:s.kind=3
  ·rw[if_pos a] at h;simp only[zI,zG] at h;exact .inr (.inr ⟨a,h.2⟩)
  ·rw[if_neg a] at h;cases h
 refine ⟨h1,h2,h3,fun x hx=>z6.1 h5 x hx,fun i x hx k hk=>?_,fun s hs=>⟨?_, ?_⟩,stm,fun Es t u s hs k hk h0 e he=>?_⟩
 ·have hi:i < N.length:=(ze.1 hx).1;obtain ⟨ks,e1,e2⟩:=Un b i (zF _) hi;rw[zh,hx] at e1;have e3:x.kids=Aq ks:=Option.some.inj e1;rw[e3,Aq] at hk;obtain ⟨p,hp,rfl⟩:=zQ.1 hk;have:=e2 p hp;omega
 ·by_cases a:s.kind=3
  ·rcases stm s hs with h | h | h
   ·omega
   ·omega
   ·exact .inl h.2
  ·exact .inr (c s hs _ (ac s hs a))
 ·by_cases g:s.grant= -1
  ·exact .inl g
  ·exact .inr (c s hs _ (m s hs g))
 ·have v:k∈Ak s:=by
   rcases hk with rfl | rfl
   ·apply ac s hs;intro a;rcases stm s hs with h | h | h <;> omega
   ·exact m s hs (by omega)
  obtain ⟨p,hp,rfl⟩:=l s hs k v;have f:∀ q∈S,q.1 < Es.length:=fun q hq=>by rw[t];exact (b.lt q hq).2
  have y:=Ju b (S.attach.map (fun q=>Es[q.1.1]'(f q.1 q.2))) (by simp) (fun j h1 h2=>by
   have:=u (S[j]).1 (f _ (zO h1));simpa using this)
  rw[zj] at he;have w:e∈S.attach.map (fun q=>Es[q.1.1]'(f q.1 q.2)):=by
   refine zQ.2 ⟨⟨p,hp⟩,List.mem_attach _ _, ?_⟩;exact (ze.1 he).2
  have:=Aa3 w;omega
theorem SP {w:World}{d:Nat}{e:TypeId}{size g n c:Nat}{f:List Value}(h:w.ownsRow d e size (.slice (some ⟨g,0,none⟩) n c) n f):∃ a,Al w g a e∧a.size=c * size:=by
 rcases h.2 with ⟨b,_⟩ | ⟨i,cap,a,b,h1,h2,h3,h4,h5,h6⟩
 ·cases b
 ·cases b;exact ⟨a,⟨h2⟩,h5⟩
def Adk (W:World) (b p:Nat) (v0 v1 v2 v3 v4:Value):World:=((((W.setCell ⟨b,p,none⟩ v0).setCell ⟨b,p+1,none⟩ v1).setCell ⟨b,p+2,none⟩ v2).setCell ⟨b,p+3,none⟩ v3).setCell ⟨b,p+4,none⟩ v4
def GM (F:Int→Nat) (ks:List Int):Nat:=ks.foldl (fun d k=>max d (F k)) 0
theorem Wj (F:Int→Nat)(ks:List Int)(k:Int):GM F (ks ++ [k])=max (GM F ks) (F k):=by
 rw[GM,zt];rfl
theorem UE {F:Int→Nat}{M:Nat}(h:∀ k,F k≤M):∀ (ks:List Int) (d:Nat),d≤M→ks.foldl (fun d k=>max d (F k)) d≤M
 | [],d,hd=>hd
 |k ::ks,d,hd=>by
  rw[List.foldl_cons];exact UE h ks _ (by have:=h k;omega)
theorem LQ (K:List (List Int)):∀ (n:Nat) (t:Int),BE K n t≤n+1
 | 0,t=>by rw[BE];show 1≤0+1;omega
 |n+1,t=>by
  rw[BE];dsimp only;have:=UE (F:=BE K n) (M:=n+1) (LQ K n) (K.getD t.toNat []) 0 (by omega);omega
theorem CK (a:Option Addr)(n c:Nat)(N:List Nd)(q:World)(C:GQ q a n c N)(E:∀ t,(h:t < N.length)→∀ y∈N[t].kids,0≤y∧y < (t:Int)):
  ∀ (fuel t:Nat) (w:World),fuel≤4001→t < n→t < fuel→Below q.heap.size q w→
  Calls Tryz.prog 48 #[.slice a n c,.int .i64 t] w fun e w'=>e= .returned (.int .i64 (BE (N.map Nd.kids) fuel (t:Int)))∧Below w.heap.size w w':=by
 have M:=Ab C.len;have O:=Ab E;clear E;intro fuel
 induction fuel with
 |zero=>intro t w _ _ h;omega
 |succ fuel r=>
  intro t w aa P ab u;have v:t < N.length:=by rw[Aa M];exact P
  have ac:(t:Int) < (n:Int):=by omega
  have hk:=Aa O t v;have H:=Ab (show BE (N.map Nd.kids) (fuel+1) (t:Int)=GM (BE (N.map Nd.kids) fuel) N[t].kids+1 by
   rw[BE];dsimp only;rw[zj,yG,zh,zH v];rfl)
  have I:=Ab (LQ (N.map Nd.kids) fuel);obtain ⟨b,Q,rfl,R,an,nn,ad,ae,g,af,c0,c1,c2,c3,c4,S,l⟩:=C.cells t v;have c4:=(u.cell (p:=⟨b,Q+t * 5+4,none⟩) R).trans c4;rw[Aa H];clear H c0 c1 c2 c3;generalize N[t]=x at c4 S l hk ⊢;generalize BE (N.map Nd.kids) fuel=F at r I ⊢;have J:=Ab l.len;have ag:=l.small;have T:=Ab hk;clear hk;go_enter Tryz.func48,Tryz.ntmps48
  go_wp2_with fail
  go_loopw [5,15] (fun d i wr=>∃ j:Nat,j≤g∧i= .int .i64 j∧d= .int .i64 (GM F (x.kids.take j))∧GM F (x.kids.take j)≤4001∧Below w.heap.size w wr) (fun _ i _=>g - (intOf i).toNat)
  case atStart=>exact ⟨0,by omega,rfl,rfl,by simp[GM],BRN⟩
  case round=>
   obtain ⟨j,ah,rfl,rfl,hd,f⟩:=hrel;have z:=u.trans (f.mono u.size);by_cases K:j < g
   ·have ai:(j:Int) < (g:Int):=by omega
    have A:j < x.kids.length:=by rw[Aa J];exact K
    obtain ⟨aj,ok,rfl,ak,U⟩:=(l.below z NLN).cells j A;obtain ⟨V,W⟩:=Aa T x.kids[j] (zO A);have m:=Ab (show GM F (x.kids.take (j+1))=max (GM F (x.kids.take j)) (F x.kids[j]) by rw[zf A,Wj]);have o:=Ab K;generalize x.kids[j]=y at U V W m;obtain ⟨s,rfl⟩:∃ s:Nat,y=(s:Int):=⟨y.toNat,by omega⟩
    have al:=Aa I (s:Int);generalize GM F (x.kids.take j)=D at hd m;by_cases ao:D < F (s:Int)
    ·have X:(D:Int) < (F (s:Int):Int):=by omega
     have k:=Ab (show GM F (x.kids.take (j+1))=F (s:Int) by rw[Aa m];omega);go_wp2_with (go_at_call 48;refine (r s wr (by omega) (by omega) (by omega) z).mono ?_;rintro e w2 ⟨rfl,B⟩)
     go_roundw
     case rel=>exact ⟨j+1,Aa o,by go_num,by rw[Aa k],by rw[Aa k];omega,f.trans (B.mono f.size)⟩
     case measure=>have:=Aa o;simp[intOf];omega
    ·have X: ¬ ((D:Int) < (F (s:Int):Int)):=by omega
     have k:=Ab (show GM F (x.kids.take (j+1))=D by rw[Aa m];omega);go_wp2_with (go_at_call 48;refine (r s wr (by omega) (by omega) (by omega) z).mono ?_;rintro e w2 ⟨rfl,B⟩)
     go_roundw
     case rel=>exact ⟨j+1,Aa o,by go_num,by rw[Aa k],by rw[Aa k];omega,f.trans (B.mono f.size)⟩
     case measure=>have:=Aa o;simp[intOf];omega
   ·have e:j=g:=by omega
    subst e;have Y:=Ab (show x.kids.take j=x.kids from zq (by rw[Aa J];exact NLN));rw[Aa Y] at hd ⊢;generalize L:GM F x.kids=D at hd ⊢;have Z:=Ab L;clear L;go_wp2_with fail
    go_ret
    exact ⟨by rw[Aa Z,zd];rfl,f⟩
theorem IA {w:World}{b:Nat}{a c d:Value}{t:TypeId}(R:Al w b #[a,c,d] t):w.cell? ⟨b,0,none⟩=some a∧w.cell? ⟨b,1,none⟩=some c∧w.cell? ⟨b,2,none⟩=some d:=⟨R.cell 0,R.cell 1,R.cell 2⟩
end Go.Proofs.YtchakjeegneeoaaGreatDoor
