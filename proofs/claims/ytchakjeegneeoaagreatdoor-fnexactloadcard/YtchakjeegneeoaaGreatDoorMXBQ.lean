/-
  GM, GN, GO, HF. Own work.
-/
import Derived.Test.YtchakjeegneeoaaGreatDoorMXBP
import Derived.Test.YtchakjeegneeoaaGreatDoorMXAZ
import Derived.Deep.AppendLies
namespace Go.Proofs.YtchakjeegneeoaaGreatDoor
set_option maxRecDepth 100000
set_option maxHeartbeats 3200000
open Go.RowKit
set_option linter.unusedVariables false
variable {aY : Addr} {pb g c : Nat} {T : List Af} {tl : Nat}
theorem Tw {P:Nat→Prop} :∀ n,P n→∃ m,P m∧∀ i,P i→m≤i:=by
 intro n
 induction n using Nat.strongRecOn with
 |ind n a=>
  intro h;by_cases hx:∃ i,i < n∧P i
  ·obtain ⟨i,hi,hp⟩:=hx;exact a i hi hp
  ·exact ⟨n,h,fun i hi=>by
    by_cases b:i < n
    ·exact absurd ⟨i,b,hi⟩ hx
    ·omega⟩
open Classical in
noncomputable def Bq (P:Nat→Prop):Nat:=if h:∃ m,P m∧∀ i,P i→m≤i then Classical.choose h else 0
theorem Ge {P:Nat→Prop}(h:∃ n,P n):P (Bq P):=by
 obtain ⟨n,a⟩:=h;have hx:=Tw n a;rw[Bq,dif_pos hx];exact (Classical.choose_spec hx).1
theorem XX {P:Nat→Prop}{n:Nat}(h:P n):Bq P≤n:=by
 have hx:=Tw n h;rw[Bq,dif_pos hx];exact (Classical.choose_spec hx).2 n h
theorem IW {P Q:Nat→Prop}{n:Nat}(h:n < Bq P)(hq:Q n):Bq Q < Bq P:=Nat.lt_of_le_of_lt (XX hq) h
theorem WP (k:Nat)(a:Nat)(ts:List Af):Tn k ts=CZ k (DV a ts):=by
 cases ts with
 |nil=>
  show none=_;rw[CZ,Eq.comm,Option.map_eq_none_iff,List.find?_eq_none];intro p _;show ¬ see p.1 (eT a)=true;rw[show see p.1 (eT a)=false from rfl];decide
 |cons t r=>rfl
def ChI (aY:Addr) (pb g c:Nat) (T:List Af) (tl:Nat) (lv:Nat) (ts:List Af) (x:PR) (w:World) (n:Nat) (v e:Value) (wr:World):Prop:=
 ((∃ q b,e=Ci b∧Io v∧x= .bad q∧Y9 aY tl q b wr∧n=0)∨
   (∃ e0 p0 r k,e= .nilIface∧v=Ex.val e0∧Er e0 p0∧e0.own (pb+1) wr∧Pp wr pb g c T tl r k∧D (.more lv p0) r x∧r.length < ts.length∧n=r.length+1))∧Aj pb (pb+1) w wr
theorem Vv (hp: 20≤pb)(lv:Nat)(ts:List Af)(x:PR)(d:D (.chain lv) ts x)(P:∀ r x,D (.opd lv) r x→r.length≤ts.length→CS aY pb g c T tl (.opd lv) r x):CS aY pb g c T tl (.chain lv) ts x:=by
 intro w au h Q;show Calls Tryz.prog 169 #[.pointer (some ⟨pb,0,none⟩),.int .i64 (lv:Int)] w (Gd aY pb g c T tl x w);have S:∃ y,D (.opd lv) ts y∧(∀ q,y= .bad q→x= .bad q)∧(∀ e r,y= .ok e r→D (.more lv e) r x∧r.length < ts.length):=by
  cases d with
  |chain_bad d=>exact ⟨_,d,fun q e=>(by cases e;rfl),fun e r h=>by cases h⟩
  |chain d d2=>exact ⟨_,d,fun q e=>(by cases e),fun e r h=>by cases h;exact ⟨d2,d.less rfl⟩⟩
 obtain ⟨y,B,C,E⟩:=S;have av:Hid (Calls Tryz.prog 175 #[.pointer (some ⟨pb,0,none⟩),.int .i64 (lv:Int)] w (Gd aY pb g c T tl y w)):=Ab (P _ _ B NLN w au h Q);have F:=Ab (And.intro C E);have ae:=Ab Q;have aw:=Ab P;clear h Q P C E B d;go_enter Tryz.func169,Tryz.ntmps169
 go_wp2_with fail
 refine (Aa av).mono ?_;intro r ax l;have H:Hid (∃ v e,r= .returned (.tuple #[v,e])∧Io v∧Io e∧∃ n,ChI aY pb g c T tl lv ts x w n v e ax):=by
  cases y with
  |bad q=>
   obtain ⟨⟨v,b,rfl,a,R⟩,T1⟩:=l;exact ⟨v,_,rfl,a,.inr ⟨_,_,rfl⟩,0,.inl ⟨q,b,rfl,a,(Aa F).1 q rfl,R,rfl⟩,T1⟩
  |ok p q=>
   obtain ⟨⟨e,U,rfl,he,s,V⟩,ay⟩:=l;obtain ⟨d2,I⟩:=(Aa F).2 p q rfl;exact ⟨_,_,rfl,e.val_if,.inl rfl,q.length+1,.inr ⟨e,p,q,U,rfl,rfl,he,s,V,d2,I,rfl⟩,ay⟩
 obtain ⟨v,e,rfl,a,he,n,i⟩:=Aa H;clear H l;have u:=Ab i;clear i;dsimp only;go_wp2_with fail
 go_loopw [6,7] (fun v e wr=>∃ n,ChI aY pb g c T tl lv ts x w n v e wr) (fun v e wr=>Bq (fun n=>ChI aY pb g c T tl lv ts x w n v e wr))
 case atStart=>exact ⟨n,Aa u⟩
 case round=>
  clear u a he;have I:=Ge hrel;have L:=Ab (show ∀ n v' e' w',n < Bq (fun n=>ChI aY pb g c T tl lv ts x w n u6 u7 wr)→ChI aY pb g c T tl lv ts x w n v' e' w'→Bq (fun n=>ChI aY pb g c T tl lv ts x w n v' e' w') < Bq (fun n=>ChI aY pb g c T tl lv ts x w n u6 u7 wr) from fun n v' e' w' h1 h2=>IW h1 h2);generalize af:Bq (fun n=>ChI aY pb g c T tl lv ts x w n u6 u7 wr)=m at I L;have ag:=Ab af;clear af;clear hrel;obtain ⟨⟨q,b,rfl,a,hx,R,M⟩ | ⟨J,W,r,k,rfl,rfl,he,s,X,ah,ai,M⟩,T1⟩:=I
  ·have Y:=Ab hx;clear hx M L;rcases a with rfl | ⟨aA,aB,rfl⟩
   all_goals
    dsimp only[Ci];go_wp2_with fail
    go_ret2
    rw[Aa Y];exact ⟨⟨.nilIface,b,rfl,.inl rfl,R⟩,T1⟩
  ·have aj:=Ab (FK (aY:=aY) lv X ((Aa ae).touch T1 hp));have ak:=Ab X;have N:=Ab (And.intro he s);have Z:=Ab (And.intro ai M);have S:(CZ lv (DV tl r)=none∧x= .ok W r)∨(∃ t o op y,r=t ::o∧CZ lv t=some op∧D (.opd lv) o y∧(∀ q,y= .bad q→x= .bad q)∧(∀ f q,y= .ok f q→D (.more lv (.bin t.at_ op W f)) q x∧q.length < o.length)):=by
    cases ah with
    |more_no h=>exact .inl ⟨by rw[← WP];exact h,rfl⟩
    |@more_bad _ _ t r q op h d=>exact .inr ⟨t,r,op,_,rfl,h,d,fun q e=>(by cases e;rfl),fun f q e=>by cases e⟩
    |@more _ _ f t r q op x h d d2=>exact .inr ⟨t,r,op,_,rfl,h,d,fun q e=>(by cases e),fun f q e=>by cases e;exact ⟨d2,d.less rfl⟩⟩
   clear he s ai M ah X;obtain ⟨aC,aD,z⟩:=J.form;rcases S with ⟨i,hx⟩ | ⟨t,o,op,y,rfl,al,B,C,E⟩
   ·have Y:=Ab hx;have u:=Ab i;have ao:=Ab z;rw[z];clear hx i z L;go_wp2_with fail
    refine (Aa aj).mono ?_;rintro aa w2 ⟨K,A⟩;rw[OpA,Aa u] at K;subst K;dsimp only;go_wp2_with fail
    go_ret2
    rw[Aa Y];have j:=A.alloc A.size (.cells #[.int .i64 0,.int .i64 0,.string ⟨#[]⟩] 249);exact ⟨⟨J,k,by rw[Aa ao];rfl,(Aa N).1,J.own_touch (Aj.of_below j NLN) (Aa N).2,(Aa ak).below j⟩,T1.allP j⟩
   ·have u:=Ab (show CZ lv (DV tl (t ::o))=some op from al);have ao:=Ab z;have F:=Ab (And.intro C E);have ap:=Ab (fun w' O (ab:Below wr.heap.size wr w')=>Ma hp lv op O J W t o y w' k ((Aa ak).below ab) (((Aa ae).touch T1 hp).below ab) (Aa N).1 (J.own_touch (Aj.of_below ab NLN) (Aa N).2) (Aa aw o y B (by have:=(Aa Z).1;simp at this;omega)));rw[z] at ap ag ⊢;clear al z C E B;go_wp2_with fail
    refine (Aa aj).mono ?_;rintro aa w2 ⟨K,A⟩;rw[OpA,Aa u] at K;obtain ⟨O,rfl⟩:=K;dsimp only;have j:=A.alloc A.size (.cells #[.int .i64 op,.int .i64 (lv:Int),.string O] 249);go_wp2_with fail
    refine (Aa ap _ O j).mono ?_;intro aa az l;have H:Hid (∃ v e,aa= .returned (.tuple #[v,e])∧Io v∧Io e∧∃ n,n < m∧ChI aY pb g c T tl lv ts x w n v e az):=by
     have h1:=(Aa Z).1;have h2:=(Aa Z).2;simp only[List.length_cons] at h1 h2;cases y with
     |bad q=>
      obtain ⟨⟨v,b,rfl,a,R⟩,ac⟩:=l;exact ⟨v,_,rfl,a,.inr ⟨_,_,rfl⟩,0,by omega,.inl ⟨q,b,rfl,a,(Aa F).1 q rfl,R,rfl⟩,(T1.allP j).trans ac⟩
     |ok f q=>
      obtain ⟨⟨e,U,rfl,he,s,V⟩,ac⟩:=l;obtain ⟨d2,I⟩:=(Aa F).2 f q rfl;exact ⟨_,_,rfl,e.val_if,.inl rfl,q.length+1,by omega,.inr ⟨e,_,q,U,rfl,rfl,he,s,V,d2,by omega,rfl⟩,(T1.allP j).trans ac⟩
    obtain ⟨v,e,rfl,a,he,aq,ar,i⟩:=Aa H;have ad:=Ab (And.intro ar i);clear H l i ar j A;dsimp only;go_wp2_with fail
    go_roundw
    case rel=>exact ⟨aq,(Aa ad).2⟩
    case measure=>rw[Aa ag];exact Aa L aq _ _ _ (Aa ad).1 (Aa ad).2
end Go.Proofs.YtchakjeegneeoaaGreatDoor
namespace Go.Proofs.YtchakjeegneeoaaGreatDoor
set_option maxRecDepth 100000
set_option maxHeartbeats 3200000
open Go.RowKit
set_option linter.unusedVariables false
variable {aY : Addr} {pb g c : Nat} {T : List Af} {tl : Nat}
theorem ZY (hp: 20≤pb)(ts:List Af)(x:PR)(d:D .cmp ts x)(j:∀ r x,D (.opd 4) r x→r.length≤ts.length→CS aY pb g c T tl (.opd 4) r x):CS aY pb g c T tl .cmp ts x:=by
 intro w B h k;show Calls Tryz.prog 183 #[.pointer (some ⟨pb,0,none⟩)] w (Gd aY pb g c T tl x w);have P:(∃ q,D (.opd 4) ts (.bad q)∧x= .bad q)∨(∃ a r,D (.opd 4) ts (.ok a r)∧Tn 4 r=none∧x= .ok a r)∨(∃ a t r op y,D (.opd 4) ts (.ok a (t ::r))∧CZ 4 t=some op∧D (.opd 4) r y∧x=y.two t.at_ op a):=by
  cases d with
  |cmp_bad d=>exact .inl ⟨_,d,rfl⟩
  |cmp_one d h=>exact .inr (.inl ⟨_,_,d,h,rfl⟩)
  |cmp_two_bad d h d2=>exact .inr (.inr ⟨_,_,_,_,_,d,h,d2,rfl⟩)
  |cmp_two d h d2=>exact .inr (.inr ⟨_,_,_,_,_,d,h,d2,rfl⟩)
 have C:=Ab k;clear d;rcases P with ⟨q,d,rfl⟩ | ⟨a,r,d,K,rfl⟩ | ⟨a,t,r,op,y,d,L,d2,rfl⟩
 ·have s:Hid (Calls Tryz.prog 175 #[.pointer (some ⟨pb,0,none⟩),.int .i64 4] w (Gd aY pb g c T tl (.bad q) w)):=Ab (j _ _ d NLN w B h k);clear h k j d;go_enter Tryz.func183,Tryz.ntmps183
  go_wp2_with fail
  refine (Aa s).mono ?_;rintro u f ⟨⟨v,b,rfl,M,R⟩,T1⟩;rcases M with rfl | ⟨Y,Z,rfl⟩
  all_goals
   dsimp only[Ci];go_wp2_with fail
   go_ret2
   exact ⟨⟨.nilIface,b,rfl,.inl rfl,R⟩,T1⟩
 ·have s:Hid (Calls Tryz.prog 175 #[.pointer (some ⟨pb,0,none⟩),.int .i64 4] w (Gd aY pb g c T tl (.ok a r) w)):=Ab (j _ _ d NLN w B h k);have E:=Ab (show CZ 4 (DV tl r)=none by rw[← WP];exact K);clear h k j d K;go_enter Tryz.func183,Tryz.ntmps183
  go_wp2_with fail
  refine (Aa s).mono ?_;rintro u f ⟨⟨i,F,rfl,he,z,l⟩,T1⟩;have H:Hid (Calls Tryz.prog 176 #[.pointer (some ⟨pb,0,none⟩),.int .i64 4] f fun e w'=>OpA 4 (DV tl r) e∧Below f.heap.size f w'):=Ab (FK (aY:=aY) 4 l ((Aa C).touch T1 hp));have Q:=Ab l;have N:=Ab (And.intro he z);obtain ⟨S,U,n⟩:=i.form;have V:=Ab n;rw[n];clear he z l n;dsimp only;go_wp2_with fail
  refine (Aa H).mono ?_;rintro u w2 ⟨A,o⟩;rw[OpA,Aa E] at A;subst A;dsimp only;go_wp2_with fail
  go_ret2
  have m:=o.alloc o.size (.cells #[.int .i64 0,.int .i64 0,.string ⟨#[]⟩] 249);exact ⟨⟨i,F,by rw[Aa V];rfl,(Aa N).1,i.own_touch (Aj.of_below m NLN) (Aa N).2,(Aa Q).below m⟩,T1.allP m⟩
 ·have s:Hid (Calls Tryz.prog 175 #[.pointer (some ⟨pb,0,none⟩),.int .i64 4] w (Gd aY pb g c T tl (.ok a (t ::r)) w)):=Ab (j _ _ d NLN w B h k);have W:=Ab (j r y d2 (by have:=d.less rfl;simp at this;omega));have E:=Ab (show CZ 4 (DV tl (t ::r))=some op from L);clear h k j d d2 L;go_enter Tryz.func183,Tryz.ntmps183
  go_wp2_with fail
  refine (Aa s).mono ?_;rintro u f ⟨⟨i,F,rfl,he,z,l⟩,T1⟩;have H:Hid (Calls Tryz.prog 176 #[.pointer (some ⟨pb,0,none⟩),.int .i64 4] f fun e w'=>OpA 4 (DV tl (t ::r)) e∧Below f.heap.size f w'):=Ab (FK (aY:=aY) 4 l ((Aa C).touch T1 hp));have O:Hid (∀ w' p,Below f.heap.size f w'→Calls Tryz.prog 177 #[.pointer (some ⟨pb,0,none⟩),.agg #[.int .i64 op,.int .i64 4,.string p],i.val] w' (Gd aY pb g c T tl (y.two t.at_ op a) w')):=Ab (fun w' p I=>Ma hp 4 op p i a t r y w' F (l.below I) (((Aa C).touch T1 hp).below I) he (i.own_touch (Aj.of_below I NLN) z) (Aa W));obtain ⟨S,U,n⟩:=i.form;rw[n] at O ⊢;clear he z l n;dsimp only;go_wp2_with fail
  refine (Aa H).mono ?_;rintro u w2 ⟨A,o⟩;rw[OpA,Aa E] at A;obtain ⟨p,rfl⟩:=A;dsimp only;have m:=o.alloc o.size (.cells #[.int .i64 op,.int .i64 4,.string p] 249);go_wp2_with fail
  refine (Aa O _ p m).mono ?_;intro u aa J;obtain ⟨v,e,rfl,M,he⟩:=J.form;have X:=Ab (J.from (T1.allP m));clear J m o;dsimp only;go_wp2_with fail
  go_ret2
  exact Aa X
end Go.Proofs.YtchakjeegneeoaaGreatDoor
namespace Go.Proofs.YtchakjeegneeoaaGreatDoor
set_option maxRecDepth 100000
set_option maxHeartbeats 6400000
open Go.RowKit
set_option linter.unusedVariables false
variable {aY : Addr} {pb g c : Nat} {T : List Af} {tl : Nat}
def wd3:Nat→List UInt8
 | 0=>Et
 | 1=>BP
 |_=>AJ
def Cg (i0:Nat) (x:PR):Nat→List Pt→List Af→Prop
 | 0,L,r=>∃ a b d,L= [a,b,d]∧x= .ok (.ite i0 a b d) r
 |n+1,L,r=>∃ y,D (.beh (wd3 (2 - n))) r y∧(∀ q,y= .bad q→x= .bad q)∧∀ p q,y= .ok p q→Cg i0 x n (L ++ [p]) q∧q.length≤r.length
theorem D.choice {t:Af}{r:List Af}{x:PR}(d:D .expr (t ::r) x)(h:see Et t=true):Cg t.at_ x 3 [] (t ::r):=by
 cases d with
 |expr_no a d=>rw[AM,h] at a;cases a
 |expr_if1 _ d1=>exact ⟨_,d1,fun q e=>(by cases e;rfl),fun p q e=>by cases e⟩
 |expr_if2 _ d1 d2=>exact ⟨_,d1,fun q e=>(by cases e),fun p q e=>by cases e;exact ⟨⟨_,d2,fun q e=>(by cases e;rfl),fun p q e=>by cases e⟩,d1.len⟩⟩
 |expr_if3 _ d1 d2 d3=>exact ⟨_,d1,fun q e=>(by cases e),fun p q e=>by cases e;exact ⟨⟨_,d2,fun q e=>(by cases e),fun p q e=>by cases e;exact ⟨⟨_,d3,fun q e=>(by cases e;rfl),fun p q e=>by cases e⟩,d2.len⟩⟩,d1.len⟩⟩
 |expr_if _ d1 d2 d3=>exact ⟨_,d1,fun q e=>(by cases e),fun p q e=>by cases e;exact ⟨⟨_,d2,fun q e=>(by cases e),fun p q e=>by cases e;exact ⟨⟨_,d3,fun q e=>(by cases e),fun p q e=>by cases e;exact ⟨⟨_,_,_,rfl,rfl⟩,d3.len⟩⟩,d2.len⟩⟩,d1.len⟩⟩
def Tx (E:List Ex):Array Value:=(E.map Ex.val ++List.replicate (3 - E.length) Value.nilIface).toArray
def NQ (lo:Nat) (w:World):List Ex→List Pt→Prop
 | [], []=>True
 |e ::E,p ::L=>Er e p∧e.own lo w∧NQ lo w E L
 |_,_=>False
theorem NQ.touch {a:Nat}{w w':World}(T:Aj a (a+1) w w'):∀ (E:List Ex) (L:List Pt),NQ (a+1) w E L→NQ (a+1) w' E L
 | [], [],_=>trivial
 |e ::E,p ::L,h=>⟨h.1,e.own_touch T h.2.1,NQ.touch T E L h.2.2⟩
 | [],_ ::_,h=>h
 |_ ::_, [],h=>h
theorem NQ.snoc {lo:Nat}{w:World}{e:Ex}{p:Pt}(he:Er e p)(a:e.own lo w):∀ (E:List Ex) (L:List Pt),NQ lo w E L→NQ lo w (E ++ [e]) (L ++ [p])
 | [], [],_=>⟨he,a,trivial⟩
 |_ ::E,_ ::L,h=>⟨h.1,h.2.1,NQ.snoc he a E L h.2.2⟩
 | [],_ ::_,h=>absurd h id
 |_ ::_, [],h=>absurd h id
theorem Ex.own_set {lo:Nat}{w:World}{b:Nat}{cs:Array Value}{f:TypeId}(R:Al w b cs f)(d:f≠9)(j:Nat)(v:Value):∀ (e:Ex),e.own lo w→e.own lo (w.setCell ⟨b,j,none⟩ v)
 | .int ..,h=>h
 | .text ..,h=>h
 | .bool ..,h=>h
 | .set _ a n c ss,h=>by
  have g:w.ownsRow lo 9 1 (.slice a n c) n (ss.map Value.string):=h;exact Ac g (fun q hq=>heap_setCell_other w ⟨b,j,none⟩ q v (fun e=>Ae R g d (by rw[hq,e])))
 | .name ..,h=>h
 | .attr ..,h=>h
 | .lett ..,h=>h
 | .un _ _ k,h=>k.own_set R d j v h
 | .bin _ _ l r,h=>⟨l.own_set R d j v h.1,r.own_set R d j v h.2⟩
 | .ite _ c t e,h=>⟨c.own_set R d j v h.1,t.own_set R d j v h.2.1,e.own_set R d j v h.2.2⟩
theorem NQ.setP {lo:Nat}{w:World}{b:Nat}{cs:Array Value}{a:TypeId}(R:Al w b cs a)(c:a≠9)(j:Nat)(v:Value):∀ (E:List Ex) (L:List Pt),NQ lo w E L→NQ lo (w.setCell ⟨b,j,none⟩ v) E L
 | [], [],_=>trivial
 |e ::E,p ::L,h=>⟨h.1,e.own_set R c j v h.2.1,NQ.setP R c j v E L h.2.2⟩
 | [],_ ::_,h=>h
 |_ ::_, [],h=>h
theorem Pp.setP {w:World}{k:Nat}{ts:List Af}(h:Pp w pb g c T tl ts k){b:Nat}{cs:Array Value}{d:TypeId}(R:Al w b cs d)(h1:d≠99)(h2:d≠51)(j:Nat)(v:Value):Pp (w.setCell ⟨b,j,none⟩ v) pb g c T tl ts k:=by
 have f:pb≠b:=fun e=>by
  have i:=R.out;have a:=h.row.out;rw[e,i] at a;injection a with a;injection a with _ a;exact h1 a
 exact ⟨⟨(heap_setCell_other w ⟨b,j,none⟩ pb v f).trans h.row.out⟩,Ac h.toks (fun q hq=>heap_setCell_other w ⟨b,j,none⟩ q v (fun e=>Ae R h.toks h2 (by rw[hq,e]))),h.drop,h.len,h.small⟩
theorem AeJ (w:World):(Instr.index 273 (.agg #[.string ⟨#[105,102]⟩,.string ⟨#[116,104,101,110]⟩,.string ⟨#[101,108,115,101]⟩]) (.int .i64 0)).run Tryz.prog w= .ok (.string ⟨#[105,102]⟩) w:=by kernel_rfl
theorem AeK (w:World):(Instr.index 273 (.agg #[.string ⟨#[105,102]⟩,.string ⟨#[116,104,101,110]⟩,.string ⟨#[101,108,115,101]⟩]) (.int .i64 1)).run Tryz.prog w= .ok (.string ⟨#[116,104,101,110]⟩) w:=by kernel_rfl
theorem AeL (w:World):(Instr.index 273 (.agg #[.string ⟨#[105,102]⟩,.string ⟨#[116,104,101,110]⟩,.string ⟨#[101,108,115,101]⟩]) (.int .i64 2)).run Tryz.prog w= .ok (.string ⟨#[101,108,115,101]⟩) w:=by kernel_rfl
theorem Vw (hp: 20≤pb)(t:Af)(r:List Af)(x:PR)(hc:Cg t.at_ x 3 [] (t ::r))(az:∀ s aq x,D (.beh s) aq x→aq.length≤r.length+1→CS aY pb g c T tl (.beh s) aq x)(w:World)(k:Nat)(h:Pp w pb g c T tl (t ::r) k)(aA:Gy w aY):
  Calls Tryz.prog 168 #[.pointer (some ⟨pb,0,none⟩)] w (Gd aY pb g c T tl x w):=by
 have Z:=Ab (BK h);have ar:=Ab az;have aa:=Ab hc;have ab:=Ab h;have au:=Ab aA;have aO:=CW (.int .i64 t.kind) (.int .i64 t.num) (.string t.text) (.int .i64 (t.at_:Int));have nz:=h.row.lt;clear az hc h aA;go_enter Tryz.func168,Tryz.ntmps168
 go_wp2_with fail
 refine (Aa Z).mono ?_;rintro e m ⟨rfl,av⟩;dsimp only[Dq,DV];have aP:=av.size;have aw:=av.alloc av.size (.cells #[.nilIface,.nilIface,.nilIface] 272);have aB:=Al.new m #[.nilIface,.nilIface,.nilIface] 272;go_wp2_with fail
 go_loopw [14] (fun ax wr=>∃ (i:Nat) (E:List Ex) (L:List Pt) (q:List Af) (Y:Nat),ax= .int .i64 i∧i≤3∧E.length=i∧NQ (pb+1) wr E L∧Cg t.at_ x (3 - i) L q∧q.length≤r.length+1∧Pp wr pb g c T tl q Y∧Al wr m.heap.size (Tx E) 272∧Aj pb (pb+1) w wr) (fun ax _=>3 - (intOf ax).toNat)
 case atStart=>exact ⟨0, [], [],t ::r,k,rfl,by omega,rfl,trivial,Aa aa,by simp,(Aa ab).below aw,aB,Aj.of_below aw NLN⟩
 case round=>
  clear aB aw;obtain ⟨i,E,L,q,Y,rfl,hi,H,I,u,hq,J,F,T1⟩:=hrel;have ay:pb+1≤m.heap.size:=by omega
  have aI:i=0∨i=1∨i=2∨i=3:=by omega
  rcases aI with rfl | rfl | rfl | rfl
  ·have aJ:E= []:=zy H;subst aJ;obtain ⟨y,K,M,N⟩:∃ y,D (.beh (wd3 0)) q y∧(∀ f,y= .bad f→x= .bad f)∧∀ p f,y= .ok p f→Cg t.at_ x 2 (L ++ [p]) f∧f.length≤q.length:=u;have O:Hid (Calls Tryz.prog 143 #[.pointer (some ⟨pb,0,none⟩),.string (AB (wd3 0))] wr (Gd aY pb g c T tl y wr)):=Ab (Aa ar _ q y K hq wr Y J ((Aa au).touch T1 hp));have z:=Ab (And.intro M N);have C:=Ab I;have ac:=Ab hq;clear H I hq K M N J hi aa ab Z;have aC:=AeJ;go_wp2_with fail
   refine (Aa O).mono ?_;intro aD w2 P;cases y with
   |bad f=>
    obtain ⟨⟨v,b,rfl,ad,ae⟩,o⟩:=P;have V:=Ab ((Aa z).1 f rfl);rcases ad with rfl | ⟨aE,aF,rfl⟩
    all_goals
     dsimp only[Ci];go_wp2_with fail
     go_ret2
     rw[Aa V];exact ⟨⟨.nilIface,b,rfl,.inl rfl,ae⟩,T1.trans o⟩
   |ok p f=>
    obtain ⟨⟨e,af,rfl,he,Q,R⟩,o⟩:=P;obtain ⟨u,S⟩:=(Aa z).2 p f rfl;have l:=F.touchP o (.inr ay);have ag:=Ab (NQ.snoc he Q _ _ (NQ.touch o _ _ (Aa C)));have U:=Ab (And.intro u S);have W:=Ab R;obtain ⟨A,B,hf⟩:=e.form;have ah:=Ab hf;rw[hf];clear he Q R hf u S F z C O;have aG:=fun j=>l.frozen j;have ai:=l.cell 0;have X:=l.cell 0;have q2:=l.cell 1;have q3:=l.cell 2;simp only[Tx,z8,List.length_nil,List.nil_append,zu,zi,zc,Nat.reduceSub,List.replicate] at ai X q2 q3;dsimp only;go_wp2_with fail
    have aj:=l.set 0 (.iface A B);have ak:=(T1.trans o).setNewP ⟨m.heap.size,0,none⟩ (.iface A B) (by show w.heap.size≤m.heap.size;omega);have aH:=Aj.setCell (lo:=m.heap.size) (hi:=m.heap.size+1) w2 ⟨m.heap.size,0,none⟩ (.iface A B) NLN (Z3 _);go_roundw
    case rel=>exact ⟨1, [e],_,f,af,rfl,by omega,rfl,NQ.setP l (by decide) _ _ _ _ (Aa ag),(Aa U).1,by have:=Aa ac;have:=(Aa U).2;omega,(Aa W).setP l (by decide) (by decide) _ _,by rw[Tx];simp only[List.map_cons,z8];rw[Aa ah];exact aj,ak⟩
    case measure=>simp[intOf]
  ·obtain ⟨n,rfl⟩:∃ n,E= [n]:=by
    match E,H with
    | [n],_=>exact ⟨n,rfl⟩
   obtain ⟨y,K,M,N⟩:∃ y,D (.beh (wd3 1)) q y∧(∀ f,y= .bad f→x= .bad f)∧∀ p f,y= .ok p f→Cg t.at_ x 1 (L ++ [p]) f∧f.length≤q.length:=u;have O:Hid (Calls Tryz.prog 143 #[.pointer (some ⟨pb,0,none⟩),.string (AB (wd3 1))] wr (Gd aY pb g c T tl y wr)):=Ab (Aa ar _ q y K hq wr Y J ((Aa au).touch T1 hp));have z:=Ab (And.intro M N);have C:=Ab I;have ac:=Ab hq;clear H I hq K M N J hi aa ab Z;have aC:=AeK;go_wp2_with fail
   refine (Aa O).mono ?_;intro aD w2 P;cases y with
   |bad f=>
    obtain ⟨⟨v,b,rfl,ad,ae⟩,o⟩:=P;have V:=Ab ((Aa z).1 f rfl);rcases ad with rfl | ⟨aE,aF,rfl⟩
    all_goals
     dsimp only[Ci];go_wp2_with fail
     go_ret2
     rw[Aa V];exact ⟨⟨.nilIface,b,rfl,.inl rfl,ae⟩,T1.trans o⟩
   |ok p f=>
    obtain ⟨⟨e,af,rfl,he,Q,R⟩,o⟩:=P;obtain ⟨u,S⟩:=(Aa z).2 p f rfl;have l:=F.touchP o (.inr ay);have ag:=Ab (NQ.snoc he Q _ _ (NQ.touch o _ _ (Aa C)));have U:=Ab (And.intro u S);have W:=Ab R;obtain ⟨A,B,hf⟩:=e.form;have ah:=Ab hf;rw[hf];clear he Q R hf u S F z C O;have aG:=fun j=>l.frozen j;have ai:=l.cell 1;have X:=l.cell 0;have q2:=l.cell 1;have q3:=l.cell 2;simp only[Tx,List.map_cons,z8,List.length_cons,List.length_nil,List.nil_append,List.cons_append,zu,zi,zc,Nat.reduceAdd,Nat.reduceSub,List.replicate] at ai X q2 q3;dsimp only;go_wp2_with fail
    have aj:=l.set 1 (.iface A B);have ak:=(T1.trans o).setNewP ⟨m.heap.size,1,none⟩ (.iface A B) (by show w.heap.size≤m.heap.size;omega);have aH:=Aj.setCell (lo:=m.heap.size) (hi:=m.heap.size+1) w2 ⟨m.heap.size,1,none⟩ (.iface A B) NLN (Z3 _);go_roundw
    case rel=>exact ⟨2, [n,e],_,f,af,rfl,by omega,rfl,NQ.setP l (by decide) _ _ _ _ (Aa ag),(Aa U).1,by have:=Aa ac;have:=(Aa U).2;omega,(Aa W).setP l (by decide) (by decide) _ _,by rw[Tx];simp only[List.map_cons,z8];rw[Aa ah];exact aj,ak⟩
    case measure=>simp[intOf]
  ·obtain ⟨n,e1,rfl⟩:∃ n e1,E= [n,e1]:=by
    match E,H with
    | [n,e1],_=>exact ⟨n,e1,rfl⟩
   obtain ⟨y,K,M,N⟩:∃ y,D (.beh (wd3 2)) q y∧(∀ f,y= .bad f→x= .bad f)∧∀ p f,y= .ok p f→Cg t.at_ x 0 (L ++ [p]) f∧f.length≤q.length:=u;have O:Hid (Calls Tryz.prog 143 #[.pointer (some ⟨pb,0,none⟩),.string (AB (wd3 2))] wr (Gd aY pb g c T tl y wr)):=Ab (Aa ar _ q y K hq wr Y J ((Aa au).touch T1 hp));have z:=Ab (And.intro M N);have C:=Ab I;have ac:=Ab hq;clear H I hq K M N J hi aa ab Z;have aC:=AeL;go_wp2_with fail
   refine (Aa O).mono ?_;intro aD w2 P;cases y with
   |bad f=>
    obtain ⟨⟨v,b,rfl,ad,ae⟩,o⟩:=P;have V:=Ab ((Aa z).1 f rfl);rcases ad with rfl | ⟨aE,aF,rfl⟩
    all_goals
     dsimp only[Ci];go_wp2_with fail
     go_ret2
     rw[Aa V];exact ⟨⟨.nilIface,b,rfl,.inl rfl,ae⟩,T1.trans o⟩
   |ok p f=>
    obtain ⟨⟨e,af,rfl,he,Q,R⟩,o⟩:=P;obtain ⟨u,S⟩:=(Aa z).2 p f rfl;have l:=F.touchP o (.inr ay);have ag:=Ab (NQ.snoc he Q _ _ (NQ.touch o _ _ (Aa C)));have U:=Ab (And.intro u S);have W:=Ab R;obtain ⟨A,B,hf⟩:=e.form;have ah:=Ab hf;rw[hf];clear he Q R hf u S F z C O;have aG:=fun j=>l.frozen j;have ai:=l.cell 2;have X:=l.cell 0;have q2:=l.cell 1;have q3:=l.cell 2;simp only[Tx,List.map_cons,z8,List.length_cons,List.length_nil,List.nil_append,List.cons_append,zu,zi,zc,Nat.reduceAdd,Nat.reduceSub,List.replicate] at ai X q2 q3;dsimp only;go_wp2_with fail
    have aj:=l.set 2 (.iface A B);have ak:=(T1.trans o).setNewP ⟨m.heap.size,2,none⟩ (.iface A B) (by show w.heap.size≤m.heap.size;omega);have aH:=Aj.setCell (lo:=m.heap.size) (hi:=m.heap.size+1) w2 ⟨m.heap.size,2,none⟩ (.iface A B) NLN (Z3 _);go_roundw
    case rel=>exact ⟨3, [n,e1,e],_,f,af,rfl,by omega,rfl,NQ.setP l (by decide) _ _ _ _ (Aa ag),(Aa U).1,by have:=Aa ac;have:=(Aa U).2;omega,(Aa W).setP l (by decide) (by decide) _ _,by rw[Tx];simp only[List.map_cons,z8];rw[Aa ah];exact aj,ak⟩
    case measure=>simp[intOf]
  ·obtain ⟨n,e1,e2,rfl⟩:∃ n e1 e2,E= [n,e1,e2]:=by
    match E,H with
    | [n,e1,e2],_=>exact ⟨n,e1,e2,rfl⟩
   obtain ⟨a,b,d,rfl,hx⟩:∃ a b d,L= [a,b,d]∧x= .ok (.ite t.at_ a b d) q:=u;have V:=Ab hx;have C:=Ab I;have W:=Ab J;obtain ⟨aQ,u0,al⟩:=n.form;obtain ⟨aR,u1,ao⟩:=e1.form;obtain ⟨aS,u2,ap⟩:=e2.form;have X:=F.cell 0;have q2:=F.cell 1;have q3:=F.cell 2;simp only[Tx,List.map_cons,z8,List.length_cons,List.length_nil,List.nil_append,List.cons_append,zu,zi,zc,al,ao,ap] at X q2 q3;have aK:=Ab (And.intro al (And.intro ao ap));clear hx I J H hq hi al ao ap aa ab Z;go_wp2_with fail
   go_ret2
   rw[Aa V];obtain ⟨⟨g0,aL,g1,aM,g2,aN,_⟩,al,ao,ap⟩:=And.intro (Aa C) (Aa aK);exact ⟨⟨.ite t.at_ n e1 e2,Y,by rw[Ex.val,al,ao,ap];rfl,⟨rfl,g0,g1,g2⟩,⟨aL,aM,aN⟩,Aa W⟩,T1⟩
theorem XY (hp: 20≤pb)(ts:List Af)(x:PR)(d:D .expr ts x)(j:∀ x,D (.chain 1) ts x→CS aY pb g c T tl (.chain 1) ts x)(k:∀ s l x,D (.beh s) l x→l.length≤ts.length→CS aY pb g c T tl (.beh s) l x):CS aY pb g c T tl .expr ts x:=by
 intro w q h i;show Calls Tryz.prog 155 #[.pointer (some ⟨pb,0,none⟩)] w (Gd aY pb g c T tl x w);have u:=Ab (AQ h Et);have y:(AM Et ts=false∧D (.chain 1) ts x)∨(∃ t r,ts=t ::r∧see Et t=true∧Cg t.at_ x 3 [] (t ::r)):=by
  cases hs:AM Et ts
  ·left;cases d with
   |expr_no h d=>exact ⟨rfl,d⟩
   |expr_if1 b _=>rw[AM,b] at hs;cases hs
   |expr_if2 b _ _=>rw[AM,b] at hs;cases hs
   |expr_if3 b _ _ _=>rw[AM,b] at hs;cases hs
   |expr_if b _ _ _=>rw[AM,b] at hs;cases hs
  ·cases ts with
   |nil=>cases hs
   |cons t r=>exact .inr ⟨t,r,rfl,hs,d.choice hs⟩
 clear d;rcases y with ⟨hs,d⟩ | ⟨t,r,rfl,hs,hc⟩
 ·have m:=Ab hs;have n:Hid (∀ w',Below w.heap.size w w'→Calls Tryz.prog 169 #[.pointer (some ⟨pb,0,none⟩),.int .i64 1] w' (Gd aY pb g c T tl x w')):=Ab (fun w' a=>j _ d w' q (h.below a) (i.below a));clear h i j k hs d;go_enter Tryz.func155,Tryz.ntmps155
  go_wp2_with fail
  refine (Aa u).mono ?_;rintro e o ⟨rfl,a⟩;rw[Aa m];dsimp only;go_wp2_with fail
  refine (Aa n o a).mono ?_;intro r w2 f;obtain ⟨v,e,rfl,z,he⟩:=f.form;have p:=Ab (f.from (Aj.of_below a NLN));clear f;dsimp only;go_wp2_with fail
  go_ret2
  exact Aa p
 ·have m:=Ab (show AM Et (t ::r)=true from hs);have n:=Ab (fun w' (a:Below w.heap.size w w')=>Vw hp t r x hc k w' q (h.below a) (i.below a));clear h i j k hs hc;go_enter Tryz.func155,Tryz.ntmps155
  go_wp2_with fail
  refine (Aa u).mono ?_;rintro e o ⟨rfl,a⟩;rw[Aa m];dsimp only;go_wp2_with fail
  refine (Aa n o a).mono ?_;intro r w2 f;obtain ⟨v,e,rfl,z,he⟩:=f.form;have p:=Ab (f.from (Aj.of_below a NLN));clear f;dsimp only;go_wp2_with fail
  go_ret2
  exact Aa p
end Go.Proofs.YtchakjeegneeoaaGreatDoor
namespace Go.Proofs.YtchakjeegneeoaaGreatDoor
set_option maxRecDepth 100000
set_option maxHeartbeats 6400000
open Go.RowKit
set_option linter.unusedVariables false
def Pr (st:List Sy):List Value:=st.reverse.map fun y=>Value.string (Jf y)
theorem N9 (x:Sy)(st:List Sy):Pr (x ::st)=Pr st ++ [.string (Jf x)]:=by simp[Pr]
def UnI (T:List Af) (res:Option (List Af)) (B:Nat) (w:World) (n:Nat) (v a:Value) (wr:World):Prop:=
 ∃ st k g c,v= .slice (some ⟨g,0,none⟩) st.length c∧a= .int .i64 ((k:Nat):Int)∧wr.ownsRow w.heap.size 9 1 v st.length (Pr st)∧NK n st (T.drop k) res∧k≤T.length∧Rp B st (T.drop k)∧(∀ y∈st,okY y)∧Below w.heap.size w wr
theorem Aas {w:World}{B n g c:Nat}{e:TypeId}{a:List Value}{x:Value}(h:w.ownsRow B e 1 (.slice (some ⟨g,0,none⟩) (n+1) c) (n+1) (a ++ [x])):w.ownsRow B e 1 (.slice (some ⟨g,0,none⟩) n c) n a:=by
 have b:a.length=n:=by have:=h.1;simp at this;omega
 refine ⟨by simp[b], ?_⟩;rcases h.2 with ⟨h0,_⟩ | ⟨i,cap,f,d,h1,h2,h3,h4,h5,h6⟩
 ·cases h0
 ·simp only[Value.slice.injEq,Option.some.injEq,Addr.mk.injEq,and_true,true_and] at d;obtain ⟨rfl,rfl⟩:=d;refine .inr ⟨g,c,f,rfl,h1,h2,by omega,h4,h5, ?_⟩;rw[Nat.mul_one] at h6 ⊢;have:=congrArg (List.take n) h6;rw[List.take_take,Nat.min_eq_left (by omega),List.take_left' b] at this;exact this
theorem Aat {w:World}{B n g c:Nat}{e:TypeId}{a:List Value}{x:Value}(h:w.ownsRow B e 1 (.slice (some ⟨g,0,none⟩) (n+1) c) (n+1) (a ++ [x])):w.cell? ⟨g,n,none⟩=some x:=by
 have b:a.length=n:=by have:=h.1;simp at this;omega
 rw[h.cellAt n (by omega),Z7 (by omega),b];simp
theorem NK.exp_inv {n:Nat}{x:Sy}{st m:List Sy}{ts:List Af}{a:Option (List Af)}(h:NK n (x ::st) ts a)(he:An x (KQ ts)=some m):∃ b,n=b+1∧NK b (m ++st) ts a:=by
 cases h with
 |exp h d=>rw[h] at he;injection he with he;rw[← he];exact ⟨_,rfl,d⟩
 |scope=>cases he
 |scope_nil=>cases he
 |scope_no=>cases he
 |term=>cases he
 |term_nil=>cases he
 |term_no=>cases he
def Ado (x:Sy) (t:Af):Prop:=match x with
 | .scope=>GS t
 | .t s=>tk t=s
 |_=>False
theorem NK.none_inv {n:Nat}{x:Sy}{st:List Sy}{t:Af}{ts:List Af}{a:Option (List Af)}(h:NK n (x ::st) (t ::ts) a)(he:An x (tk t)=none):(Ado x t∧∃ b,n=b+1∧NK b st ts a)∨(¬ Ado x t∧a=some (t ::ts)):=by
 cases h with
 |exp h d=>rw[show KQ (t ::ts)=tk t from rfl,he] at h;cases h
 |scope h d=>exact .inl ⟨h,_,rfl,d⟩
 |scope_no h=>exact .inr ⟨h,rfl⟩
 |term h d=>exact .inl ⟨h,_,rfl,d⟩
 |term_no h=>exact .inr ⟨h,rfl⟩
theorem NK.nil_inv {n:Nat}{x:Sy}{st:List Sy}{a:Option (List Af)}(h:NK n (x ::st) [] a)(he:An x []=none):a=some []:=by
 cases h with
 |exp h d=>rw[show KQ []= [] from rfl,he] at h;cases h
 |scope_nil=>rfl
 |term_nil=>rfl
theorem Rq {x:Sy}{t:List UInt8}(h:An x t=none):x= .scope∨∃ s,x= .t s:=by
 cases x <;> first | exact .inl rfl | exact .inr ⟨_,rfl⟩ | (exfalso;revert h;simp only[An];(repeat' split) <;> simp)
theorem TI {t:Af}(h:BI t):tk t≠ []∧tk t≠ [83,67,79,80,69]∧(tk t=FI→t.kind=2):=by
 rcases h with h | h | h | ⟨h,a⟩
 ·simp[tk,h,Pn,FI]
 ·simp[tk,h,FI]
 ·simp[tk,h,ER,FI]
 ·have e:tk t=Ap t.text:=by unfold tk;rw[if_neg (by omega),if_neg (by omega),if_neg (by omega)]
  rw[e];have hd:∀ s∈Cq,s≠ []∧s≠ [83,67,79,80,69]∧s≠FI:=by decide
  have:=hd _ a;exact ⟨this.1,this.2.1,fun h=>absurd h this.2.2⟩
theorem VF {s:List UInt8}(h:okY (.t s)):s≠ [83,67,79,80,69]:=by
 rcases h with h | rfl | rfl | rfl
 ·have hd:∀ s∈Cq,s≠ [83,67,79,80,69]:=by decide
  exact hd _ h
 ·decide
 ·decide
 ·decide
theorem Lq (T:List Af)(a:Option Addr)(c lo:Nat)(w:World)(bi:w.ownsRow lo 51 4 (.slice a T.length c) T.length (GA T))(bj:∀ t∈T,BI t)(bY:T.length≤4000)(l:Option (List Af))(bk:Ru [.policy] T l):
  Calls Tryz.prog 24 #[.slice a T.length c] w fun r w'=>r= .returned (.int .i64 (unX T l))∧Below w.heap.size w w':=by
 obtain ⟨i,hi,bl,bm,bn⟩:=info_parts M8;have bo:=(Below.refl w.heap.size w).alloc NLN (.cells #[.string ⟨#[80,111,108,105,99,121]⟩] 9);have bp:Hid (∃ n,UnI T l (3+14 * T.length) w n (.slice (some ⟨w.heap.size,0,none⟩) 1 1) (.int .i64 0) (w.alloc (.cells #[.string ⟨#[80,111,108,105,99,121]⟩] 9))):=by
  obtain ⟨n,bE⟩:=bk;exact Ab ⟨n, [.policy],0,w.heap.size,1,rfl,rfl,GV w #[.string ⟨#[80,111,108,105,99,121]⟩] 1 rfl (by unfold maxLen;omega),by simpa using bE,zF _,.inl (by simp[Pg,Sy.wt]),fun y hy=>by rw[zL.1 hy];trivial,bo⟩
 have bq:=Ab bi;have bF:=Ab bj;clear bk bi bj bo;go_enter Tryz.func24,Tryz.ntmps24
 go_wp2_with fail
 go_loopw [3,4] (fun v a wr=>∃ n,UnI T l (3+14 * T.length) w n v a wr) (fun v a wr=>Bq (fun n=>UnI T l (3+14 * T.length) w n v a wr))
 case atStart=>exact Aa bp
 case round=>
  clear bp;have br:=Ge hrel;have ah:=Ab (show ∀ n v' aV w',n < Bq (fun n=>UnI T l (3+14 * T.length) w n u3 u4 wr)→UnI T l (3+14 * T.length) w n v' aV w'→Bq (fun n=>UnI T l (3+14 * T.length) w n v' aV w') < Bq (fun n=>UnI T l (3+14 * T.length) w n u3 u4 wr) from fun n v' aV w' h1 h2=>IW h1 h2);generalize bs:Bq (fun n=>UnI T l (3+14 * T.length) w n u3 u4 wr)=m at br ah;have ar:=Ab bs;clear bs hrel;obtain ⟨st,k,g,V,rfl,rfl,au,av,hk,hinv,aW,O⟩:=br;have bt:=Ab hinv.len;cases st with
  |nil=>
   have bG:(k < T.length∧unX T l=(k:Int))∨(¬ k < T.length∧unX T l= -1):=by
    generalize hd:T.drop k=q at av;cases av with
    |fin=>right;exact ⟨by have:=congrArg List.length hd;simp at this;omega,rfl⟩
    |@over t r=>left;have:=congrArg List.length hd;simp at this;exact ⟨by omega,by simp[unX];omega⟩
   clear av hinv aW ah ar bt;rcases bG with ⟨h1,h2⟩ | ⟨h1,h2⟩
   ·have bH:(k:Int) < (T.length:Int):=by omega
    have aX:=Ab h2;clear h2 h1;go_wp2_with fail
    go_ret
    exact ⟨by rw[Aa aX];rfl,O⟩
   ·have bH: ¬ ((k:Int) < (T.length:Int)):=by omega
    have aX:=Ab h2;clear h2 h1;go_wp2_with fail
    go_ret
    exact ⟨by rw[Aa aX];rfl,O⟩
  |cons x st=>
   rw[N9] at au;have bu:=Aat au;have ai:=Aas au;have bI:=Ab (show st.length≤60000 by have:=Aa bt;simp at this;omega);have bZ:=Aa bI;have b0:wrap64 (((st.length+1 :Nat):Int) - 1)=(st.length:Int):=by simp[wrap64];omega
   have aS:=Ab av;have aY:=Ab hinv;have W:=Ab aW;have b1:st.length+1≤V:=by
    rcases au.2 with ⟨h0,_⟩ | ⟨o,cap,bv,X,h1,h2,h3,_⟩
    ·cases h0
    ·simp only[Value.slice.injEq] at X;obtain ⟨_,_,rfl⟩:=X;simpa using h3
   have b2:V≠0:=by omega
   clear av hinv aW au;by_cases aj:k < T.length
   ·have bJ:(k:Int) < (T.length:Int):=by omega
    have bw:=zg aj;obtain ⟨aT,e1,e2,e3⟩:=Ka T k aj;obtain ⟨b3,b4,bx,bz⟩:=Ad (Aa bq);obtain ⟨ak,bK,_,bA⟩:=bz (by omega);have bL:a=some ⟨ak,0,none⟩:=by injection bx with h1;rw[h1];exact bK
    subst bL;have bM:ak < w.heap.size:=((Aa bq).lt ak rfl).2;have al:∀ w',Below w.heap.size w w'→∀ j u,(GA T)[j]? =some u→w'.cell? ⟨ak,j,none⟩=some u:=fun w' aZ j u bN=>(aZ.cell (p:=⟨ak,j,none⟩) bM).trans (bA j u bN);have a0:=al wr O _ _ aT;have a1:=al wr O _ _ e1;have q2:=al wr O _ _ e2;have q3:=al wr O _ _ e3;have bB:=Ab (fun w' aZ=>al w' aZ _ _ e2);clear aT e1 e2 e3 al bA bx bz;have aw:=Ab bw;have ao:=Ab (Aa bF T[k] (zO aj));clear bw;generalize T[k]=F at a0 a1 q2 q3 bB aw ao;have aU:=Ab aj;clear aj;go_wp2_with fail
    refine (VC F wr).mono ?_;rintro r w2 ⟨rfl,bC⟩;have P:=O.trans (bC.mono O.size);have B:=Ac ai (fun q hq=>bC.block q (ai.lt q hq).2);have C:=Ab (show KQ (T.drop k)=tk F by rw[Aa aw];rfl);have M:=Ab (N8 x (Aa W x (zT ..)) (tk F) w2);rw[← Aa C] at M ⊢;cases E:An x (KQ (T.drop k)) with
    |some b=>
     rw[E] at M;have z:=Ab E;clear E ai bu a0 a1 q2 q3;dsimp only;go_wp2_with fail
     refine (Aa M).mono ?_;rintro r A ⟨⟨am,bO,rfl,Z⟩,N⟩;have H:=P.trans (N.mono P.size);have I:=Ac B (fun q hq=>N.block q (B.lt q hq).2);dsimp only;go_wp2_with fail
     obtain ⟨aa,rfl⟩:∃ aa,aa=wr:=⟨_,rfl⟩
     obtain ⟨J,ax,ay⟩:=(Aa aS).exp_inv (Aa z);have az:=Ab (And.intro ax ay);have ab:=Ab ((Aa aY).exp (Aa z));have a2:=Ab (show ∀ y∈b ++st,okY y from fun y hy=>by
      rcases zK.1 hy with h | h
      ·exact Aap (Aa z) y h
      ·exact Aa W y (zY _ h))
     have bP:b.length≤70000:=by have:=(Aa ab).len;simp at this;omega
     have a3:=Ab (show b.length+st.length≤70000 by have:=(Aa ab).len;simp at this;omega);have aA:wrap64 ((b.length:Int) - 1)=(b.length:Int) - 1:=by simp[wrap64];omega
     have a4:∃ d,(b.length≠0→am=some ⟨d,0,none⟩)∧d≠g∧(∀ j (f:j < b.length),A.cell? ⟨d,j,none⟩=some (.string (Jf b[j]))):=by
      have bQ:g < w2.heap.size:=(B.lt g rfl).2;rcases Z.2 with ⟨_,h0⟩ | ⟨d,cap,bv,X,h1,h2,_⟩
      ·exact ⟨w2.heap.size,fun h=>absurd h0 h,by omega,fun j f=>absurd f (by omega)⟩
      ·simp only[Value.slice.injEq] at X;obtain ⟨aB,_,_⟩:=X;refine ⟨d,fun _=>aB,by omega,fun j f=>?_⟩;subst aB;rw[Z.cellAt j (by omega),zh,zH f];rfl
     obtain ⟨d,aC,a5,aD⟩:=a4;have ac:=Ab (And.intro aC aD);have aE:A.ownsRow w.heap.size 9 1 (.slice (some ⟨g,0,none⟩) (b.drop b.length ++st).length V) (b.drop b.length ++st).length (Pr (b.drop b.length ++st)):=by rw[Z6];exact I
     rw[aA];clear aC aD Z ax ay B I aA;go_loopw [3,9] (fun v ad Q=>∃ (p o L:Nat),p≤b.length∧ad= .int .i64 ((p:Int) - 1)∧v= .slice (some ⟨o,0,none⟩) (b.drop p ++st).length L∧Q.ownsRow w.heap.size 9 1 (.slice (some ⟨o,0,none⟩) (b.drop p ++st).length L) (b.drop p ++st).length (Pr (b.drop p ++st))∧d≠o∧(∀ j (f:j < b.length),Q.cell? ⟨d,j,none⟩=some (.string (Jf b[j]))∧d < Q.heap.size)∧Below w.heap.size w Q) (fun _ ad _=>(intOf ad+1).toNat)
     case atStart=>exact ⟨b.length,g,V,NLN,rfl,by rw[Z6];rfl,aE,a5,fun j f=>⟨(Aa ac).2 j f,by
       have:=(Aa ac).2 j f;unfold World.cell? at this;by_cases hq:d < A.heap.size
       ·exact hq
       ·rw[Array.getElem?_eq_none (by show A.heap.size≤d;omega)] at this;cases this⟩,H⟩
     case round=>
      obtain ⟨p,o,L,hp,rfl,rfl,R,a6,aF,ae⟩:=hrel;have aG:=Ab aF;clear aE aF;by_cases aH:p=0
      ·subst aH;have af: ¬ ((0 :Int)≤((0 :Nat):Int) - 1):=by omega
       have aI:=Ab (show UnI T l (3+14 * T.length) w J (.slice (some ⟨o,0,none⟩) (b ++st).length L) (.int .i64 ((k:Nat):Int)) wr from ⟨b ++st,k,o,L,rfl,rfl,by simpa using R,(Aa az).2,hk,Aa ab,Aa a2,ae⟩);go_wp2_with fail
       rw[zs];exact ⟨⟨J,Aa aI⟩,by rw[Aa ar];exact Aa ah J _ _ _ (by have:=(Aa az).1;omega) (Aa aI)⟩
      ·have af:(0 :Int)≤(p:Int) - 1:=by omega
       obtain ⟨q,rfl⟩:∃ q,p=q+1:=⟨p - 1,by omega⟩
       have hq:q < b.length:=by omega
       obtain ⟨a7,a8⟩:=Aa aG q hq;have a9:=(Aa ac).1 (by omega);have ba:=Ab (zg hq);have bb:(((q+1 :Nat):Int) - 1)=(q:Int):=by omega
       have bR:(q:Int) < (b.length:Int):=by omega
       have bS:wrap64 ((q:Int) - 1)=(q:Int) - 1:=by simp[wrap64];omega
       subst a9;have aJ:=R.alloc (.cells #[.string (Jf b[q])] 9);have bc:=Ab (show (b.drop (q+1) ++st).length≤70000 by have:=Aa a3;simp;omega);have bT:=Aa bc;have bd:=ae.size;generalize aK:b.drop (q+1) ++st=aL at *;have bf:=Ab aK;generalize aM:b[q]=ag at *;have bU:=Ab aM;clear aK aM aH af;rw[bb];have af:(0 :Int)≤(q:Int):=by omega
       go_wp2_with (at_builtin;refine wpList_append_lies _ rfl _ _ 56 rfl w.heap.size 9 i (.string ByteArray.empty) 1 16 Tryz.underlying56 hi bl bm bn rfl (by decide) _ _ _ rfl aJ ⟨wr.heap.size,0,none⟩ 1 1 [.string (Jf ag)] rfl rfl (cell_one_new wr _ _) ?c2 (by decide) ?c3 ?c4 ?c5 (wr.heap.size+1) (by simp) ?_)
       case c2=>rfl
       case c3=>unfold maxLen;omega
       case c4=>omega
       case c5=>omega
       intro gk aN S aO U hat bV;have aP:=(ae.alloc bd (.cells #[.string (Jf ag)] 9)).grown U (by simp;omega) (fun q hq=>(R.lt q hq).1);have aQ:∃ (p g2 c2:Nat),p≤b.length∧Value.int .i64 ((q:Int) - 1)= .int .i64 ((p:Int) - 1)∧Value.slice (some ⟨gk,0,none⟩) (aL.length+1) aN= .slice (some ⟨g2,0,none⟩) (b.drop p ++st).length c2∧S.ownsRow w.heap.size 9 1 (.slice (some ⟨g2,0,none⟩) (b.drop p ++st).length c2) (b.drop p ++st).length (Pr (b.drop p ++st))∧d≠g2∧(∀ j (f:j < b.length),S.cell? ⟨d,j,none⟩=some (.string (Jf b[j]))∧d < S.heap.size)∧Below w.heap.size w S:=by
        have e:b.drop q ++st=ag ::aL:=by rw[Aa ba,← Aa bf];rfl
        refine ⟨q,gk,aN,by omega,rfl,by rw[e];rfl, ?_, ?_,fun j f=>⟨?_, ?_⟩,aP⟩
        ·rw[e,N9,List.length_cons];exact aO
        ·rcases hat with h | h
         ·have:o=gk:=by simpa[Value.ownBlock] using h
          omega
         ·omega
        ·have hx:=U.block d (by simp;omega) (fun h=>a6 (by simpa[Value.ownBlock] using h));have hy:=hx.trans (Below.heap_alloc wr _ d a8);have aR:=(Aa aG j f).1;unfold World.cell? at aR ⊢;rw[hy];exact aR
        ·have:=U.size;simp at this;omega
       have bg:=Ab aQ;clear aQ aO U hat R aJ aP a7;go_wp2_with fail
       go_roundw
       case rel=>exact ⟨_,_,_,_,_,_,_,_,_,_,_,_,_,Aa bg,rfl⟩
       case measure=>simp[intOf]
    |none=>
     rw[E] at M;have z:=Ab E;clear E ai bu a0 a1 q2 q3;have bD:=Ab ((show NK _ _ _ _ from by have:=Aa aS;rw[Aa aw] at this;exact this).none_inv (show An x (tk F)=none by rw[← Aa C];exact Aa z));dsimp only;go_wp2_with fail
     refine (Aa M).mono ?_;rintro r A ⟨rfl,N⟩;have H:=P.trans (N.mono P.size);have I:=Ac B (fun q hq=>N.block q (B.lt q hq).2);have bW:A.cell? ⟨ak,k * 4+2,none⟩=some (.string F.text):=Aa bB A H;dsimp only;clear B;by_cases K:Ado x F
     ·have ap:=Ab (show ∃ J,J < m∧UnI T l (3+14 * T.length) w J (.slice (some ⟨g,0,none⟩) st.length V) (.int .i64 ((k:Int)+1)) A by
       rcases Aa bD with ⟨_,J,b5,bX⟩ | h
       ·refine ⟨J,by omega,st,k+1,g,V,rfl,by rw[zd];rfl,I,bX,by have:=Aa aU;omega, ?_,fun y hy=>Aa W y (zY _ hy),H⟩;have:=Aa aY;rw[Aa aw] at this;exact this.pop
       ·exact absurd K h.1)
      rcases Rq (Aa z) with rfl | ⟨s,rfl⟩
      ·have Y:=K.1;have e1:((AB (KQ (T.drop k))).toList== [84,69,88,84])=true:=by rw[UR,Aa C];exact zW (by simp[tk,Y,FI])
       have e2:(F.text.toList== [])=false:=by
        have:=K.2;rw[← Bs F.text,UR];exact zR (fun e=>this (by rw[← Bs F.text,e]))
       clear Y K I;rw[show Jf .scope=⟨#[83,67,79,80,69]⟩ from rfl];go_wp2_with fail
       exact ⟨⟨_,(Aa ap).choose_spec.2⟩,by rw[Aa ar];exact Aa ah _ _ _ _ (Aa ap).choose_spec.1 (Aa ap).choose_spec.2⟩
      ·have aT:((AB (KQ (T.drop k))).toList==(Jf (.t s)).toList)=true:=by rw[Aa C,show Jf (.t s)=AB s from rfl,show tk F=s from K];simp
       have e1:((AB (KQ (T.drop k))).toList== [])=false:=by rw[UR,Aa C];exact zR (TI (Aa ao)).1
       have e2:((Jf (.t s)).toList== [83,67,79,80,69])=false:=by rw[show Jf (.t s)=AB s from rfl,UR];exact zR (VF (Aa W _ (zT ..)))
       clear K I;go_wp2_with fail
       exact ⟨⟨_,(Aa ap).choose_spec.2⟩,by rw[Aa ar];exact Aa ah _ _ _ _ (Aa ap).choose_spec.1 (Aa ap).choose_spec.2⟩
     ·have aq:=Ab (show unX T l=(k:Int) by
       rcases Aa bD with h | h
       ·exact absurd h.1 K
       ·rw[h.2,← Aa aw];simp[unX];omega)
      rcases Rq (Aa z) with rfl | ⟨s,rfl⟩
      ·have e3:((AB (KQ (T.drop k))).toList== [])=false:=by rw[UR,Aa C];exact zR (TI (Aa ao)).1
       have e4:((AB (KQ (T.drop k))).toList== [83,67,79,80,69])=false:=by rw[UR,Aa C];exact zR (TI (Aa ao)).2.1
       rw[show Jf .scope=⟨#[83,67,79,80,69]⟩ from rfl];by_cases Y:F.kind=2
       ·have e1:((AB (KQ (T.drop k))).toList== [84,69,88,84])=true:=by rw[UR,Aa C];exact zW (by simp[tk,Y,FI])
        have e2:F.text=⟨#[]⟩:=Classical.byContradiction fun h=>K ⟨Y,h⟩;rw[e2] at bW;clear Y K I e2;go_wp2_with fail
        go_ret
        exact ⟨by rw[Aa aq];rfl,H⟩
       ·have e1:((AB (KQ (T.drop k))).toList== [84,69,88,84])=false:=by rw[UR,Aa C];exact zR (fun h=>Y ((TI (Aa ao)).2.2 h))
        clear Y K I;go_wp2_with fail
        go_ret
        exact ⟨by rw[Aa aq];rfl,H⟩
      ·have aT:((AB (KQ (T.drop k))).toList==(Jf (.t s)).toList)=false:=by rw[Aa C,show Jf (.t s)=AB s from rfl,UR,za];exact zR K
       have e1:((AB (KQ (T.drop k))).toList== [])=false:=by rw[UR,Aa C];exact zR (TI (Aa ao)).1
       have e2:((Jf (.t s)).toList== [83,67,79,80,69])=false:=by rw[show Jf (.t s)=AB s from rfl,UR];exact zR (VF (Aa W _ (zT ..)))
       clear K I;go_wp2_with fail
       go_ret
       exact ⟨by rw[Aa aq];rfl,H⟩
   ·have bJ: ¬ ((k:Int) < (T.length:Int)):=by omega
    have aU:=Ab (show k=T.length by omega);have bh:=Ab (show T.drop k= [] by rw[Aa aU,Z6]);have C:=Ab (show KQ (T.drop k)= [] by rw[Aa bh];rfl);clear aj;have P:=O;have B:=ai;have M:=Ab (show Calls Tryz.prog 45 #[.string (Jf x),.string ⟨#[]⟩] wr (ExA (An x (KQ (T.drop k))) wr) from by rw[Aa C];exact N8 x (Aa W x (zT ..)) [] wr);clear ai;cases E:An x (KQ (T.drop k)) with
    |some b=>
     rw[E] at M;have z:=Ab E;clear E;go_wp2_with fail
     refine (Aa M).mono ?_;rintro r A ⟨⟨am,bO,rfl,Z⟩,N⟩;have H:=P.trans (N.mono P.size);have I:=Ac B (fun q hq=>N.block q (B.lt q hq).2);dsimp only;go_wp2_with fail
     obtain ⟨aa,rfl⟩:∃ aa,aa=wr:=⟨_,rfl⟩
     obtain ⟨J,ax,ay⟩:=(Aa aS).exp_inv (Aa z);have az:=Ab (And.intro ax ay);have ab:=Ab ((Aa aY).exp (Aa z));have a2:=Ab (show ∀ y∈b ++st,okY y from fun y hy=>by
      rcases zK.1 hy with h | h
      ·exact Aap (Aa z) y h
      ·exact Aa W y (zY _ h))
     have bP:b.length≤70000:=by have:=(Aa ab).len;simp at this;omega
     have a3:=Ab (show b.length+st.length≤70000 by have:=(Aa ab).len;simp at this;omega);have aA:wrap64 ((b.length:Int) - 1)=(b.length:Int) - 1:=by simp[wrap64];omega
     have a4:∃ d,(b.length≠0→am=some ⟨d,0,none⟩)∧d≠g∧(∀ j (f:j < b.length),A.cell? ⟨d,j,none⟩=some (.string (Jf b[j]))):=by
      have bQ:g < aa.heap.size:=(B.lt g rfl).2;rcases Z.2 with ⟨_,h0⟩ | ⟨d,cap,bv,X,h1,h2,_⟩
      ·exact ⟨aa.heap.size,fun h=>absurd h0 h,by omega,fun j f=>absurd f (by omega)⟩
      ·simp only[Value.slice.injEq] at X;obtain ⟨aB,_,_⟩:=X;refine ⟨d,fun _=>aB,by omega,fun j f=>?_⟩;subst aB;rw[Z.cellAt j (by omega),zh,zH f];rfl
     obtain ⟨d,aC,a5,aD⟩:=a4;have ac:=Ab (And.intro aC aD);have aE:A.ownsRow w.heap.size 9 1 (.slice (some ⟨g,0,none⟩) (b.drop b.length ++st).length V) (b.drop b.length ++st).length (Pr (b.drop b.length ++st)):=by rw[Z6];exact I
     rw[aA];clear aC aD Z ax ay B I aA;go_loopw [3,9] (fun v ad Q=>∃ (p o L:Nat),p≤b.length∧ad= .int .i64 ((p:Int) - 1)∧v= .slice (some ⟨o,0,none⟩) (b.drop p ++st).length L∧Q.ownsRow w.heap.size 9 1 (.slice (some ⟨o,0,none⟩) (b.drop p ++st).length L) (b.drop p ++st).length (Pr (b.drop p ++st))∧d≠o∧(∀ j (f:j < b.length),Q.cell? ⟨d,j,none⟩=some (.string (Jf b[j]))∧d < Q.heap.size)∧Below w.heap.size w Q) (fun _ ad _=>(intOf ad+1).toNat)
     case atStart=>exact ⟨b.length,g,V,NLN,rfl,by rw[Z6];rfl,aE,a5,fun j f=>⟨(Aa ac).2 j f,by
       have:=(Aa ac).2 j f;unfold World.cell? at this;by_cases hq:d < A.heap.size
       ·exact hq
       ·rw[Array.getElem?_eq_none (by show A.heap.size≤d;omega)] at this;cases this⟩,H⟩
     case round=>
      obtain ⟨p,o,L,hp,rfl,rfl,R,a6,aF,ae⟩:=hrel;have aG:=Ab aF;clear aE aF;by_cases aH:p=0
      ·subst aH;have af: ¬ ((0 :Int)≤((0 :Nat):Int) - 1):=by omega
       have aI:=Ab (show UnI T l (3+14 * T.length) w J (.slice (some ⟨o,0,none⟩) (b ++st).length L) (.int .i64 ((k:Nat):Int)) wr from ⟨b ++st,k,o,L,rfl,rfl,by simpa using R,(Aa az).2,hk,Aa ab,Aa a2,ae⟩);go_wp2_with fail
       rw[zs];exact ⟨⟨J,Aa aI⟩,by rw[Aa ar];exact Aa ah J _ _ _ (by have:=(Aa az).1;omega) (Aa aI)⟩
      ·have af:(0 :Int)≤(p:Int) - 1:=by omega
       obtain ⟨q,rfl⟩:∃ q,p=q+1:=⟨p - 1,by omega⟩
       have hq:q < b.length:=by omega
       obtain ⟨a7,a8⟩:=Aa aG q hq;have a9:=(Aa ac).1 (by omega);have ba:=Ab (zg hq);have bb:(((q+1 :Nat):Int) - 1)=(q:Int):=by omega
       have bR:(q:Int) < (b.length:Int):=by omega
       have bS:wrap64 ((q:Int) - 1)=(q:Int) - 1:=by simp[wrap64];omega
       subst a9;have aJ:=R.alloc (.cells #[.string (Jf b[q])] 9);have bc:=Ab (show (b.drop (q+1) ++st).length≤70000 by have:=Aa a3;simp;omega);have bT:=Aa bc;have bd:=ae.size;generalize aK:b.drop (q+1) ++st=aL at *;have bf:=Ab aK;generalize aM:b[q]=ag at *;have bU:=Ab aM;clear aK aM aH af;rw[bb];have af:(0 :Int)≤(q:Int):=by omega
       go_wp2_with (at_builtin;refine wpList_append_lies _ rfl _ _ 56 rfl w.heap.size 9 i (.string ByteArray.empty) 1 16 Tryz.underlying56 hi bl bm bn rfl (by decide) _ _ _ rfl aJ ⟨wr.heap.size,0,none⟩ 1 1 [.string (Jf ag)] rfl rfl (cell_one_new wr _ _) ?d2 (by decide) ?d3 ?d4 ?d5 (wr.heap.size+1) (by simp) ?_)
       case d2=>rfl
       case d3=>unfold maxLen;omega
       case d4=>omega
       case d5=>omega
       intro gk aN S aO U hat bV;have aP:=(ae.alloc bd (.cells #[.string (Jf ag)] 9)).grown U (by simp;omega) (fun q hq=>(R.lt q hq).1);have aQ:∃ (p g2 c2:Nat),p≤b.length∧Value.int .i64 ((q:Int) - 1)= .int .i64 ((p:Int) - 1)∧Value.slice (some ⟨gk,0,none⟩) (aL.length+1) aN= .slice (some ⟨g2,0,none⟩) (b.drop p ++st).length c2∧S.ownsRow w.heap.size 9 1 (.slice (some ⟨g2,0,none⟩) (b.drop p ++st).length c2) (b.drop p ++st).length (Pr (b.drop p ++st))∧d≠g2∧(∀ j (f:j < b.length),S.cell? ⟨d,j,none⟩=some (.string (Jf b[j]))∧d < S.heap.size)∧Below w.heap.size w S:=by
        have e:b.drop q ++st=ag ::aL:=by rw[Aa ba,← Aa bf];rfl
        refine ⟨q,gk,aN,by omega,rfl,by rw[e];rfl, ?_, ?_,fun j f=>⟨?_, ?_⟩,aP⟩
        ·rw[e,N9,List.length_cons];exact aO
        ·rcases hat with h | h
         ·have:o=gk:=by simpa[Value.ownBlock] using h
          omega
         ·omega
        ·have hx:=U.block d (by simp;omega) (fun h=>a6 (by simpa[Value.ownBlock] using h));have hy:=hx.trans (Below.heap_alloc wr _ d a8);have aR:=(Aa aG j f).1;unfold World.cell? at aR ⊢;rw[hy];exact aR
        ·have:=U.size;simp at this;omega
       have bg:=Ab aQ;clear aQ aO U hat R aJ aP a7;go_wp2_with fail
       go_roundw
       case rel=>exact Aa bg
       case measure=>simp[intOf]
    |none=>
     rw[E] at M;have z:=Ab E;clear E;have aq:=Ab (show unX T l=(k:Int) by
      have h:=Aa aS;rw[Aa bh] at h;rw[h.nil_inv (by have:=Aa z;rw[Aa bh] at this;exact this)];have:=Aa aU;simp[unX];omega)
     go_wp2_with fail
     refine (Aa M).mono ?_;rintro r A ⟨rfl,N⟩;have H:=P.trans (N.mono P.size);dsimp only;clear B;rcases Rq (Aa z) with rfl | ⟨s,rfl⟩
     ·rw[show Jf .scope=⟨#[83,67,79,80,69]⟩ from rfl];go_wp2_with fail
      go_ret
      exact ⟨by rw[Aa aq];rfl,H⟩
     ·have e2:((Jf (.t s)).toList== [83,67,79,80,69])=false:=by rw[show Jf (.t s)=AB s from rfl,UR];exact zR (VF (Aa W _ (zT ..)))
      go_wp2_with fail
      go_ret
      exact ⟨by rw[Aa aq];rfl,H⟩
end Go.Proofs.YtchakjeegneeoaaGreatDoor
