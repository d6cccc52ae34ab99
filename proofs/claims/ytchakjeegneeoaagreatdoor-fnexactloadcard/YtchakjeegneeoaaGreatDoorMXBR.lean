/-
  GT, GU, GV, GW, GY, HA, HB, HC. Own work.
-/
import Derived.Test.YtchakjeegneeoaaGreatDoorMXBF
import Derived.Test.YtchakjeegneeoaaGreatDoorMXBD
import Derived.Test.YtchakjeegneeoaaGreatDoorMXBO
import Derived.Test.YtchakjeegneeoaaGreatDoorMXBJ
import Derived.Test.YtchakjeegneeoaaGreatDoorMXBI
import Derived.Test.YtchakjeegneeoaaGreatDoorMXAF
namespace Go.Proofs.YtchakjeegneeoaaGreatDoor
set_option maxRecDepth 100000
set_option maxHeartbeats 1600000
open Go.RowKit
set_option linter.unusedVariables false
variable {aY : Addr} {pb g c : Nat} {T : List Af} {tl : Nat}
def TB:Option Ex→Option Pt→Prop
 |none,none=>True
 |some e,some p=>Er e p
 |_,_=>False
def Mv (lo:Nat) (w:World):Option Ex→Prop
 |none=>True
 |some e=>e.own lo w
theorem NS {a:Nat}{w w':World}(T:Aj a (a+1) w w')(o:Option Ex)(h:Mv (a+1) w o):Mv (a+1) w' o:=by
 cases o with
 |none=>trivial
 |some e=>exact e.own_touch T h
theorem IX (o:Option Ex):Io (Bu o):=by
 cases o with
 |none=>exact .inl rfl
 |some e=>exact e.val_if
def DrA (aY:Addr) (pb g c:Nat) (T:List Af) (tl:Nat):DR→World→Ending→World→Prop
 | .ok p q,w,r,w'=>(∃ o k,r= .returned (.tuple #[Bu o,.nilIface])∧TB o p∧Mv (pb+1) w' o∧Pp w' pb g c T tl q k)∧Aj pb (pb+1) w w'
 | .bad q,w,r,w'=>(∃ v b,r= .returned (.tuple #[v,Ci b])∧Io v∧Y9 aY tl q b w')∧Aj pb (pb+1) w w'
theorem Ke (hp: 20≤pb)(s:List UInt8)(ts:List Af)(x:DR)(d:DD s ts x)(w:World)(k:Nat)(h:Pp w pb g c T tl ts k)(l:Gy w aY):
  Calls Tryz.prog 145 #[.pointer (some ⟨pb,0,none⟩),.string (AB s)] w (DrA aY pb g c T tl x w):=by
 have E:=Ab l;cases d with
 |no hs=>
  have j:=Ab (ED h l s hs);clear h hs l;go_enter Tryz.func145,Tryz.ntmps145
  go_wp2_with fail
  refine (Aa j).mono ?_;rintro e z ⟨b,rfl,I,J⟩;dsimp only[Ci];go_wp2_with fail
  go_ret2
  exact ⟨⟨.nilIface,b,rfl,.inl rfl,I⟩,Aj.of_below J NLN⟩
 |@deny t u r hs i=>
  have j:=Ab (Dw h s hs);have m:=Ab (show AM Ga (u ::r)=true from i);clear h hs l i;go_enter Tryz.func145,Tryz.ntmps145
  go_wp2_with fail
  refine (Aa j).mono ?_;rintro e z ⟨rfl,a,T1⟩;have n:=Ab (AQ a Ga);have o:=Ab a;clear a;dsimp only;go_wp2_with fail
  refine (Aa n).mono ?_;rintro e w2 ⟨rfl,f⟩;rw[Aa m];have p:=Ab (BZ ((Aa o).below f));dsimp only;go_wp2_with fail
  refine (Aa p).mono ?_;rintro e F ⟨rfl,A,y⟩;dsimp only[Dq];go_wp2_with fail
  go_ret2
  exact ⟨⟨none,_,rfl,trivial,trivial,A⟩,(T1.allP f).trans y⟩
 |@grant t r q e hs i d=>
  have j:=Ab (Dw h s hs);have m:=Ab i;have B:=Ab d;clear h hs l i d;go_enter Tryz.func145,Tryz.ntmps145
  go_wp2_with fail
  refine (Aa j).mono ?_;rintro e z ⟨rfl,a,T1⟩;have n:=Ab (AQ a Ga);have o:=Ab a;clear a;dsimp only;go_wp2_with fail
  refine (Aa n).mono ?_;rintro e w2 ⟨rfl,f⟩;rw[Aa m];have p:=Ab (Kb (aY:=aY) hp Bz _ _ (Aa B) w2 _ ((Aa o).below f) (((Aa E).touch T1 hp).below f));dsimp only;go_wp2_with fail
  refine (Aa p).mono ?_;rintro e F ⟨⟨e,K,rfl,he,H,A⟩,y⟩;obtain ⟨N,O,hf⟩:=e.form;have C:=Ab (And.intro he (And.intro H hf));rw[hf];clear he H hf;dsimp only;go_wp2_with fail
  go_ret2
  exact ⟨⟨some e,K,by rw[Bu,(Aa C).2.2];rfl,(Aa C).1,(Aa C).2.1,A⟩,(T1.allP f).trans y⟩
 |@grant_bad t r q hs i d=>
  have j:=Ab (Dw h s hs);have m:=Ab i;have B:=Ab d;clear h hs l i d;go_enter Tryz.func145,Tryz.ntmps145
  go_wp2_with fail
  refine (Aa j).mono ?_;rintro e z ⟨rfl,a,T1⟩;have n:=Ab (AQ a Ga);have o:=Ab a;clear a;dsimp only;go_wp2_with fail
  refine (Aa n).mono ?_;rintro e w2 ⟨rfl,f⟩;rw[Aa m];have p:=Ab (Kb (aY:=aY) hp Bz _ _ (Aa B) w2 _ ((Aa o).below f) (((Aa E).touch T1 hp).below f));dsimp only;go_wp2_with fail
  refine (Aa p).mono ?_;rintro e F ⟨⟨v,b,rfl,L,M⟩,y⟩;rcases L with rfl | ⟨P,Q,rfl⟩
  all_goals
   dsimp only[Ci];go_wp2_with fail
   go_ret2
   exact ⟨⟨_,b,rfl,by first | exact .inl rfl | exact .inr ⟨_,_,rfl⟩,M⟩,(T1.allP f).trans y⟩
def Pq (aY:Addr) (pb g c:Nat) (T:List Af) (tl:Nat):SR→World→Ending→World→Prop
 | .ok s q,w,r,w'=>(∃ o1 o2 k,r= .returned (.tuple #[.agg #[.int .i64 (s.at_:Int),.int .i64 s.kind,.string s.name,Bu o1,Bu o2],.nilIface])∧TB o1 s.cond∧TB o2 s.grant∧Mv (pb+1) w' o1∧Mv (pb+1) w' o2∧Pp w' pb g c T tl q k)∧Aj pb (pb+1) w w'
 | .bad q,w,r,w'=>(∃ i1 i2 n v3 v4 b,r= .returned (.tuple #[.agg #[.int .i64 i1,.int .i64 i2,.string n,v3,v4],Ci b])∧Io v3∧Io v4∧Y9 aY tl q b w')∧Aj pb (pb+1) w w'
theorem Pq.from {aY:Addr}{a g c:Nat}{T:List Af}{b:Nat}{x:SR}{d w w':World}{r:Ending}(h:Pq aY a g c T b x w r w')(T0:Aj a (a+1) d w):Pq aY a g c T b x d r w':=by
 cases x with
 |ok p q=>exact ⟨h.1,T0.trans h.2⟩
 |bad q=>exact ⟨h.1,T0.trans h.2⟩
theorem TC (a b c d:Value)(w:World):(Instr.field 51 (.agg #[a,b,c,d]) 0).run Tryz.prog w= .ok a w:=by
 simp[Instr.field,run_underlying Tryz.underlying51,Sem.run_bind,part,asAgg,isAgg,go_sem]
def Kf (W:World) (b:Nat) (v0 v1 v2 v3 v4:Value):World:=(CH W b v0 v1 v2 v3).setCell ⟨b,4,none⟩ v4
theorem GU (W:World)(b k:Nat)(a c d f g:Value)(h:k≠b):(Kf W b a c d f g).heap[k]? =W.heap[k]? :=by
 unfold Kf;rw[heap_setCell_other _ _ _ _ h,Jr _ _ _ _ _ _ _ h]
theorem Br {W:World}{b:Nat}{i j k l m:Value}{t:TypeId}(h:Al W b #[i,j,k,l,m] t)(a c d f g:Value):Al (Kf W b a c d f g) b #[a,c,d,f,g] t:=by
 have:=((((h.set 0 a).set 1 c).set 2 d).set 3 f).set 4 g;exact this
theorem Aj.put5 {lo hi:Nat}{w w':World}{b:Nat}(T:Aj lo hi w w')(hp:w.heap.size≤b)(a c d f g:Value):Aj lo hi w (Kf w' b a c d f g):=(T.put4P hp a c d f).setNewP ⟨b,4,none⟩ g hp
theorem D9 {j:Func}{a u:Tmp}(h:j.results= #[.cell a 119,.tmp u]){tmps:Array Value}{w:World}{b:Nat}{cs:Array Value}{c d f g i e:Value}(k:tmps.getD a undef= .pointer (some ⟨b,0,none⟩))(l:tmps.getD u undef=e)
  (R:Al w b #[c,d,f,g,i] 119):
  (results j tmps).run Tryz.prog w= .ok (.tuple #[.agg #[c,d,f,g,i],e]) w:=by
 rw[Z4] at k l;have g0:w.cell? ⟨b,0,none⟩=some c:=R.cell 0;have g1:w.cell? ⟨b,1,none⟩=some d:=R.cell 1;have g2:w.cell? ⟨b,2,none⟩=some f:=R.cell 2;have g3:w.cell? ⟨b,3,none⟩=some g:=R.cell 3;have g4:w.cell? ⟨b,4,none⟩=some i:=R.cell 4;simp[results,h,k,l,go_sem,g0,g1,g2,g3,g4]
theorem FL {w:World}{b:Nat}{a c d f g:Value}{t:TypeId}(R:Al w b #[a,c,d,f,g] t):w.cell? ⟨b,0,none⟩=some a∧w.cell? ⟨b,1,none⟩=some c∧w.cell? ⟨b,2,none⟩=some d∧w.cell? ⟨b,3,none⟩=some f∧w.cell? ⟨b,4,none⟩=some g∧∀ j,w.frozen? ⟨b,j,none⟩=false:=⟨R.cell 0,R.cell 1,R.cell 2,R.cell 3,R.cell 4,fun j=>R.frozen j⟩
theorem Pp.put5 {w:World}{k:Nat}{ts:List Af}(h:Pp w pb g c T tl ts k){b:Nat}{cs:Array Value}(R:Al w b cs 119)(d f i j l:Value):Pp (Kf w b d f i j l) pb g c T tl ts k:=by
 have m:pb≠b:=fun e=>by
  have n:=R.out;have a:=h.row.out;rw[e,n] at a;injection a with a;injection a with _ a;exact absurd a (by decide)
 exact ⟨⟨(GU w b pb _ _ _ _ _ m).trans h.row.out⟩,Ac h.toks (fun q hq=>GU w b q _ _ _ _ _ (fun e=>Ae R h.toks (by decide) (by rw[hq,e]))),h.drop,h.len,h.small⟩
theorem Ex.own_of {lo:Nat}{w w':World}(hk:∀ (v:Value) (n:Nat) (b:List Value),w.ownsRow lo 9 1 v n b→∀ q,v.ownBlock=some q→w'.heap[q]? =w.heap[q]?):∀ (e:Ex),e.own lo w→e.own lo w'
 | .int ..,h=>h
 | .text ..,h=>h
 | .bool ..,h=>h
 | .set _ a n c ss,h=>Ac h (fun q hq=>hk _ _ _ h q hq)
 | .name ..,h=>h
 | .attr ..,h=>h
 | .lett ..,h=>h
 | .un _ _ k,h=>k.own_of hk h
 | .bin _ _ l r,h=>⟨l.own_of hk h.1,r.own_of hk h.2⟩
 | .ite _ c t e,h=>⟨c.own_of hk h.1,t.own_of hk h.2.1,e.own_of hk h.2.2⟩
theorem Ex.own_put5 {lo:Nat}{w:World}{b:Nat}{cs:Array Value}(R:Al w b cs 119)(a c d f g:Value)(e:Ex)(h:e.own lo w):e.own lo (Kf w b a c d f g):=
 e.own_of (fun v n j i q hq=>GU w b q _ _ _ _ _ (fun e=>Ae R i (by decide) (by rw[hq,e]))) h
theorem Fq {lo:Nat}{w:World}{b:Nat}{cs:Array Value}(R:Al w b cs 119)(a c d f g:Value)(o:Option Ex)(h:Mv lo w o):Mv lo (Kf w b a c d f g) o:=by
 cases o with
 |none=>trivial
 |some e=>exact e.own_put5 R a c d f g h
theorem Y9.put5 {w:World}{c:Nat}{q:List Af}(h:Y9 aY tl q c w){b:Nat}{cs:Array Value}(R:Al w b cs 119)(f g i j k:Value):Y9 aY tl q c (Kf w b f g i j k):=by
 have d:Al w c _ 112:=h;have l:c≠b:=fun e=>by
  have m:=R.out;have a:=d.out;rw[e,m] at a;injection a with a;injection a with _ a;exact absurd a (by decide)
 exact ⟨(GU w b c _ _ _ _ _ l).trans d.out⟩
end Go.Proofs.YtchakjeegneeoaaGreatDoor
namespace Go.Proofs.YtchakjeegneeoaaGreatDoor
set_option maxRecDepth 100000
set_option maxHeartbeats 1600000
open Go.RowKit
set_option linter.unusedVariables false
variable {aY : Addr} {pb g c : Nat} {T : List Af} {tl : Nat}
theorem NU (hp: 20≤pb)(t:Af)(r:List Af)(o:(DV tl r).kind≠3)(w:World)(k:Nat)(h:Pp w pb g c T tl (t ::r) k)(j:Gy w aY):
  Calls Tryz.prog 114 #[.pointer (some ⟨pb,0,none⟩)] w (Pq aY pb g c T tl (.bad r) w):=by
 have a:=(Below.refl w.heap.size w).alloc NLN (.cells #[.int .i64 0,.int .i64 0,.string ⟨#[]⟩,.nilIface,.nilIface] 119);have p:=Al.new w #[.int .i64 0,.int .i64 0,.string ⟨#[]⟩,.nilIface,.nilIface] 119;have q:=Ab (j.below a);have s:=h.below a;have nz:=h.row.lt;have C:=CW (.int .i64 t.kind) (.int .i64 t.num) (.string t.text) (.int .i64 (t.at_:Int));have e3:((DV tl r).kind != 3)=true:=zS.2 o;clear h j;go_enter Tryz.func114,Tryz.ntmps114
 go_wp2_with fail
 generalize w.alloc (.cells #[.int .i64 0,.int .i64 0,.string ⟨#[]⟩,.nilIface,.nilIface] 119)=W at *;refine (BZ s).mono ?_;rintro e l ⟨rfl,d,T1⟩;have v:=p.touchP T1 (.inr nz);have x:=(Aj.of_below (lo:=pb) (hi:=pb+1) a NLN).trans T1;have y:=Ab (BK d);have z:=Ab (fun w' (m:Below l.heap.size l w')=>Fo (d.below m) (((Aa q).touch T1 hp).below m));clear d;dsimp only[Dq];go_wp2_with fail
 refine (Aa y).mono ?_;rintro e w2 ⟨rfl,f⟩;generalize DV tl r=u at e3;have E:=TC (.int .i64 u.kind) (.int .i64 u.num) (.string u.text) (.int .i64 (u.at_:Int));dsimp only[Dq];go_wp2_with fail
 refine (Aa z w2 f).mono ?_;rintro e F ⟨b,rfl,A,n⟩;have i:=(v.after f NLN).after n NLN;have B:=(x.allP f).allP n;obtain ⟨c0,c1,c2,c3,c4,H⟩:=FL i;dsimp only[Ci];go_wp2_with fail
 exact bodyPost_ret (D9 (cs:=#[]) Tryz.results114 rfl rfl (Br i (.int .i64 0) (.int .i64 0) (.string ⟨#[]⟩) .nilIface .nilIface)) rfl ⟨⟨_,_,_,_,_,b,rfl,.inl rfl,.inl rfl,A.put5 i (.int .i64 0) (.int .i64 0) (.string ⟨#[]⟩) .nilIface .nilIface⟩,B.put5 NLN (.int .i64 0) (.int .i64 0) (.string ⟨#[]⟩) .nilIface .nilIface⟩
def TD (t n:Af):PR→SR
 | .bad q=> .bad q
 | .ok e []=> .bad []
 | .ok e (u ::q)=>if see AC u=true then .ok ⟨t.at_,1,n.text,some e,none⟩ q else .bad (u ::q)
theorem Ri (hp: 20≤pb)(t n:Af)(r:List Af)(y:PR)(I:n.kind=3)(d:D (.beh So) r y)(w:World)(k:Nat)(h:Pp w pb g c T tl (t ::n ::r) k)(J:Gy w aY):
  Calls Tryz.prog 114 #[.pointer (some ⟨pb,0,none⟩)] w (Pq aY pb g c T tl (TD t n y) w):=by
 have s:=(Below.refl w.heap.size w).alloc NLN (.cells #[.int .i64 0,.int .i64 0,.string ⟨#[]⟩,.nilIface,.nilIface] 119);have aa:=Al.new w #[.int .i64 0,.int .i64 0,.string ⟨#[]⟩,.nilIface,.nilIface] 119;have ab:=Ab (J.below s);have K:=h.below s;have nz:=h.row.lt;have aq:=CW (.int .i64 t.kind) (.int .i64 t.num) (.string t.text) (.int .i64 (t.at_:Int));have ar:=TC (.int .i64 n.kind) (.int .i64 n.num) (.string n.text) (.int .i64 (n.at_:Int));have au:=Ty (.int .i64 n.kind) (.int .i64 n.num) (.string n.text) (.int .i64 (n.at_:Int));have e3:(n.kind != 3)=false:=by rw[I];rfl
 have ac:=Ab d;clear h J;go_enter Tryz.func114,Tryz.ntmps114
 go_wp2_with fail
 generalize w.alloc (.cells #[.int .i64 0,.int .i64 0,.string ⟨#[]⟩,.nilIface,.nilIface] 119)=W at *;refine (BZ K).mono ?_;rintro e L ⟨rfl,x,T1⟩;have ad:=aa.touchP T1 (.inr nz);have ae:=(Aj.of_below (lo:=pb) (hi:=pb+1) s NLN).trans T1;have af:=Ab (BK x);have ag:=Ab (fun w' (ah:Below L.heap.size L w')=>BZ (x.below ah));clear x K d I;dsimp only[Dq];go_wp2_with fail
 refine (Aa af).mono ?_;rintro e w2 ⟨rfl,z⟩;dsimp only[Dq,DV];go_wp2_with fail
 refine (Aa ag w2 z).mono ?_;rintro e ai ⟨rfl,M,N⟩;have O:=(ad.after z NLN).touchP N (.inr nz);have P:=(Aj.of_below (lo:=pb) (hi:=pb+1) z NLN).trans N;have Q:=ae.trans P;have R:=Ab (((Aa ab).touch T1 hp).touch P hp);have aj:=Ab (Kb (aY:=aY) hp So r y (Aa ac) ai _ M (Aa R));clear M;dsimp only[Dq];go_wp2_with fail
 refine (Aa aj).mono ?_;intro av aw S;cases y with
 |bad q=>
  obtain ⟨⟨v,b,rfl,ak,A⟩,i⟩:=S;have j:=O.touchP i (.inr nz);have o:=Q.trans i;obtain ⟨c0,c1,c2,c3,c4,U⟩:=FL j;rcases ak with rfl | ⟨ax,ay,rfl⟩
  all_goals
   dsimp only[Ci];go_wp2_with fail
   exact bodyPost_ret (D9 (cs:=#[]) Tryz.results114 rfl rfl (Br j (.int .i64 0) (.int .i64 0) (.string ⟨#[]⟩) .nilIface .nilIface)) rfl ⟨⟨_,_,_,_,_,b,rfl,.inl rfl,.inl rfl,A.put5 j (.int .i64 0) (.int .i64 0) (.string ⟨#[]⟩) .nilIface .nilIface⟩,o.put5 NLN (.int .i64 0) (.int .i64 0) (.string ⟨#[]⟩) .nilIface .nilIface⟩
 |ok p q=>
  obtain ⟨⟨e,az,rfl,he,V,X⟩,i⟩:=S;have j:=O.touchP i (.inr nz);have o:=Q.trans i;have al:=Ab ((Aa R).touch i hp);obtain ⟨l,m,hf⟩:=e.form;have B:=Ab (And.intro he (And.intro V hf));rw[hf];have Y:(AM AC q=false→TD t n (.ok p q)= .bad q)∧(∀ u a,q=u ::a→see AC u=true→TD t n (.ok p q)= .ok ⟨t.at_,1,n.text,some p,none⟩ a):=⟨fun h=>by
    cases q with
    |nil=>rfl
    |cons u q=>exact if_neg (by rw[show see AC u=false from h];decide),fun u a e h=>by subst e;exact if_pos h⟩
  clear he V hf;cases hq:AM AC q
  ·have C:=Ab (ED X (Aa al) AC hq);have E:=Ab (Y.1 hq);clear hq;dsimp only;go_wp2_with fail
   refine (Aa C).mono ?_;rintro e ao ⟨b,rfl,A,Z⟩;have f:=j.after Z NLN;have F:=o.allP Z;obtain ⟨c0,c1,c2,c3,c4,U⟩:=FL f;dsimp only[Ci];go_wp2_with fail
   rw[Aa E];exact bodyPost_ret (D9 (cs:=#[]) Tryz.results114 rfl rfl (Br f (.int .i64 (t.at_:Int)) (.int .i64 1) (.string n.text) (.iface l m) .nilIface)) rfl ⟨⟨_,_,_,_,_,b,rfl,.inr ⟨_,_,rfl⟩,.inl rfl,A.put5 f (.int .i64 (t.at_:Int)) (.int .i64 1) (.string n.text) (.iface l m) .nilIface⟩,F.put5 NLN (.int .i64 (t.at_:Int)) (.int .i64 1) (.string n.text) (.iface l m) .nilIface⟩
  ·obtain ⟨u,a,rfl⟩:∃ u a,q=u ::a:=by
    cases q with
    |nil=>cases hq
    |cons u a=>exact ⟨u,a,rfl⟩
   have C:=Ab (Dw X AC hq);have E:=Ab (Y.2 u a rfl hq);clear hq;dsimp only;go_wp2_with fail
   refine (Aa C).mono ?_;rintro e ao ⟨rfl,ap,H⟩;have f:=j.touchP H (.inr nz);have F:=o.trans H;obtain ⟨c0,c1,c2,c3,c4,U⟩:=FL f;dsimp only;go_wp2_with fail
   rw[Aa E];exact bodyPost_ret (D9 (cs:=#[]) Tryz.results114 rfl rfl (Br f (.int .i64 (t.at_:Int)) (.int .i64 1) (.string n.text) (.iface l m) .nilIface)) rfl ⟨⟨some e,none,_,by rw[Bu,Bu,(Aa B).2.2];rfl,(Aa B).1,trivial,Fq f _ _ _ _ _ (some e) (e.own_touch H (Aa B).2.1),trivial,ap.put5 f (.int .i64 (t.at_:Int)) (.int .i64 1) (.string n.text) (.iface l m) .nilIface⟩,F.put5 NLN (.int .i64 (t.at_:Int)) (.int .i64 1) (.string n.text) (.iface l m) .nilIface⟩
def NV (t:Af) (e:Pt):DR→SR
 | .bad q=> .bad q
 | .ok g []=> .bad []
 | .ok g (u ::q)=>if see AC u=true then .ok ⟨t.at_,2,AB [],some e,g⟩ q else .bad (u ::q)
def TE (t:Af):DR→SR
 | .bad q=> .bad q
 | .ok g []=> .bad []
 | .ok g (u ::q)=>if see AC u=true then .ok ⟨t.at_,3,AB [],none,g⟩ q else .bad (u ::q)
theorem Rj (hp: 20≤pb)(t:Af)(r q:List Af)(d:D (.beh Bb) (t ::r) (.bad q))(w:World)(k:Nat)(h:Pp w pb g c T tl (t ::r) k)(l:Gy w aY):
  Calls Tryz.prog 115 #[.pointer (some ⟨pb,0,none⟩)] w (Pq aY pb g c T tl (.bad q) w):=by
 have f:=(Below.refl w.heap.size w).alloc NLN (.cells #[.int .i64 0,.int .i64 0,.string ⟨#[]⟩,.nilIface,.nilIface] 119);have o:=Al.new w #[.int .i64 0,.int .i64 0,.string ⟨#[]⟩,.nilIface,.nilIface] 119;have p:=Ab (l.below f);have i:=h.below f;have nz:=h.row.lt;have F:=CW (.int .i64 t.kind) (.int .i64 t.num) (.string t.text) (.int .i64 (t.at_:Int));have s:=Ab d;clear h l;go_enter Tryz.func115,Tryz.ntmps115
 go_wp2_with fail
 generalize w.alloc (.cells #[.int .i64 0,.int .i64 0,.string ⟨#[]⟩,.nilIface,.nilIface] 119)=W at *;refine (BK i).mono ?_;rintro e u ⟨rfl,a⟩;have m:=i.below a;have x:=o.after a NLN;have y:=(Aj.of_below (lo:=pb) (hi:=pb+1) f NLN).allP a;have z:=Ab ((Aa p).below a);have A:=Ab (Kb (aY:=aY) hp Bb _ _ (Aa s) u _ m (Aa z));clear m i d;dsimp only[Dq,DV];go_wp2_with fail
 refine (Aa A).mono ?_;rintro H I ⟨⟨v,b,rfl,B,C⟩,n⟩;have j:=x.touchP n (.inr nz);have E:=y.trans n;obtain ⟨c0,c1,c2,c3,c4,J⟩:=FL j;rcases B with rfl | ⟨K,L,rfl⟩
 all_goals
  dsimp only[Ci];go_wp2_with fail
  exact bodyPost_ret (D9 (cs:=#[]) Tryz.results115 rfl rfl (Br j (.int .i64 0) (.int .i64 0) (.string ⟨#[]⟩) .nilIface .nilIface)) rfl ⟨⟨_,_,_,_,_,b,rfl,.inl rfl,.inl rfl,C.put5 j (.int .i64 0) (.int .i64 0) (.string ⟨#[]⟩) .nilIface .nilIface⟩,E.put5 NLN (.int .i64 0) (.int .i64 0) (.string ⟨#[]⟩) .nilIface .nilIface⟩
theorem NX (hp: 20≤pb)(t:Af)(r q:List Af)(p:Pt)(y:DR)(d:D (.beh Bb) (t ::r) (.ok p q))(d2:DD By q y)(w:World)(k:Nat)(h:Pp w pb g c T tl (t ::r) k)(K:Gy w aY):
  Calls Tryz.prog 115 #[.pointer (some ⟨pb,0,none⟩)] w (Pq aY pb g c T tl (NV t p y) w):=by
 have z:=(Below.refl w.heap.size w).alloc NLN (.cells #[.int .i64 0,.int .i64 0,.string ⟨#[]⟩,.nilIface,.nilIface] 119);have ad:=Al.new w #[.int .i64 0,.int .i64 0,.string ⟨#[]⟩,.nilIface,.nilIface] 119;have ae:=Ab (K.below z);have A:=h.below z;have nz:=h.row.lt;have ay:=CW (.int .i64 t.kind) (.int .i64 t.num) (.string t.text) (.int .i64 (t.at_:Int));have af:=Ab d;have ag:=Ab d2;clear h K;go_enter Tryz.func115,Tryz.ntmps115
 go_wp2_with fail
 generalize w.alloc (.cells #[.int .i64 0,.int .i64 0,.string ⟨#[]⟩,.nilIface,.nilIface] 119)=W at *;refine (BK A).mono ?_;rintro e ah ⟨rfl,o⟩;have L:=A.below o;have ai:=ad.after o NLN;have aj:=(Aj.of_below (lo:=pb) (hi:=pb+1) z NLN).allP o;have M:=Ab ((Aa ae).below o);have ak:=Ab (Kb (aY:=aY) hp Bb _ _ (Aa af) ah _ L (Aa M));clear L A d d2;dsimp only[Dq,DV];go_wp2_with fail
 refine (Aa ak).mono ?_;rintro al ao ⟨⟨e,az,rfl,he,N,O⟩,B⟩;have P:=ai.touchP B (.inr nz);have Q:=aj.trans B;have R:=Ab ((Aa M).touch B hp);obtain ⟨l,m,hf⟩:=e.form;have C:=Ab (And.intro he (And.intro N hf));rw[hf];have ap:=Ab (Ke (aY:=aY) hp By q y (Aa ag) ao _ O (Aa R));clear he N hf O;dsimp only;go_wp2_with fail
 refine (Aa ap).mono ?_;intro al aA S;cases y with
 |bad q2=>
  obtain ⟨⟨v,b,rfl,aq,E⟩,i⟩:=S;have n:=P.touchP i (.inr nz);have s:=Q.trans i;obtain ⟨c0,c1,c2,c3,c4,U⟩:=FL n;rcases aq with rfl | ⟨aB,aC,rfl⟩
  all_goals
   dsimp only[Ci];go_wp2_with fail
   exact bodyPost_ret (D9 (cs:=#[]) Tryz.results115 rfl rfl (Br n (.int .i64 0) (.int .i64 0) (.string ⟨#[]⟩) .nilIface .nilIface)) rfl ⟨⟨_,_,_,_,_,b,rfl,.inl rfl,.inl rfl,E.put5 n (.int .i64 0) (.int .i64 0) (.string ⟨#[]⟩) .nilIface .nilIface⟩,s.put5 NLN (.int .i64 0) (.int .i64 0) (.string ⟨#[]⟩) .nilIface .nilIface⟩
 |ok g2 q2=>
  obtain ⟨⟨j,aD,rfl,V,X,Y⟩,i⟩:=S;have n:=P.touchP i (.inr nz);have s:=Q.trans i;have ar:=Ab ((Aa R).touch i hp);have F:=Ab (And.intro V (And.intro X (e.own_touch i (Aa C).2.1)));have Z:=IX j;have au:=Ab (show Bu j=Bu j from rfl);generalize aa:Bu j=aE at Z;have av:=Ab aa;clear au aa V X;have ab:(AM AC q2=false→NV t p (.ok g2 q2)= .bad q2)∧(∀ u a,q2=u ::a→see AC u=true→NV t p (.ok g2 q2)= .ok ⟨t.at_,2,AB [],some p,g2⟩ a):=⟨fun h=>by
    cases q2 with
    |nil=>rfl
    |cons u q=>exact if_neg (by rw[show see AC u=false from h];decide),fun u a e h=>by subst e;exact if_pos h⟩
  rcases Z with rfl | ⟨aF,aG,rfl⟩
  all_goals
   cases hq:AM AC q2
   ·have H:=Ab (ED Y (Aa ar) AC hq);have I:=Ab (ab.1 hq);clear hq;dsimp only;go_wp2_with fail
    refine (Aa H).mono ?_;rintro e aw ⟨b,rfl,E,ac⟩;have f:=n.after ac NLN;have J:=s.allP ac;obtain ⟨c0,c1,c2,c3,c4,U⟩:=FL f;dsimp only[Ci];go_wp2_with fail
    rw[Aa I];exact bodyPost_ret (D9 (cs:=#[]) Tryz.results115 rfl rfl (Br f (.int .i64 (t.at_:Int)) (.int .i64 2) (.string ⟨#[]⟩) (.iface l m) _)) rfl ⟨⟨_,_,_,_,_,b,rfl,.inr ⟨_,_,rfl⟩,by first | exact .inl rfl | exact .inr ⟨_,_,rfl⟩,E.put5 f (.int .i64 (t.at_:Int)) (.int .i64 2) (.string ⟨#[]⟩) (.iface l m) _⟩,J.put5 NLN (.int .i64 (t.at_:Int)) (.int .i64 2) (.string ⟨#[]⟩) (.iface l m) _⟩
   ·obtain ⟨u,a,rfl⟩:∃ u a,q2=u ::a:=by
     cases q2 with
     |nil=>cases hq
     |cons u a=>exact ⟨u,a,rfl⟩
    have H:=Ab (Dw Y AC hq);have I:=Ab (ab.2 u a rfl hq);clear hq;dsimp only;go_wp2_with fail
    refine (Aa H).mono ?_;rintro e aw ⟨rfl,ax,x⟩;have f:=n.touchP x (.inr nz);have J:=s.trans x;obtain ⟨c0,c1,c2,c3,c4,U⟩:=FL f;dsimp only;go_wp2_with fail
    rw[Aa I];exact bodyPost_ret (D9 (cs:=#[]) Tryz.results115 rfl rfl (Br f (.int .i64 (t.at_:Int)) (.int .i64 2) (.string ⟨#[]⟩) (.iface l m) _)) rfl ⟨⟨some e,j,_,by rw[Bu,Aa av,(Aa C).2.2];rfl,(Aa C).1,(Aa F).1,Fq f _ _ _ _ _ (some e) (e.own_touch x (Aa F).2.2),Fq f _ _ _ _ _ j (NS x j (Aa F).2.1),ax.put5 f (.int .i64 (t.at_:Int)) (.int .i64 2) (.string ⟨#[]⟩) (.iface l m) _⟩,J.put5 NLN (.int .i64 (t.at_:Int)) (.int .i64 2) (.string ⟨#[]⟩) (.iface l m) _⟩
theorem NY (hp: 20≤pb)(t:Af)(r:List Af)(y:DR)(d2:DD AJ (t ::r) y)(w:World)(k:Nat)(h:Pp w pb g c T tl (t ::r) k)(B:Gy w aY):
  Calls Tryz.prog 116 #[.pointer (some ⟨pb,0,none⟩)] w (Pq aY pb g c T tl (TE t y) w):=by
 have n:=(Below.refl w.heap.size w).alloc NLN (.cells #[.int .i64 0,.int .i64 0,.string ⟨#[]⟩,.nilIface,.nilIface] 119);have S:=Al.new w #[.int .i64 0,.int .i64 0,.string ⟨#[]⟩,.nilIface,.nilIface] 119;have U:=Ab (B.below n);have o:=h.below n;have nz:=h.row.lt;have ae:=CW (.int .i64 t.kind) (.int .i64 t.num) (.string t.text) (.int .i64 (t.at_:Int));have V:=Ab d2;clear h B;go_enter Tryz.func116,Tryz.ntmps116
 go_wp2_with fail
 generalize w.alloc (.cells #[.int .i64 0,.int .i64 0,.string ⟨#[]⟩,.nilIface,.nilIface] 119)=W at *;refine (BK o).mono ?_;rintro e X ⟨rfl,l⟩;have C:=o.below l;have E:=S.after l NLN;have F:=(Aj.of_below (lo:=pb) (hi:=pb+1) n NLN).allP l;have H:=Ab ((Aa U).below l);have Y:=Ab (Ke (aY:=aY) hp AJ (t ::r) y (Aa V) X _ C (Aa H));clear C o d2;dsimp only[Dq,DV];go_wp2_with fail
 refine (Aa Y).mono ?_;intro af ag I;cases y with
 |bad q2=>
  obtain ⟨⟨v,b,rfl,Z,p⟩,f⟩:=I;have i:=E.touchP f (.inr nz);have m:=F.trans f;obtain ⟨c0,c1,c2,c3,c4,J⟩:=FL i;rcases Z with rfl | ⟨ah,ai,rfl⟩
  all_goals
   dsimp only[Ci];go_wp2_with fail
   exact bodyPost_ret (D9 (cs:=#[]) Tryz.results116 rfl rfl (Br i (.int .i64 0) (.int .i64 0) (.string ⟨#[]⟩) .nilIface .nilIface)) rfl ⟨⟨_,_,_,_,_,b,rfl,.inl rfl,.inl rfl,p.put5 i (.int .i64 0) (.int .i64 0) (.string ⟨#[]⟩) .nilIface .nilIface⟩,m.put5 NLN (.int .i64 0) (.int .i64 0) (.string ⟨#[]⟩) .nilIface .nilIface⟩
 |ok g2 q2=>
  obtain ⟨⟨j,aj,rfl,K,L,M⟩,f⟩:=I;have i:=E.touchP f (.inr nz);have m:=F.trans f;have aa:=Ab ((Aa H).touch f hp);have N:=Ab (And.intro K L);have O:=IX j;generalize P:Bu j=ak at O;have ab:=Ab P;clear P K L;have Q:(AM AC q2=false→TE t (.ok g2 q2)= .bad q2)∧(∀ u a,q2=u ::a→see AC u=true→TE t (.ok g2 q2)= .ok ⟨t.at_,3,AB [],none,g2⟩ a):=⟨fun h=>by
    cases q2 with
    |nil=>rfl
    |cons u q=>exact if_neg (by rw[show see AC u=false from h];decide),fun u a e h=>by subst e;exact if_pos h⟩
  rcases O with rfl | ⟨al,ao,rfl⟩
  all_goals
   cases hq:AM AC q2
   ·have s:=Ab (ED M (Aa aa) AC hq);have x:=Ab (Q.1 hq);clear hq;dsimp only;go_wp2_with fail
    refine (Aa s).mono ?_;rintro e ac ⟨b,rfl,p,R⟩;have d:=i.after R NLN;have z:=m.allP R;obtain ⟨c0,c1,c2,c3,c4,J⟩:=FL d;dsimp only[Ci];go_wp2_with fail
    rw[Aa x];exact bodyPost_ret (D9 (cs:=#[]) Tryz.results116 rfl rfl (Br d (.int .i64 (t.at_:Int)) (.int .i64 3) (.string ⟨#[]⟩) .nilIface _)) rfl ⟨⟨_,_,_,_,_,b,rfl,.inl rfl,by first | exact .inl rfl | exact .inr ⟨_,_,rfl⟩,p.put5 d (.int .i64 (t.at_:Int)) (.int .i64 3) (.string ⟨#[]⟩) .nilIface _⟩,z.put5 NLN (.int .i64 (t.at_:Int)) (.int .i64 3) (.string ⟨#[]⟩) .nilIface _⟩
   ·obtain ⟨u,a,rfl⟩:∃ u a,q2=u ::a:=by
     cases q2 with
     |nil=>cases hq
     |cons u a=>exact ⟨u,a,rfl⟩
    have s:=Ab (Dw M AC hq);have x:=Ab (Q.2 u a rfl hq);clear hq;dsimp only;go_wp2_with fail
    refine (Aa s).mono ?_;rintro e ac ⟨rfl,ad,A⟩;have d:=i.touchP A (.inr nz);have z:=m.trans A;obtain ⟨c0,c1,c2,c3,c4,J⟩:=FL d;dsimp only;go_wp2_with fail
    rw[Aa x];exact bodyPost_ret (D9 (cs:=#[]) Tryz.results116 rfl rfl (Br d (.int .i64 (t.at_:Int)) (.int .i64 3) (.string ⟨#[]⟩) .nilIface _)) rfl ⟨⟨none,j,_,by rw[Bu,Aa ab];rfl,trivial,(Aa N).1,trivial,Fq d _ _ _ _ _ j (NS A j (Aa N).2),ad.put5 d (.int .i64 (t.at_:Int)) (.int .i64 3) (.string ⟨#[]⟩) .nilIface _⟩,z.put5 NLN (.int .i64 (t.at_:Int)) (.int .i64 3) (.string ⟨#[]⟩) .nilIface _⟩
end Go.Proofs.YtchakjeegneeoaaGreatDoor
namespace Go.Proofs.YtchakjeegneeoaaGreatDoor
set_option maxRecDepth 100000
set_option maxHeartbeats 1600000
open Go.RowKit
set_option linter.unusedVariables false
variable {aY : Addr} {pb g c : Nat} {T : List Af} {tl : Nat}
theorem Pq.form {x:SR}{w w':World}{r:Ending}(h:Pq aY pb g c T tl x w r w'):∃ f i n a d e,r= .returned (.tuple #[.agg #[.int .i64 f,.int .i64 i,.string n,a,d],e])∧Io a∧Io d∧Io e:=by
 cases x with
 |ok s q=>obtain ⟨⟨j,l,k,rfl,_⟩,_⟩:=h;exact ⟨_,_,_,_,_,_,rfl,IX j,IX l,.inl rfl⟩
 |bad q=>obtain ⟨⟨f,i,n,a,d,b,rfl,h3,h4,_⟩,_⟩:=h;exact ⟨_,_,_,_,_,_,rfl,h3,h4,.inr ⟨_,_,rfl⟩⟩
theorem Pq.put5 {x:SR}{w w':World}{a d:Int}{n:ByteArray}{f i e:Value}(h:Pq aY pb g c T tl x w (.returned (.tuple #[.agg #[.int .i64 a,.int .i64 d,.string n,f,i],e])) w'){b:Nat}{cs:Array Value}(R:Al w' b cs 119)(j:w.heap.size≤b):
  Pq aY pb g c T tl x w (.returned (.tuple #[.agg #[.int .i64 a,.int .i64 d,.string n,f,i],e])) (Kf w' b (.int .i64 a) (.int .i64 d) (.string n) f i):=by
 cases x with
 |ok s q=>
  obtain ⟨⟨l,o,k,h1,h2,h3,h4,h5,h6⟩,h7⟩:=h;exact ⟨⟨l,o,k,h1,h2,h3,Fq R _ _ _ _ _ l h4,Fq R _ _ _ _ _ o h5,h6.put5 R _ _ _ _ _⟩,h7.put5 j _ _ _ _ _⟩
 |bad q=>
  obtain ⟨⟨p,r,m,t,u,v,h1,h3,h4,h5⟩,h7⟩:=h;exact ⟨⟨p,r,m,t,u,v,h1,h3,h4,h5.put5 R _ _ _ _ _⟩,h7.put5 j _ _ _ _ _⟩
theorem Iq (t:Af)(r:List Af)(x:SR)(hk:see DK t=true)(i:∀ w k,Pp w pb g c T tl (t ::r) k→Gy w aY→Calls Tryz.prog 114 #[.pointer (some ⟨pb,0,none⟩)] w (Pq aY pb g c T tl x w))(w:World)(k:Nat)(h:Pp w pb g c T tl (t ::r) k)(j:Gy w aY):
  Calls Tryz.prog 85 #[.pointer (some ⟨pb,0,none⟩)] w (Pq aY pb g c T tl x w):=by
 have o:=Ab (show AM DK (t ::r)=true from hk);have p:=Ab i;clear i hk;have b:=(Below.refl w.heap.size w).alloc NLN (.cells #[.int .i64 0,.int .i64 0,.string ⟨#[]⟩,.nilIface,.nilIface] 119);have u:=Al.new w #[.int .i64 0,.int .i64 0,.string ⟨#[]⟩,.nilIface,.nilIface] 119;have v:=Ab (j.below b);have l:=Ab (h.below b);have nz:=h.row.lt;clear h j;go_enter Tryz.func85,Tryz.ntmps85
 go_wp2_with fail
 generalize m:w.alloc (.cells #[.int .i64 0,.int .i64 0,.string ⟨#[]⟩,.nilIface,.nilIface] 119)=W at *;have J:w.heap.size < W.heap.size:=by rw[← m];simp
 clear m;refine (AQ (Aa l) DK).mono ?_;rintro e n ⟨rfl,d⟩;rw[Aa o];have y:=Ab ((Aa l).below d);have z:=Ab ((Aa v).below d);have A:=u.after d NLN;have B:=b.trans (d.mono b.size);dsimp only;go_wp2_with fail
 refine (Aa p n _ (Aa y) (Aa z)).mono ?_;intro K C a;obtain ⟨E,F,nm,L,M,e,rfl,h3,h4,h5⟩:=a.form;have H:Aj pb (pb+1) n C:=by
  cases x with
  |ok s q=>exact a.2
  |bad q=>exact a.2
 have f:=A.touchP H (.inr nz);have I:=Ab (a.from (Aj.of_below (lo:=pb) (hi:=pb+1) B NLN));clear a;obtain ⟨c0,c1,c2,c3,c4,N⟩:=FL f;rcases h3 with rfl | ⟨O,P,rfl⟩ <;> rcases h4 with rfl | ⟨Q,R,rfl⟩
 all_goals
  dsimp only;go_wp2_with fail
  exact bodyPost_ret (D9 (cs:=#[]) Tryz.results85 rfl rfl (Br f (.int .i64 E) (.int .i64 F) (.string nm) _ _)) rfl ((Aa I).put5 f NLN)
theorem IY (t:Af)(r:List Af)(x:SR)(hk:see Bb t=true)(j:∀ w k,Pp w pb g c T tl (t ::r) k→Gy w aY→Calls Tryz.prog 115 #[.pointer (some ⟨pb,0,none⟩)] w (Pq aY pb g c T tl x w))(w:World)(k:Nat)(h:Pp w pb g c T tl (t ::r) k)(l:Gy w aY):
  Calls Tryz.prog 85 #[.pointer (some ⟨pb,0,none⟩)] w (Pq aY pb g c T tl x w):=by
 have v:=Ab (show AM DK (t ::r)=false from Ah hk (by decide));have y:=Ab (show AM Bb (t ::r)=true from hk);have z:=Ab j;clear j hk;have b:=(Below.refl w.heap.size w).alloc NLN (.cells #[.int .i64 0,.int .i64 0,.string ⟨#[]⟩,.nilIface,.nilIface] 119);have A:=Al.new w #[.int .i64 0,.int .i64 0,.string ⟨#[]⟩,.nilIface,.nilIface] 119;have B:=Ab (l.below b);have m:=Ab (h.below b);have nz:=h.row.lt;clear h l;go_enter Tryz.func85,Tryz.ntmps85
 go_wp2_with fail
 generalize n:w.alloc (.cells #[.int .i64 0,.int .i64 0,.string ⟨#[]⟩,.nilIface,.nilIface] 119)=W at *;have P:w.heap.size < W.heap.size:=by rw[← n];simp
 clear n;refine (AQ (Aa m) DK).mono ?_;rintro e Q ⟨rfl,d⟩;rw[Aa v];have o:=Ab ((Aa m).below d);have C:=Ab ((Aa B).below d);have E:=A.after d NLN;have p:=b.trans (d.mono b.size);dsimp only;go_wp2_with fail
 refine (AQ (Aa o) Bb).mono ?_;rintro e u ⟨rfl,f⟩;rw[Aa y];have F:=Ab ((Aa o).below f);have H:=Ab ((Aa C).below f);have I:=E.after f NLN;have J:=p.trans (f.mono p.size);dsimp only;go_wp2_with fail
 refine (Aa z u _ (Aa F) (Aa H)).mono ?_;intro R K a;obtain ⟨L,M,nm,S,U,e,rfl,h3,h4,h5⟩:=a.form;have N:Aj pb (pb+1) u K:=by
  cases x with
  |ok s q=>exact a.2
  |bad q=>exact a.2
 have i:=I.touchP N (.inr nz);have O:=Ab (a.from (Aj.of_below (lo:=pb) (hi:=pb+1) J NLN));clear a;obtain ⟨c0,c1,c2,c3,c4,V⟩:=FL i;rcases h3 with rfl | ⟨X,Y,rfl⟩ <;> rcases h4 with rfl | ⟨Z,aa,rfl⟩
 all_goals
  dsimp only;go_wp2_with fail
  exact bodyPost_ret (D9 (cs:=#[]) Tryz.results85 rfl rfl (Br i (.int .i64 L) (.int .i64 M) (.string nm) _ _)) rfl ((Aa O).put5 i NLN)
theorem Lj (t:Af)(r:List Af)(x:SR)(hk:see AJ t=true)(l:∀ w k,Pp w pb g c T tl (t ::r) k→Gy w aY→Calls Tryz.prog 116 #[.pointer (some ⟨pb,0,none⟩)] w (Pq aY pb g c T tl x w))(w:World)(k:Nat)(h:Pp w pb g c T tl (t ::r) k)(m:Gy w aY):
  Calls Tryz.prog 85 #[.pointer (some ⟨pb,0,none⟩)] w (Pq aY pb g c T tl x w):=by
 have A:=Ab (show AM DK (t ::r)=false from Ah hk (by decide));have B:=Ab (show AM Bb (t ::r)=false from Ah hk (by decide));have C:=Ab (show AM AJ (t ::r)=true from hk);have E:=Ab l;clear l hk;have b:=(Below.refl w.heap.size w).alloc NLN (.cells #[.int .i64 0,.int .i64 0,.string ⟨#[]⟩,.nilIface,.nilIface] 119);have F:=Al.new w #[.int .i64 0,.int .i64 0,.string ⟨#[]⟩,.nilIface,.nilIface] 119;have H:=Ab (m.below b);have n:=Ab (h.below b);have nz:=h.row.lt;clear h m;go_enter Tryz.func85,Tryz.ntmps85
 go_wp2_with fail
 generalize o:w.alloc (.cells #[.int .i64 0,.int .i64 0,.string ⟨#[]⟩,.nilIface,.nilIface] 119)=W at *;have X:w.heap.size < W.heap.size:=by rw[← o];simp
 clear o;refine (AQ (Aa n) DK).mono ?_;rintro e Y ⟨rfl,d⟩;rw[Aa A];have p:=Ab ((Aa n).below d);have I:=Ab ((Aa H).below d);have J:=F.after d NLN;have u:=b.trans (d.mono b.size);dsimp only;go_wp2_with fail
 refine (AQ (Aa p) Bb).mono ?_;rintro e Z ⟨rfl,f⟩;rw[Aa B];have v:=Ab ((Aa p).below f);have K:=Ab ((Aa I).below f);have L:=J.after f NLN;have y:=u.trans (f.mono u.size);dsimp only;go_wp2_with fail
 refine (AQ (Aa v) AJ).mono ?_;rintro e z ⟨rfl,i⟩;rw[Aa C];have M:=Ab ((Aa v).below i);have N:=Ab ((Aa K).below i);have O:=L.after i NLN;have P:=y.trans (i.mono y.size);dsimp only;go_wp2_with fail
 refine (Aa E z _ (Aa M) (Aa N)).mono ?_;intro aa Q a;obtain ⟨R,S,nm,ab,ac,e,rfl,h3,h4,h5⟩:=a.form;have U:Aj pb (pb+1) z Q:=by
  cases x with
  |ok s q=>exact a.2
  |bad q=>exact a.2
 have j:=O.touchP U (.inr nz);have V:=Ab (a.from (Aj.of_below (lo:=pb) (hi:=pb+1) P NLN));clear a;obtain ⟨c0,c1,c2,c3,c4,ad⟩:=FL j;rcases h3 with rfl | ⟨ae,af,rfl⟩ <;> rcases h4 with rfl | ⟨ag,ah,rfl⟩
 all_goals
  dsimp only;go_wp2_with fail
  exact bodyPost_ret (D9 (cs:=#[]) Tryz.results85 rfl rfl (Br j (.int .i64 R) (.int .i64 S) (.string nm) _ _)) rfl ((Aa V).put5 j NLN)
theorem X9 (ts:List Af)(h1:AM DK ts=false)(h2:AM Bb ts=false)(h3:AM AJ ts=false)(w:World)(k:Nat)(h:Pp w pb g c T tl ts k)(l:Gy w aY):
  Calls Tryz.prog 85 #[.pointer (some ⟨pb,0,none⟩)] w (Pq aY pb g c T tl (.bad ts) w):=by
 have t:=Ab h1;have u:=Ab h2;have v:=Ab h3;clear h1 h2 h3;have a:=(Below.refl w.heap.size w).alloc NLN (.cells #[.int .i64 0,.int .i64 0,.string ⟨#[]⟩,.nilIface,.nilIface] 119);have x:=Al.new w #[.int .i64 0,.int .i64 0,.string ⟨#[]⟩,.nilIface,.nilIface] 119;have y:=Ab (l.below a);have m:=Ab (h.below a);have nz:=h.row.lt;clear h l;go_enter Tryz.func85,Tryz.ntmps85
 go_wp2_with fail
 generalize n:w.alloc (.cells #[.int .i64 0,.int .i64 0,.string ⟨#[]⟩,.nilIface,.nilIface] 119)=W at *;have L:w.heap.size < W.heap.size:=by rw[← n];simp
 clear n;refine (AQ (Aa m) DK).mono ?_;rintro e M ⟨rfl,d⟩;rw[Aa t];have o:=Ab ((Aa m).below d);have z:=Ab ((Aa y).below d);have A:=x.after d NLN;have p:=a.trans (d.mono a.size);dsimp only;go_wp2_with fail
 refine (AQ (Aa o) Bb).mono ?_;rintro e N ⟨rfl,f⟩;rw[Aa u];have q:=Ab ((Aa o).below f);have B:=Ab ((Aa z).below f);have C:=A.after f NLN;have r:=p.trans (f.mono p.size);dsimp only;go_wp2_with fail
 refine (AQ (Aa q) AJ).mono ?_;rintro e O ⟨rfl,i⟩;rw[Aa v];have E:=Ab ((Aa q).below i);have F:=Ab ((Aa B).below i);have H:=C.after i NLN;have I:=r.trans (i.mono r.size);dsimp only;go_wp2_with fail
 refine (Fo (Aa E) (Aa F)).mono ?_;rintro e P ⟨b,rfl,J,s⟩;have j:=H.after s NLN;have K:=(Aj.of_below (lo:=pb) (hi:=pb+1) I NLN).allP s;obtain ⟨c0,c1,c2,c3,c4,Q⟩:=FL j;dsimp only[Ci];go_wp2_with fail
 exact bodyPost_ret (D9 (cs:=#[]) Tryz.results85 rfl rfl (Br j (.int .i64 0) (.int .i64 0) (.string ⟨#[]⟩) .nilIface .nilIface)) rfl ⟨⟨_,_,_,_,_,b,rfl,.inl rfl,.inl rfl,J.put5 j (.int .i64 0) (.int .i64 0) (.string ⟨#[]⟩) .nilIface .nilIface⟩,K.put5 NLN (.int .i64 0) (.int .i64 0) (.string ⟨#[]⟩) .nilIface .nilIface⟩
theorem NZ (hp: 20≤pb)(ts:List Af)(x:SR)(d:DS ts x)(w:World)(k:Nat)(h:Pp w pb g c T tl ts k)(a:Gy w aY):
  Calls Tryz.prog 85 #[.pointer (some ⟨pb,0,none⟩)] w (Pq aY pb g c T tl x w):=by
 cases d with
 |@let_nil t hk=>exact Iq t [] _ hk (fun w k h a=>NU hp t [] (show (0 :Int)≠3 by decide) w k h a) w k h a
 |@let_no t n r hk i=>exact Iq t _ _ hk (fun w k h a=>NU hp t (n ::r) i w k h a) w k h a
 |@let_bad t n r q hk i d=>exact Iq t _ _ hk (fun w k h a=>Ri hp t n r _ i d w k h a) w k h a
 |@let_end t n r q e hk i d hq=>
  have b:TD t n (.ok e q)= .bad q:=by
   cases q with
   |nil=>rfl
   |cons u q=>exact if_neg (by rw[show see AC u=false from hq];decide)
  rw[← b];exact Iq t _ _ hk (fun w k h a=>Ri hp t n r _ i d w k h a) w k h a
 |@let_ t n u r q e hk i d hq=>
  have b:TD t n (.ok e (u ::q))= .ok ⟨t.at_,1,n.text,some e,none⟩ q:=if_pos hq;rw[← b];exact Iq t _ _ hk (fun w k h a=>Ri hp t n r _ i d w k h a) w k h a
 |@when_bad t r q hk d=>exact IY t _ _ hk (fun w k h a=>Rj hp t r q d w k h a) w k h a
 |@when_bad2 t r q p e hk d d2=>exact IY t _ _ hk (fun w k h a=>NX hp t r q e (.bad p) d d2 w k h a) w k h a
 |@when_end t r q p e f hk d d2 hq=>
  have b:NV t e (.ok f p)= .bad p:=by
   cases p with
   |nil=>rfl
   |cons u q=>exact if_neg (by rw[show see AC u=false from hq];decide)
  rw[← b];exact IY t _ _ hk (fun w k h a=>NX hp t r q e _ d d2 w k h a) w k h a
 |@when t u r q p e f hk d d2 hq=>
  have b:NV t e (.ok f (u ::p))= .ok ⟨t.at_,2,AB [],some e,f⟩ p:=if_pos hq;rw[← b];exact IY t _ _ hk (fun w k h a=>NX hp t r q e _ d d2 w k h a) w k h a
 |@else_bad t r q hk d=>exact Lj t _ _ hk (fun w k h a=>NY hp t r (.bad q) d w k h a) w k h a
 |@else_end t r q f hk d hq=>
  have b:TE t (.ok f q)= .bad q:=by
   cases q with
   |nil=>rfl
   |cons u q=>exact if_neg (by rw[show see AC u=false from hq];decide)
  rw[← b];exact Lj t _ _ hk (fun w k h a=>NY hp t r _ d w k h a) w k h a
 |@else_ t u r q f hk d hq=>
  have b:TE t (.ok f (u ::q))= .ok ⟨t.at_,3,AB [],none,f⟩ q:=if_pos hq;rw[← b];exact Lj t _ _ hk (fun w k h a=>NY hp t r _ d w k h a) w k h a
 |none h1 h2 h3=>exact X9 ts h1 h2 h3 w k h a
end Go.Proofs.YtchakjeegneeoaaGreatDoor
namespace Go.Proofs.YtchakjeegneeoaaGreatDoor
set_option maxRecDepth 100000
set_option maxHeartbeats 6400000
open Go.RowKit
set_option linter.unusedVariables false
variable {aY : Addr} {pb g c : Nat} {T : List Af} {tl : Nat}
theorem Ab1:(Tryz.prog.info? 119).map (fun i=>(i.zero,i.size,i.bytes))=some (some (.agg #[.int .i64 0,.int .i64 0,.string ByteArray.empty,.nilIface,.nilIface]),5,64):=by kernel_rfl
def SxP (lo:Nat) (w:World) (x:Sx) (s:Ps):Prop:=x.at'=(s.at_:Int)∧x.kind=s.kind∧x.name=s.name∧TB x.cond s.cond∧TB x.grant s.grant∧Mv lo w x.cond∧Mv lo w x.grant
def EE (lo:Nat) (w:World):List Sx→List Ps→Prop
 | [], []=>True
 |x ::X,s ::S=>SxP lo w x s∧EE lo w X S
 |_,_=>False
theorem MR {lo:Nat}{w w':World}(hk:∀ (v:Value) (n:Nat) (a:List Value),w.ownsRow lo 9 1 v n a→∀ q,v.ownBlock=some q→w'.heap[q]? =w.heap[q]?)(o:Option Ex)(h:Mv lo w o):Mv lo w' o:=by
 cases o with
 |none=>trivial
 |some e=>exact e.own_of hk h
theorem EE.of {lo:Nat}{w w':World}(hk:∀ (v:Value) (n:Nat) (a:List Value),w.ownsRow lo 9 1 v n a→∀ q,v.ownBlock=some q→w'.heap[q]? =w.heap[q]?):∀ (X:List Sx) (S:List Ps),EE lo w X S→EE lo w' X S
 | [], [],_=>trivial
 |x ::X,s ::S,h=>⟨⟨h.1.1,h.1.2.1,h.1.2.2.1,h.1.2.2.2.1,h.1.2.2.2.2.1,MR hk _ h.1.2.2.2.2.2.1,MR hk _ h.1.2.2.2.2.2.2⟩,EE.of hk X S h.2⟩
 | [],_ ::_,h=>h
 |_ ::_, [],h=>h
theorem EE.snoc {lo:Nat}{w:World}{x:Sx}{s:Ps}(hx:SxP lo w x s):∀ (X:List Sx) (S:List Ps),EE lo w X S→EE lo w (X ++ [x]) (S ++ [s])
 | [], [],_=>⟨hx,trivial⟩
 |_ ::X,_ ::S,h=>⟨h.1,EE.snoc hx X S h.2⟩
 | [],_ ::_,h=>absurd h id
 |_ ::_, [],h=>absurd h id
theorem EE.len {lo:Nat}{w:World} :∀ (X:List Sx) (S:List Ps),EE lo w X S→X.length=S.length
 | [], [],_=>rfl
 |_ ::X,_ ::S,h=>by rw[List.length_cons,List.length_cons,EE.len X S h.2]
 | [],_ ::_,h=>absurd h id
 |_ ::_, [],h=>absurd h id
def QR.pre (L:List Ps):QR→QR
 | .ok S=> .ok (L ++S)
 | .bad q=> .bad q
theorem QR.pre_cons (L:List Ps)(s:Ps)(y:QR):QR.pre L (y.cons s)=QR.pre (L ++ [s]) y:=by
 cases y with
 |ok S=>simp[QR.pre,QR.cons]
 |bad q=>rfl
theorem DS.less {ts q:List Af}{s:Ps}(d:DS ts (.ok s q)):q.length < ts.length:=by
 obtain ⟨a,b,c⟩:=d.suf;have h1: 0 < a.length:=List.length_pos_iff.2 (c _ _ rfl);rw[b,zA];show q.length < _+q.length;omega
theorem Adl {w:World}{b:Nat}{a c d f g:Value}{t:TypeId}(R:Al w b #[a,c,d,f,g] t):∀ j u, [a,c,d,f,g][j]? =some u→w.cell? ((⟨b,0,none⟩:Addr).add j)=some u:=fun j u h=>by
 have i:(⟨b,0,none⟩:Addr).add j=⟨b,j,none⟩:=by by_cases e:j=0 <;> simp[Addr.add,e]
 rw[i,R.cell j,← h];simp
def PlA (aY:Addr) (pb:Nat) (tl:Nat):QR→World→Ending→World→Prop
 | .ok S,w,r,w'=>(∃ X a cx,r= .returned (.tuple #[.slice a X.length cx,.nilIface])∧w'.ownsRow w.heap.size 119 5 (.slice a X.length cx) X.length (Hj X)∧EE (pb+1) w' X S∧X.length≤4000)∧Aj pb (pb+1) w w'
 | .bad q,w,r,w'=>(∃ b,r= .returned (.tuple #[.slice none 0 0,Ci b])∧Y9 aY tl q b w')∧Aj pb (pb+1) w w'
def PlN (pb g c:Nat) (T:List Af) (tl:Nat) (x:QR) (w:World) (n:Nat) (v:Value) (wr:World):Prop:=
 ∃ X L a cx r k y,v= .slice a X.length cx∧wr.ownsRow w.heap.size 119 5 v X.length (Hj X)∧EE (pb+1) wr X L∧Pp wr pb g c T tl r k∧DP r y∧x=QR.pre L y∧n=r.length∧X.length+r.length≤T.length∧Aj pb (pb+1) w wr
theorem Aac (X:List Sx)(x:Sx):Hj (X ++ [x])=Hj X ++Nq x:=by simp[Hj]
theorem Vy (hp: 20≤pb)(ts:List Af)(x:QR)(d:DP ts x)(w:World)(k:Nat)(h:Pp w pb g c T tl ts k)(aw:Gy w aY):
  Calls Tryz.prog 52 #[.pointer (some ⟨pb,0,none⟩)] w (PlA aY pb tl x w):=by
 obtain ⟨i,hi,a9,ba,bb⟩:=info_parts Ab1;have ax:=Ab aw;have nz:=h.row.lt;have aa:=Ab h.small;have ay:=Ab (show PlN pb g c T tl x w ts.length (.slice none 0 0) w from ⟨[], [],none,0,ts,k,x,rfl,World.ownsRow_nil _ _ _ _,trivial,h,d,by cases x <;> rfl,rfl,by have:=h.len;simp;omega,Aj.refl _ _ _⟩);clear h aw d;go_enter Tryz.func52,Tryz.ntmps52
 go_wp2_with fail
 go_loopw [4] (fun v wr=>∃ n,PlN pb g c T tl x w n v wr) (fun v wr=>Bq (fun n=>PlN pb g c T tl x w n v wr))
 case atStart=>exact ⟨_,Aa ay⟩
 case round=>
  clear ay;have az:=Ge hrel;have aA:=Ab (show ∀ n v' w',n < Bq (fun n=>PlN pb g c T tl x w n u4 wr)→PlN pb g c T tl x w n v' w'→Bq (fun n=>PlN pb g c T tl x w n v' w') < Bq (fun n=>PlN pb g c T tl x w n u4 wr) from fun n v' w' h1 h2=>IW h1 h2);generalize aB:Bq (fun n=>PlN pb g c T tl x w n u4 wr)=m at az aA;have bc:=Ab aB;clear aB hrel;obtain ⟨X,L,a,ab,r,bd,y,rfl,R,aC,aD,aE,hx,aF,aG,T1⟩:=az;have ac:=Ab (And.intro aF aG);have aH:=Ab aC;have bz:=Ab hx;have bf:=Ab ((Aa ax).touch T1 hp);have bA:=T1.size;have bg:∃ F,DS r F∧(∀ q,F= .bad q→x= .bad q)∧(∀ s q,F= .ok s q→(s.kind≠3∧∃ J,DP q J∧x=QR.pre (L ++ [s]) J∧q.length < r.length)∨(s.kind=3∧q= []∧x= .ok (L ++ [s]))∨(s.kind=3∧q≠ []∧x= .bad q)):=by
   cases aE with
   |bad d=>exact ⟨_,d,fun q e=>(by cases e;rw[hx];rfl),fun s q e=>by cases e⟩
   |@more _ ad s J d hk d2=>exact ⟨_,d,fun q e=>(by cases e),fun s q e=>by
     cases e;obtain ⟨bh,bi,bj⟩:=d.suf;have h1: 0 < bh.length:=List.length_pos_iff.2 (bj _ _ rfl);exact .inl ⟨hk,J,d2,by rw[hx,QR.pre_cons],by rw[bi,zA];show ad.length < _+ad.length;omega⟩⟩
   |@last _ s d hk=>exact ⟨_,d,fun q e=>(by cases e),fun s q e=>by cases e;exact .inr (.inl ⟨hk,rfl,by rw[hx];rfl⟩)⟩
   |@over _ ad t s d hk=>exact ⟨_,d,fun q e=>(by cases e),fun s q e=>by cases e;exact .inr (.inr ⟨hk,by simp,by rw[hx];rfl⟩)⟩
  obtain ⟨F,af,aI,aJ⟩:=bg;have aK:=Ab (NZ (aY:=aY) hp r F af wr bd aD (Aa bf));have ag:=Ab (And.intro aI aJ);have bk:=Ab (show ∀ s q,F= .ok s q→q.length < r.length from fun s q e=>by subst e;exact af.less);clear aC hx aD aE aF aG af aI aJ;go_wp2_with fail
  refine (Aa aK).mono ?_;intro bB w2 aL;cases F with
  |bad q=>
   obtain ⟨⟨bC,bD,nm,j,l,b,rfl,h3,h4,ah⟩,M⟩:=aL;have bl:=Ab ((Aa ag).1 q rfl);rcases h3 with rfl | ⟨bm,u3,rfl⟩ <;> rcases h4 with rfl | ⟨C,u4,rfl⟩
   all_goals
    dsimp only[Ci];go_wp2_with fail
    go_ret2
    rw[Aa bl];have aM:=fun o=>(Below.refl w2.heap.size w2).alloc NLN o;exact ⟨⟨b,rfl,Al.after ah (aM _) NLN⟩,(T1.trans M).allP (aM _)⟩
  |ok s q=>
   obtain ⟨⟨p,z,K,rfl,aN,aO,aP,aQ,aR⟩,M⟩:=aL;have bn:=(Aa ag).2 s q rfl;have aS:=T1.trans M;have H:w2.ownsRow w.heap.size 119 5 (.slice a X.length ab) X.length (Hj X):=Ac R (fun q hq=>M.block q (R.lt q hq).2 (.inr (by have:=(R.lt q hq).1;omega)));have aT:=Ab (EE.of (w':=w2) (fun v n ai N q hq=>M.block q (N.lt q hq).2 (.inr (N.lt q hq).1)) X L (Aa aH));have O:=Ab (show SxP (pb+1) w2 ⟨(s.at_:Int),s.kind,s.name,p,z⟩ s from ⟨rfl,rfl,rfl,aN,aO,aP,aQ⟩);have aj:=Ab (show Nq ⟨(s.at_:Int),s.kind,s.name,p,z⟩= [.int .i64 (s.at_:Int),.int .i64 s.kind,.string s.name,Bu p,Bu z] from rfl);have A:=Ab aR;have bE:X.length < 4000:=by have:=(Aa ac).2;have:=Aa aa;have:=(Aa bk) s q rfl;omega
   have aU:=IX p;have aV:=IX z;generalize Bu p=j at aU aj;generalize Bu z=l at aV aj;have bF:=aS.size;clear aN aO aP aQ aR R ag aH aK;have ak:=(Below.refl w2.heap.size w2).alloc NLN (.cells #[.int .i64 (s.at_:Int),.int .i64 s.kind,.string s.name,j,l] 119);have al:=ak.alloc ak.size (.cells #[.int .i64 (s.at_:Int),.int .i64 s.kind,.string s.name,j,l] 119);have aW:=(H.alloc (.cells #[.int .i64 (s.at_:Int),.int .i64 s.kind,.string s.name,j,l] 119)).alloc (.cells #[.int .i64 (s.at_:Int),.int .i64 s.kind,.string s.name,j,l] 119);have ao:=Al.new (w2.alloc (.cells #[.int .i64 (s.at_:Int),.int .i64 s.kind,.string s.name,j,l] 119)) #[.int .i64 (s.at_:Int),.int .i64 s.kind,.string s.name,j,l] 119;simp only[World.size_alloc] at ao;have aX:=(Al.new w2 #[.int .i64 (s.at_:Int),.int .i64 s.kind,.string s.name,j,l] 119).alloc (.cells #[.int .i64 (s.at_:Int),.int .i64 s.kind,.string s.name,j,l] 119);obtain ⟨ap,aZ⟩:∃ ap:List Value,ap= [.int .i64 (s.at_:Int),.int .i64 s.kind,.string s.name,j,l]:=⟨_,rfl⟩
   have S:=Ab aZ;clear aZ;rcases aU with rfl | ⟨bm,u3,rfl⟩ <;> rcases aV with rfl | ⟨C,u4,rfl⟩
   all_goals
    dsimp only;go_wp2_with (at_builtin;refine wpList_append_own _ rfl _ _ 100 rfl w.heap.size 119 i (.agg #[.int .i64 0,.int .i64 0,.string ByteArray.empty,.nilIface,.nilIface]) 5 64 Tryz.underlying100 hi a9 ba bb rfl (by decide) _ _ _ rfl aW ⟨w2.heap.size+1,0,none⟩ 1 1 ap rfl (by rw[Aa S];rfl) ?k0c1 ?k0c2 ?k0c3 ?k0c4 ?k0c5 ?_)
    case k0c1=>rw[Aa S];exact Adl ao
    case k0c2=>rw[Aa S];intro u a0;simp at a0;rcases a0 with rfl | rfl | rfl | rfl | rfl <;> rfl
    case k0c3=>unfold maxLen;omega
    case k0c4=>omega
    case k0c5=>simp;omega
    intro v' f U I _;rw[Aa S] at U;have aq:=fun (q:Nat) (h1:q < w2.heap.size+2) (h2:(Value.slice a X.length ab).ownBlock≠some q)=>I.block q (by simp;omega) (fun e=>h2 e.symm);have a1:Al f w2.heap.size _ _:=⟨(aq _ (by omega) (fun e=>by have:=(H.lt _ e).2;omega)).trans aX.out⟩
    have V:∀ q,q < w2.heap.size→(Value.slice a X.length ab).ownBlock≠some q→f.heap[q]? =w2.heap[q]? :=fun q h1 h2=>(aq q (by omega) h2).trans (al.block q h1);have B:Pp f pb g c T tl q K:=⟨⟨(V pb (Aa A).row.lt (Ae (Aa A).row H (by decide))).trans (Aa A).row.out⟩,Ac (Aa A).toks (fun q hq=>V q ((Aa A).toks.lt q hq).2 (fun e=>Ai H (Aa A).toks (by decide) q e hq)),(Aa A).drop,(Aa A).len,(Aa A).small⟩
    have W:∀ (v:Value) (n:Nat) (ai:List Value),w2.ownsRow (pb+1) 9 1 v n ai→∀ q,v.ownBlock=some q→f.heap[q]? =w2.heap[q]? :=fun v n ai N q hq=>V q (N.lt q hq).2 (fun e=>Ai H N (by decide) q e hq);have a2:=Ab (EE.of W X L (Aa aT));have a3:=Ab (show SxP (pb+1) f ⟨(s.at_:Int),s.kind,s.name,p,z⟩ s from ⟨rfl,rfl,rfl,(Aa O).2.2.2.1,(Aa O).2.2.2.2.1,MR W _ (Aa O).2.2.2.2.2.1,MR W _ (Aa O).2.2.2.2.2.2⟩);have a4:=Ab (EE.snoc (Aa a3) X L (Aa a2));have P:Aj pb (pb+1) w f:=by
     have C:=aS.allP al;exact ⟨I.os.trans C.os,I.tape.trans C.tape,I.output.trans C.output,zD C.size I.size,fun q h1 h2=>(I.block q (zM h1 C.size) (fun e=>by have:=(H.lt q e.symm).1;omega)).trans (C.block q h1 h2)⟩
    obtain ⟨Y,Z,hf⟩:=Ad U;have a5:Hid (f.ownsRow w.heap.size 119 5 (.slice Y (X.length+1) Z) (X.length+1) (Hj (X ++ [⟨(s.at_:Int),s.kind,s.name,p,z⟩]))):=Ab (by rw[Aac,Aa aj,← hf.1];exact U);have bo:=hf.1;subst bo;have bG:f.cell? ⟨w2.heap.size,1,none⟩=some (.int .i64 s.kind):=a1.cell 1;clear I aq V W U hf aW ak al ao aX a1 H aT O a2 a3;rcases bn with ⟨hk,J,a6,E,bp⟩ | ⟨hk,rfl,E⟩ | ⟨hk,hq,E⟩
    ·have a7:(s.kind== 3)=false:=zB.2 hk;have a8:=Ab (show PlN pb g c T tl x w q.length (.slice Y (X.length+1) Z) f from ⟨X ++ [⟨(s.at_:Int),s.kind,s.name,p,z⟩],L ++ [s],Y,Z,q,K,J,by simp,by rw[List.length_append];exact Aa a5,Aa a4,B,a6,E,rfl,by have:=(Aa ac).2;simp;omega,P⟩);have bq:=Ab (show q.length < m by have:=(Aa ac).1;omega);clear hk a6 E bp B P;go_wp2_with fail
     go_roundw
     case rel=>exact ⟨_,Aa a8⟩
     case measure=>rw[Aa bc];exact Aa aA _ _ _ (Aa bq) (Aa a8)
    ·have a7:(s.kind== 3)=true:=zN.2 hk;have ar:=Ab E;have Q:=B.len;have au:=B.row.cell 0;have av:=B.row.cell 1;simp only[zu,zi,zc] at au av;clear hk E;have br:=Aa aa;have bs:wrap64 (((T.length+1 :Nat):Int) - 1)=(T.length:Int):=by simp[wrap64];omega
     have bt:decide (K < T.length)=false:=by rw[decide_eq_false_iff_not];simp at Q;omega
     have ae: ¬ K < T.length:=by simp at Q;omega
     clear Q;go_wp2_with fail
     go_region
     all_goals
      go_wp2_with fail
      go_ret2
      rw[Aa ar];have bu:=(Below.refl f.heap.size f).drew;exact ⟨⟨X ++ [(⟨(s.at_:Int),s.kind,s.name,p,z⟩:Sx)],Y,Z,by rw[zA];rfl,by rw[zA];exact Ac (Aa a5) (fun q hq=>rfl),EE.of (w:=f) (w':=f.drew) (fun _ _ _ _ _ _=>rfl) _ _ (Aa a4),by simp;omega⟩,P.allP bu⟩
    ·have a7:(s.kind== 3)=true:=zN.2 hk;have ar:=Ab E;have Q:=B.len;have au:=B.row.cell 0;have av:=B.row.cell 1;simp only[zu,zi,zc] at au av;have bv:=Ab (Fo (B.drew) (((Aa ax).touch P hp).below (Below.refl f.heap.size f).drew));clear hk E;have br:=Aa aa;have bw: 0 < q.length:=List.length_pos_iff.2 hq;have bs:wrap64 (((T.length+1 :Nat):Int) - 1)=(T.length:Int):=by simp[wrap64];omega
     have bt:decide (K < T.length)=true:=by rw[zG];omega
     have ae:K < T.length:=by omega
     clear Q hq bw;go_wp2_with fail
     go_region
     all_goals
      go_wp2_with fail
      refine (Aa bv).mono ?_;rintro e bH ⟨b,rfl,ah,bx⟩;dsimp only[Ci];go_wp2_with fail
      go_ret2
      rw[Aa ar];exact ⟨⟨b,rfl,ah⟩,(P.allP (Below.refl f.heap.size f).drew).allP bx⟩
end Go.Proofs.YtchakjeegneeoaaGreatDoor
namespace Go.Proofs.YtchakjeegneeoaaGreatDoor
set_option maxRecDepth 100000
set_option maxHeartbeats 3200000
open Go.RowKit
set_option linter.unusedVariables false
variable {a1 a2 a3 a4 a5 a6 : Addr}
theorem Aaf (a b:Int):mx a b=max a b:=by unfold mx;split <;> omega
def ErN (a4 a5 a6:Addr) (c:Int) (o:Option Int) (w:World) (r:Ending) (w':World):Prop:=
 (match o with
   |none=>r= .returned .nilIface
   |some i=>∃ b,r= .returned (Ci b)∧ErP a4 a5 a6 c i b w')∧Below w.heap.size w w'
theorem Aag {X:List Sx}{k:Nat}(hk:k < X.length):JO (X.drop k)=if 64 < mx (JZ X[k].cond) (JZ X[k].grant) then some X[k].at' else JO (X.drop (k+1)):=by
 rw[zg hk,JO]
theorem TG (X:List Sx)(v:Value)(w:World)(lo:Nat)(a:Option Addr)(J:Nat)(K:w.ownsRow lo 119 5 (.slice a X.length J) X.length (Hj X))(hc:∀ x∈X,AH x.cond≤65535∧AH x.grant≤65535)(aq:X.length≤4000)(S:S6 w a1 a2 a3 a4 a5 a6):
  Calls Tryz.prog 55 #[.slice a X.length J] w (ErN a4 a5 a6 6 (JO X) w):=by
 have ac:=Ab hc;have L:=Ab K;have ad:=Ab S;have d:=Ab (show JO X=JO (X.drop 0) by rw[zs]);clear hc K S;generalize M:X.length=m at *;have N:=Ab M;clear M;go_enter Tryz.func55,Tryz.ntmps55
 go_wp2_with fail
 go_loopw [7] (fun i wr=>∃ k:Nat,k≤m∧i= .int .i64 k∧JO X=JO (X.drop k)∧Below w.heap.size w wr) (fun i _=>m - (intOf i).toNat)
 case atStart=>exact ⟨0,zF _,rfl,Aa d,BRN⟩
 case round=>
  clear d;obtain ⟨k,hk,rfl,hx,n⟩:=hrel;have d:=Ab hx;clear hx;by_cases A:k < m
  ·have ar:(k:Int) < (m:Int):=by omega
   have o:k < X.length:=by rw[Aa N];exact A
   obtain ⟨x0,c0,hf,ae⟩:=Ad (Aa L);obtain ⟨g,af,au,O⟩:=ae (by omega);have ag:a=some ⟨g,0,none⟩:=by injection hf with h1;rw[h1];exact af
   subst ag;have ah:g < w.heap.size:=((Aa L).lt g rfl).2;have f:∀ r,r < 5→∀ u,(Nq X[k])[r]? =some u→wr.cell? ⟨g,k * 5+r,none⟩=some u:=fun r ai u aj=>by
    rw[n.cell (p:=⟨g,k * 5+r,none⟩) ah];refine O _ _ ?_;rw[Nr X k o r ai];exact aj
   have B:=f 0 (by decide) _ rfl;have P:=f 1 (by decide) _ rfl;have q2:=f 2 (by decide) _ rfl;have q3:=f 3 (by decide) _ rfl;have q4:=f 4 (by decide) _ rfl;simp only[zZ] at B;obtain ⟨Q,R⟩:=Aa ac X[k] (zO o);have q:=Ab (fun w=>Aae X[k].cond Q w);have s:=Ab (fun w=>Aae X[k].grant R w);have h:=Ab (Aag o);have t:=Kg X[k].cond;have y:=Kg X[k].grant;have T:=Ab A;clear f O Q R hf A;generalize X[k]=x at B P q2 q3 q4 q s h t y;clear o;generalize JZ x.cond=d1 at q h;generalize JZ x.grant=d2 at s h;generalize Bu x.cond=b at q3 q t;generalize Bu x.grant=c at q4 s y;have ak:=n.alloc n.size (.cells #[.int .i64 x.at',.int .i64 x.kind,.string x.name,b,c] 119);have C:=Al.new wr #[.int .i64 x.at',.int .i64 x.kind,.string x.name,b,c] 119;go_wp2_with fail
   rw[run_store _ _ _ _ _ t];go_simp
   rw[run_store _ _ _ _ _ y];go_simp
   go_wp2_with fail
   generalize al:wr.alloc (.cells #[.int .i64 x.at',.int .i64 x.kind,.string x.name,b,c] 119)=W at *;have av:W.cell? ⟨wr.heap.size,3,none⟩=some b:=C.cell 3;have aw:W.cell? ⟨wr.heap.size,4,none⟩=some c:=C.cell 4;have E:=C.after BRN.drew NLN;have ax:W.drew.cell? ⟨wr.heap.size,3,none⟩=some b:=E.cell 3;have ay:W.drew.cell? ⟨wr.heap.size,4,none⟩=some c:=E.cell 4;have U:=ak.drew;clear al B P q2 q3 q4 t y;have az:Hid (mx d1 d2=if d1 < d2 then d2 else d1):=Ab rfl;go_region_held3 (fun w'=>w'.cell? ⟨wr.heap.size,3,none⟩=some b∧w'.cell? ⟨wr.heap.size,4,none⟩=some c) (first | assumption | go_keep) (first
    |(go_at_call 88;refine (Aa s F).mono ?_;rintro e j ⟨rfl,V⟩;have H:=I.after V NLN;have z:=Y.trans (V.mono Y.size);have aA:j.cell? ⟨wr.heap.size,3,none⟩=some b:=H.cell 3;have aB:j.cell? ⟨wr.heap.size,4,none⟩=some c:=H.cell 4)
    |(go_at_call 88;refine (Aa q W.drew).mono ?_;rintro e F ⟨rfl,Z⟩;have I:=E.after Z NLN;have Y:=U.trans (Z.mono U.size);have aC:F.cell? ⟨wr.heap.size,3,none⟩=some b:=I.cell 3;have aD:F.cell? ⟨wr.heap.size,4,none⟩=some c:=I.cell 4)
    |fail)
   cases aa:decide (64 < max d1 d2)
   ·have l:=Ab (show JO X=JO (X.drop (k+1)) by rw[Aa d,Aa h,if_neg (by rw[Aaf];exact of_decide_eq_false aa)]);go_wp2_with fail
    go_roundw
    case rel=>exact ⟨k+1,Aa T,by go_num,Aa l,z⟩
    case measure=>have:=Aa T;simp[intOf];omega
   ·have l:=Ab (show JO X=some x.at' by rw[Aa d,Aa h,if_pos (by rw[Aaf];exact of_decide_eq_true aa)]);have ab:=(Aa ad).below z NLN;have g6:=ab.g6;have aE:j.cell? ⟨wr.heap.size,0,none⟩=some (.int .i64 x.at'):=H.cell 0;have aF:=(ab.below (Below.refl j.heap.size j).drew NLN).g6;go_wp2_with fail
    refine (ET _ _ _ _).mono ?_;rintro e aG ⟨rfl,ao,ap⟩;dsimp only;go_wp2_with fail
    go_ret
    rw[Aa l];exact ⟨⟨_,rfl,ao⟩,z.trans (ap.mono z.size)⟩
  ·have e:k=m:=by omega
   subst e;have l:=Ab (show JO X=none by rw[Aa d,← Aa N,Z6];rfl);go_wp2_with fail
   go_ret
   rw[Aa l];exact ⟨rfl,n⟩
def KR:List Nd→List Int→List Int
 |n ::N,i ::P=>if 64 < n.names.length then i ::KR N P else KR N P
 |_,_=> []
theorem Aah {N:List Nd}{P:List Int}{k:Nat}(hk:k < N.length)(hp:k < P.length):(KR (N.drop k) (P.drop k)).head? =if 64 < N[k].names.length then some P[k] else (KR (N.drop (k+1)) (P.drop (k+1))).head?:=by
 rw[zg hk,zg hp,KR];split <;> rfl
theorem Vz (N:List Nd)(P:List Int)(nd R:Value)(n o:List Value)(w:World)(lo:Nat)(C:Bt w lo nd N n o)(E:w.ownsRow lo 3 1 R P.length (Ar P))(F:N.length=P.length)(ay:N.length≤65535)(S:S6 w a1 a2 a3 a4 a5 a6):
  Calls Tryz.prog 54 #[nd,R] w (ErN a4 a5 a6 5 (KR N P).head? w):=by
 have c:=Ab C;have ab:=Ab E;have ac:=Ab S;have d:=Ab (show (KR N P).head? =(KR (N.drop 0) (P.drop 0)).head? by rw[zs,zs]);obtain ⟨az,aA,ad,g⟩:=Ad C.own;obtain ⟨aB,aC,ae,h⟩:=Ad E;subst ad;subst ae;have af:=Ab g;have ag:=Ab h;clear C E S g h;generalize T:N.length=m at *;have q:=Ab (And.intro T F);rw[← F];clear T F;go_enter Tryz.func54,Tryz.ntmps54
 go_wp2_with fail
 go_loopw [9] (fun i wr=>∃ k:Nat,k≤m∧i= .int .i64 k∧(KR N P).head? =(KR (N.drop k) (P.drop k)).head?∧Below w.heap.size w wr) (fun i _=>m - (intOf i).toNat)
 case atStart=>exact ⟨0,zF _,rfl,Aa d,BRN⟩
 case round=>
  clear d;obtain ⟨k,hk,rfl,hx,s⟩:=hrel;have d:=Ab hx;clear hx;by_cases t:k < m
  ·have aD:(k:Int) < (m:Int):=by omega
   have a:k < N.length:=by rw[(Aa q).1];exact t
   have H:k < P.length:=by rw[← (Aa q).2];exact t
   obtain ⟨v,ah,aE,g⟩:=Aa af (by omega);obtain ⟨j,ai,aF,h⟩:=Aa ag (by rw[← (Aa q).2];omega);subst ah;subst ai;have aj:v < w.heap.size:=((Aa c).own.lt v rfl).2;have ak:j < w.heap.size:=((Aa ab).lt j rfl).2;have y:k < n.length:=by rw[(Aa c).len];exact a
   have I:k < o.length:=by rw[(Aa c).lenk];exact a
   have f:∀ r,r < 5→∀ u,(Lk N[k] n[k] o[k])[r]? =some u→wr.cell? ⟨v,k * 5+r,none⟩=some u:=fun r al u ao=>by
    rw[s.cell (p:=⟨v,k * 5+r,none⟩) aj];refine g _ _ ?_;rw[Ll N n o k a y I r al];exact ao
   have J:=f 0 (by decide) _ rfl;have U:=f 1 (by decide) _ rfl;have q2:=f 2 (by decide) _ rfl;have q3:=f 3 (by decide) _ rfl;have q4:=f 4 (by decide) _ rfl;simp only[zZ] at J;obtain ⟨K,cs,V,ap⟩:=Ad ((Aa c).names k a y);obtain ⟨L,M,X,aq⟩:=Ad ((Aa c).kids k a I);rw[V] at q3;rw[X] at q4;have Y:∀ w',Below w.heap.size w w'→w'.cell? ⟨j,k,none⟩=some (.int .i64 P[k]):=fun w' ar=>by
    rw[ar.cell (p:=⟨j,k,none⟩) ak];refine h _ _ ?_;rw[Ar,zh,zH H];rfl
   have z:=Ab Y;have A:=Ab (Aah a H);have Z:=Ab t;have aG:(k:Int) < (P.length:Int):=by omega
   have nl:N[k].names.length≤9223372036854775807:=by
    have:=(Aa c).names k a y;rcases this.2 with ⟨_,h0⟩ | ⟨g0,aH,aI,_,_,_,h4,h5,_⟩
    ·omega
    ·unfold maxLen at h5;omega
   clear f g h V X t Y ap aq;generalize P[k]=aa at z A;generalize N[k]=x at J U q2 q3 q4 A nl;clear a H y I;have b:=s.alloc s.size (.cells #[.int .i64 x.op,.int .i64 x.num,.string x.text,.slice K x.names.length cs,.slice L x.kids.length M] 68);have au:=Al.new wr #[.int .i64 x.op,.int .i64 x.num,.string x.text,.slice K x.names.length cs,.slice L x.kids.length M] 68;by_cases B: 64 < x.names.length
   ·have av:(64 :Int) < (x.names.length:Int):=by omega
    have l:=Ab (show (KR N P).head? =some aa by rw[Aa d,Aa A,if_pos B]);have O:=(Aa ac).below b NLN;have g5:=O.g5;have c5:=Aa z _ b;have aJ:=Aa z _ b.drew;have g6:=(O.below BRN.drew NLN).g5;clear B;go_wp2_with fail
    generalize aw:wr.alloc (.cells #[.int .i64 x.op,.int .i64 x.num,.string x.text,.slice K x.names.length cs,.slice L x.kids.length M] 68)=W at *;clear aw J U q2 q3 q4 au;go_region_held3 (fun w'=>w'.cell? ⟨j,k,none⟩=some (.int .i64 aa)∧w'.cell? ⟨2,0,none⟩=some (.iface 276 (.pointer (some a5)))) (first | assumption | go_keep) (first
     |(go_at_call 83;refine (ET _ _ _ W.drew).mono ?_;rintro e aK ⟨rfl,ax,Q⟩;have c7:=Aa z _ (b.drew.trans (Q.mono b.drew.size));have g7:=((O.below BRN.drew NLN).below Q NLN).g5)
     |fail)
    all_goals
     go_wp2_with fail
     go_ret
     rw[Aa l];exact ⟨⟨_,rfl,ax⟩,b.drew.trans (Q.mono b.drew.size)⟩
   ·have av: ¬ ((64 :Int) < (x.names.length:Int)):=by omega
    have l:=Ab (show (KR N P).head? =(KR (N.drop (k+1)) (P.drop (k+1))).head? by rw[Aa d,Aa A,if_neg B]);clear B;go_wp2_with fail
    go_roundw
    case rel=>exact ⟨k+1,Aa Z,by go_num,Aa l,b⟩
    case measure=>have:=Aa Z;simp[intOf];omega
  ·have e:k=m:=by omega
   subst e;have l:=Ab (show (KR N P).head? =none by rw[Aa d,← (Aa q).1,Z6];rfl);go_wp2_with fail
   go_ret
   rw[Aa l];exact ⟨rfl,s⟩
end Go.Proofs.YtchakjeegneeoaaGreatDoor
namespace Go.Proofs.YtchakjeegneeoaaGreatDoor
open Go.RowKit
set_option linter.unusedVariables false
theorem Er.same:∀ {e:Ex} {p:Pt},Er e p→e.cnt=p.ex.cnt∧(∀ b,BH e b=BH p.ex b)∧DG e=DG p.ex∧Cj e=Cj p.ex
 | .int i n,.int j m,h=>by obtain ⟨rfl,rfl⟩:=h;exact ⟨rfl,fun _=>rfl,rfl,rfl⟩
 | .text i s,.text j t,h=>by obtain ⟨rfl,rfl⟩:=h;exact ⟨rfl,fun _=>rfl,rfl,rfl⟩
 | .bool i b,.bool j d,h=>by obtain ⟨rfl,rfl⟩:=h;exact ⟨rfl,fun _=>rfl,rfl,rfl⟩
 | .set i a n c K,.set j ss,h=>by obtain ⟨rfl,f⟩:=h;rw[VA f];exact ⟨rfl,fun _=>rfl,rfl,rfl⟩
 | .name i s,.name j t,h=>by obtain ⟨rfl,rfl⟩:=h;exact ⟨rfl,fun _=>rfl,rfl,rfl⟩
 | .un i op k,.un j o q,h=>by
  obtain ⟨rfl,rfl,hk⟩:=h;obtain ⟨a1,a2,a3,a4⟩:=Er.same hk;exact ⟨by simp only[Pt.ex,Ex.cnt,a1],fun b=>by simp only[Pt.ex,BH,a1,a2],by simp only[Pt.ex,DG,a3],by simp only[Pt.ex,Cj,a4]⟩
 | .bin i op l r,.bin j o p q,h=>by
  obtain ⟨rfl,rfl,g,u⟩:=h;obtain ⟨a1,a2,a3,a4⟩:=Er.same g;obtain ⟨b1,b2,b3,b4⟩:=Er.same u;exact ⟨by simp only[Pt.ex,Ex.cnt,a1,b1],fun b=>by simp only[Pt.ex,BH,a1,a2,b1,b2],by simp only[Pt.ex,DG,a3,b3],by simp only[Pt.ex,Cj,a4,b4]⟩
 | .ite i c t e,.ite j x y z,h=>by
  obtain ⟨rfl,hc,ht,he⟩:=h;obtain ⟨a1,a2,a3,a4⟩:=Er.same hc;obtain ⟨b1,b2,b3,b4⟩:=Er.same ht;obtain ⟨c1,c2,c3,c4⟩:=Er.same he;exact ⟨by simp only[Pt.ex,Ex.cnt,a1,b1,c1],fun b=>by simp only[Pt.ex,BH,a1,a2,b1,b2,c1,c2],by simp only[Pt.ex,DG,a3,b3,c3],by simp only[Pt.ex,Cj,a4,b4,c4]⟩
 | .attr ..,_,h=>absurd h (by simp[Er])
 | .lett ..,_,h=>absurd h (by simp[Er])
 | .int ..,.text ..,h | .int ..,.bool ..,h | .int ..,.set ..,h | .int ..,.name ..,h | .int ..,.un ..,h | .int ..,.bin ..,h | .int ..,.ite ..,h=>absurd h (by simp[Er])
 | .text ..,.int ..,h | .text ..,.bool ..,h | .text ..,.set ..,h | .text ..,.name ..,h | .text ..,.un ..,h | .text ..,.bin ..,h | .text ..,.ite ..,h=>absurd h (by simp[Er])
 | .bool ..,.int ..,h | .bool ..,.text ..,h | .bool ..,.set ..,h | .bool ..,.name ..,h | .bool ..,.un ..,h | .bool ..,.bin ..,h | .bool ..,.ite ..,h=>absurd h (by simp[Er])
 | .set ..,.int ..,h | .set ..,.text ..,h | .set ..,.bool ..,h | .set ..,.name ..,h | .set ..,.un ..,h | .set ..,.bin ..,h | .set ..,.ite ..,h=>absurd h (by simp[Er])
 | .name ..,.int ..,h | .name ..,.text ..,h | .name ..,.bool ..,h | .name ..,.set ..,h | .name ..,.un ..,h | .name ..,.bin ..,h | .name ..,.ite ..,h=>absurd h (by simp[Er])
 | .un ..,.int ..,h | .un ..,.text ..,h | .un ..,.bool ..,h | .un ..,.set ..,h | .un ..,.name ..,h | .un ..,.bin ..,h | .un ..,.ite ..,h=>absurd h (by simp[Er])
 | .bin ..,.int ..,h | .bin ..,.text ..,h | .bin ..,.bool ..,h | .bin ..,.set ..,h | .bin ..,.name ..,h | .bin ..,.un ..,h | .bin ..,.ite ..,h=>absurd h (by simp[Er])
 | .ite ..,.int ..,h | .ite ..,.text ..,h | .ite ..,.bool ..,h | .ite ..,.set ..,h | .ite ..,.name ..,h | .ite ..,.un ..,h | .ite ..,.bin ..,h=>absurd h (by simp[Er])
theorem TB.same {o:Option Ex}{p:Option Pt}(h:TB o p):AH o=AH (p.map Pt.ex)∧(∀ b,Gv o b=Gv (p.map Pt.ex) b)∧Mw o=Mw (p.map Pt.ex)∧JZ o=JZ (p.map Pt.ex)∧(∀ b,Gp o b=Gp (p.map Pt.ex) b):=by
 match o,p,h with
 |none,none,_=>exact ⟨rfl,fun _=>rfl,rfl,rfl,fun _=>rfl⟩
 |some e,some p,h=>
  obtain ⟨a1,a2,a3,a4⟩:=Er.same (show Er e p from h);exact ⟨a1,a2,a3,a4,fun b=>by simp only[Option.map_some,Gp,a1]⟩
theorem EE.same {lo:Nat}{w:World} :∀ (X:List Sx) (S:List Ps),EE lo w X S→(∀ b,AK b X=AK b (S.map Ps.sx))∧(∀ b,Cu b X=Cu b (S.map Ps.sx))∧Dm X=Dm (S.map Ps.sx)∧CI X=CI (S.map Ps.sx)∧JO X=JO (S.map Ps.sx)
 | [], [],_=>⟨fun _=>rfl,fun _=>rfl,rfl,rfl,rfl⟩
 |x ::X,s ::S,h=>by
  obtain ⟨⟨h1,h2,h3,h4,h5,_,_⟩,a⟩:=h;obtain ⟨c,d,f,g,i⟩:=EE.same X S a;obtain ⟨a1,a2,a3,a4,a5⟩:=h4.same;obtain ⟨b1,b2,b3,b4,b5⟩:=h5.same;refine ⟨fun b=>?_,fun b=>?_, ?_, ?_, ?_⟩
  ·simp only[List.map_cons,AK,Ps.sx,a1,a2,b1,b2,c]
  ·simp only[List.map_cons,Cu,Ps.sx,a1,a5,b1,b5,d,h2,h3]
  ·simp only[List.map_cons,Dm,Ps.sx,a3,b3,f]
  ·rw[List.map_cons,Bp,Bp,g];simp only[Ps.sx,a1,b1]
  ·simp only[List.map_cons,JO,Ps.sx,a4,b4,i,h1]
 | [],_ ::_,h=>absurd h id
 |_ ::_, [],h=>absurd h id
theorem Fd:∀ (b B:List Nd) (P Q:List Int),b.length=P.length→KR (b ++B) (P ++Q)=KR b P ++KR B Q
 | [],B, [],Q,_=>rfl
 | [],_,_ ::_,_,h=>by simp at h
 |_ ::_,_, [],_,h=>by simp at h
 |a ::b,B,p ::P,Q,h=>by
  have c:=Fd b B P Q (by simpa using h);rw[List.cons_append,List.cons_append,KR,KR,c];split <;> rfl
theorem Rk (n:Nd)(i:Int)(h:n.names= []):KR [n] [i]= []:=by
 rw[KR,h];rfl
theorem Pt.wide:∀ (p:Pt) (b:Nat),KR (BH p.ex b) (DG p.ex)=Mu p.sets
 | .int ..,b=>rfl
 | .text ..,b=>rfl
 | .bool ..,b=>rfl
 | .set i ss,b=>by
  show KR [_] [_]=_;rw[KR];show (if 64 < (MO ss).length then _ else _)=Mu [(i,ss)];rw[Mu,List.filterMap_cons];dsimp only;split <;> simp_all[KR]
 | .name ..,b=>rfl
 | .un i op k,b=>by
  have a:=Pt.wide k b;simp only[Pt.ex,BH,DG,Pt.sets];rw[Fd _ _ _ _ (by rw[Am,Bn]),a,Rk _ _ rfl,zr]
 | .bin i op l r,b=>by
  simp only[Pt.ex,BH,DG,Pt.sets];rw[Fd _ _ _ _ (by simp[Am,Bn]),Fd _ _ _ _ (by rw[Am,Bn]),Pt.wide l,Pt.wide r,Rk _ _ rfl,zr,MS]
 | .ite i c t e,b=>by
  simp only[Pt.ex,BH,DG,Pt.sets];rw[Fd _ _ _ _ (by simp[Am,Bn]),Fd _ _ _ _ (by simp[Am,Bn]),Fd _ _ _ _ (by rw[Am,Bn]),Pt.wide c,Pt.wide t,Pt.wide e,Rk _ _ rfl,zr,MS,MS,zC]
theorem Aai (o:Option Pt)(b:Nat):KR (Gv (o.map Pt.ex) b) (Mw (o.map Pt.ex))=Mu (Q7 o):=by
 cases o with
 |none=>rfl
 |some p=>exact p.wide b
theorem Kh:∀ (S:List Ps) (b:Nat),KR (AK b (S.map Ps.sx)) (Dm (S.map Ps.sx))=Mu (S.flatMap Ps.sets)
 | [],b=>rfl
 |s ::S,b=>by
  simp only[List.map_cons,AK,Dm,zn,Ps.sets];rw[Fd _ _ _ _ (by simp[IZ,Ki]),Fd _ _ _ _ (by rw[IZ,Ki]),Kh S];simp only[Ps.sx,Aai,MS,zC]
theorem JE:∀ {e:Ex} {p:Pt} {lo:Nat} {w:World},Er e p→e.own lo w→(∀ q∈p.sets,Ab3 q.2)→e.sok w
 | .int ..,.int ..,_,_,_,_,_=>trivial
 | .text ..,.text ..,_,_,_,_,_=>trivial
 | .bool ..,.bool ..,_,_,_,_,_=>trivial
 | .name ..,.name ..,_,_,_,_,_=>trivial
 | .set i a n c K,.set j ss,lo,w,h,ho,hs=>by
  obtain ⟨_,f⟩:=h;have g:w.ownsRow lo 9 1 (.slice a n c) n (K.map Value.string):=ho;have m:K.length=n:=by have:=g.1;simpa using this
  have h1:=hs (j,ss) (by simp[Pt.sets]);have h2:∀ x∈K,x.size≤maxLen:=fun x hx=>h1.1 x ((f.mem x).1 hx);have h3:=f.len;have h4:=h1.2;exact ⟨Bg.of_owns g (fun k hk=>by rw[Cv K k (by omega)];exact h2 _ (zO _)),by dsimp only at h4;omega⟩
 | .un _ _ k,.un _ _ q,lo,w,h,ho,hs=>JE (e:=k) h.2.2 ho hs
 | .bin _ _ l r,.bin _ _ p q,lo,w,h,ho,hs=>⟨JE h.2.2.1 ho.1 (fun b d=>hs b (zl _ d)),JE h.2.2.2 ho.2 (fun b d=>hs b (zm _ d))⟩
 | .ite _ c t e,.ite _ x y b,lo,w,h,ho,hs=>⟨JE h.2.1 ho.1 (fun b d=>hs b (zl _ d)),JE h.2.2.1 ho.2.1 (fun b d=>hs b (zm _ (zl _ d))),JE h.2.2.2 ho.2.2 (fun b d=>hs b (zm _ (zm _ d)))⟩
 | .attr ..,_,_,_,h,_,_=>absurd h (by simp[Er])
 | .lett ..,_,_,_,h,_,_=>absurd h (by simp[Er])
 | .int ..,.text ..,_,_,h,_,_ | .int ..,.bool ..,_,_,h,_,_ | .int ..,.set ..,_,_,h,_,_ | .int ..,.name ..,_,_,h,_,_ | .int ..,.un ..,_,_,h,_,_ | .int ..,.bin ..,_,_,h,_,_ | .int ..,.ite ..,_,_,h,_,_=>absurd h (by simp[Er])
 | .text ..,.int ..,_,_,h,_,_ | .text ..,.bool ..,_,_,h,_,_ | .text ..,.set ..,_,_,h,_,_ | .text ..,.name ..,_,_,h,_,_ | .text ..,.un ..,_,_,h,_,_ | .text ..,.bin ..,_,_,h,_,_ | .text ..,.ite ..,_,_,h,_,_=>absurd h (by simp[Er])
 | .bool ..,.int ..,_,_,h,_,_ | .bool ..,.text ..,_,_,h,_,_ | .bool ..,.set ..,_,_,h,_,_ | .bool ..,.name ..,_,_,h,_,_ | .bool ..,.un ..,_,_,h,_,_ | .bool ..,.bin ..,_,_,h,_,_ | .bool ..,.ite ..,_,_,h,_,_=>absurd h (by simp[Er])
 | .set ..,.int ..,_,_,h,_,_ | .set ..,.text ..,_,_,h,_,_ | .set ..,.bool ..,_,_,h,_,_ | .set ..,.name ..,_,_,h,_,_ | .set ..,.un ..,_,_,h,_,_ | .set ..,.bin ..,_,_,h,_,_ | .set ..,.ite ..,_,_,h,_,_=>absurd h (by simp[Er])
 | .name ..,.int ..,_,_,h,_,_ | .name ..,.text ..,_,_,h,_,_ | .name ..,.bool ..,_,_,h,_,_ | .name ..,.set ..,_,_,h,_,_ | .name ..,.un ..,_,_,h,_,_ | .name ..,.bin ..,_,_,h,_,_ | .name ..,.ite ..,_,_,h,_,_=>absurd h (by simp[Er])
 | .un ..,.int ..,_,_,h,_,_ | .un ..,.text ..,_,_,h,_,_ | .un ..,.bool ..,_,_,h,_,_ | .un ..,.set ..,_,_,h,_,_ | .un ..,.name ..,_,_,h,_,_ | .un ..,.bin ..,_,_,h,_,_ | .un ..,.ite ..,_,_,h,_,_=>absurd h (by simp[Er])
 | .bin ..,.int ..,_,_,h,_,_ | .bin ..,.text ..,_,_,h,_,_ | .bin ..,.bool ..,_,_,h,_,_ | .bin ..,.set ..,_,_,h,_,_ | .bin ..,.name ..,_,_,h,_,_ | .bin ..,.un ..,_,_,h,_,_ | .bin ..,.ite ..,_,_,h,_,_=>absurd h (by simp[Er])
 | .ite ..,.int ..,_,_,h,_,_ | .ite ..,.text ..,_,_,h,_,_ | .ite ..,.bool ..,_,_,h,_,_ | .ite ..,.set ..,_,_,h,_,_ | .ite ..,.name ..,_,_,h,_,_ | .ite ..,.un ..,_,_,h,_,_ | .ite ..,.bin ..,_,_,h,_,_=>absurd h (by simp[Er])
theorem WR {o:Option Ex}{p:Option Pt}{lo:Nat}{w:World}(h:TB o p)(a:Mv lo w o)(hs:∀ q∈Q7 p,Ab3 q.2):Jt w o:=by
 match o,p,h with
 |none,none,_=>trivial
 |some e,some p,h=>exact JE h a hs
theorem EE.sok {lo:Nat}{w:World} :∀ (X:List Sx) (S:List Ps),EE lo w X S→(∀ q∈S.flatMap Ps.sets,Ab3 q.2)→∀ x∈X,Jt w x.cond∧Jt w x.grant
 | [], [],_,_,x,hx=>by cases hx
 |y ::X,s ::S,h,hs,x,hx=>by
  obtain ⟨⟨h1,h2,h3,h4,h5,a,b⟩,c⟩:=h;rw[zn] at hs;rcases zE.1 hx with rfl | hx
  ·exact ⟨WR h4 a (fun q hq=>hs q (zl _ (zl _ hq))),WR h5 b (fun q hq=>hs q (zl _ (zm _ hq)))⟩
  ·exact EE.sok X S c (fun q hq=>hs q (zm _ hq)) x hx
 | [],_ ::_,h,_,_,_=>absurd h id
 |_ ::_, [],h,_,_,_=>absurd h id
end Go.Proofs.YtchakjeegneeoaaGreatDoor
namespace Go.Proofs.YtchakjeegneeoaaGreatDoor
set_option maxRecDepth 100000
set_option maxHeartbeats 6400000
open Go.RowKit
set_option linter.unusedVariables false
variable {a1 a2 a3 a4 a5 a6 : Addr}
structure EvP (w:World) (a1 a2 a3 a4 a5 a6:Addr):Prop where
 s6:S6 w a1 a2 a3 a4 a5 a6
 tab:∀ k,w.cell? ⟨12,k,none⟩=Je[k]?
theorem EvP.below {w w':World}(h:EvP w a1 a2 a3 a4 a5 a6)(a:Below w.heap.size w w'):EvP w' a1 a2 a3 a4 a5 a6:=
 ⟨h.s6.below a NLN,fun k=>(a.cell (p:=⟨12,k,none⟩) (by have:=h.s6.big;show 12 < _;omega)).trans (h.tab k)⟩
theorem EvP.gy {w:World}(h:EvP w a1 a2 a3 a4 a5 a6):Gy w a4:=⟨h.s6.g4,h.s6.big,h.tab⟩
def PqA (a1 a2 a3 a4 a5 a6:Addr) (R:List Nd × List St × List Int × Int × Int) (w:World) (r:Ending) (w':World):Prop:=
 ((R.2.2.2.1=0∧R.2.2.2.2=0∧∃ nd pl nv kv sv,r= .returned (.tuple #[.agg #[nd,sv],pl,.nilIface])∧Bt w' w.heap.size nd R.1 nv kv∧w'.ownsRow w.heap.size 60 4 sv R.2.1.length (Cy R.2.1)∧w'.ownsRow w.heap.size 3 1 pl R.2.2.1.length (Ar R.2.2.1)∧(∀ q,pl.ownBlock=some q→∀ j,(hj:j < kv.length)→kv[j].ownBlock≠some q))∨
   (R.1= []∧R.2.1= []∧R.2.2.1= []∧1≤R.2.2.2.1∧R.2.2.2.1≤3∧∃ b,r= .returned (.tuple #[.agg #[.slice none 0 0,.slice none 0 0],.slice none 0 0,Ci b])∧Al w' b #[.int .i64 R.2.2.2.2,Ir a1 a2 a3 R.2.2.2.1] 112)∨
   (R.1= []∧R.2.1= []∧R.2.2.1= []∧4≤R.2.2.2.1∧R.2.2.2.1≤6∧∃ b,r= .returned (.tuple #[.agg #[.slice none 0 0,.slice none 0 0],.slice none 0 0,Ci b])∧ErP a4 a5 a6 R.2.2.2.1 R.2.2.2.2 b w'))∧Below w.heap.size w w'
theorem Rm {w:World}{b c:Nat}{cs f:Array Value}{t d:TypeId}(R:Al w b cs t)(R':Al w c f d)(h:t≠d):b≠c:=fun e=>by
 have a:=R.out;have g:=R'.out;rw[e,g] at a;injection a with a;injection a with _ a;exact h a.symm
theorem N6 {g:Func}{a u v:Tmp}(h:g.results= #[.cell a 36,.tmp u,.tmp v]){tmps:Array Value}{w:World}{b:Nat}{c d e f:Value}(i:tmps.getD a undef= .pointer (some ⟨b,0,none⟩))(j:tmps.getD u undef=e)(k:tmps.getD v undef=f)
  (R:Al w b #[c,d] 36):(results g tmps).run Tryz.prog w= .ok (.tuple #[.agg #[c,d],e,f]) w:=by
 rw[Z4] at i j k;have g0:w.cell? ⟨b,0,none⟩=some c:=R.cell 0;have g1:w.cell? ⟨b,1,none⟩=some d:=R.cell 1;simp[results,h,i,j,k,go_sem,g0,g1]
theorem Yc (t:ByteArray)(x:QR)(d:DP (AI t).toks x)(w:World)(E:EvP w a1 a2 a3 a4 a5 a6):
  Calls Tryz.prog 34 #[.string t] w (PqA a1 a2 a3 a4 a5 a6 (Ik t x) w):=by
 have f:=(Below.refl w.heap.size w).alloc NLN (.cells #[.slice none 0 0,.slice none 0 0] 36);have L:=Al.new w #[.slice none 0 0,.slice none 0 0] 36;have A:=Ab (E.below f);have aA:=Ab d;have bD:=Ab (Il t);clear E d;go_enter Tryz.func34,Tryz.ntmps34
 go_wp2_with fail
 generalize aS:w.alloc (.cells #[.slice none 0 0,.slice none 0 0] 36)=W at *;have cb:w.heap.size < W.heap.size:=by rw[← aS];simp
 clear aS;refine (Aak t W (Aa A).s6.snt).mono ?_;rintro e aT (⟨hc,bE,cc,cd,rfl,aB,aU,m⟩ | ⟨bF,h1,h3,b,rfl,aV,m⟩)
 ·have M:=L.after m NLN;have aW:=f.trans (m.mono f.size);have ae:=Ab hc;have ce:=Ab ((Aa A).below m);have bG:=Aa bD;have bH:=Ab aU;generalize bI:(AI t).toks=T at *;clear hc bE aU bI;obtain ⟨i,hi,bJ,bK,bL⟩:=info_parts Aal;have aX:=m.alloc m.size (.cells #[.int .i64 0,.int .i64 0,.string ⟨#[]⟩,.int .i64 (t.size:Int)] 51);have aY:=aB.alloc (.cells #[.int .i64 0,.int .i64 0,.string ⟨#[]⟩,.int .i64 (t.size:Int)] 51);have aZ:=Al.new aT #[.int .i64 0,.int .i64 0,.string ⟨#[]⟩,.int .i64 (t.size:Int)] 51;dsimp only;go_wp2_with (at_builtin;refine wpList_append_own _ rfl _ _ 46 rfl W.heap.size 51 i (.agg #[.int .i64 0,.int .i64 0,.string ByteArray.empty,.int .i64 0]) 4 40 Tryz.underlying46 hi bJ bK bL rfl (by decide) _ _ _ rfl aY ⟨aT.heap.size,0,none⟩ 1 1 (Ln (eT t.size)) rfl rfl ?c1 ?c2 ?c3 ?c4 ?c5 ?_)
  case c1=>exact Lo (x:=eT t.size) aZ
  case c2=>exact Rn _
  case c3=>unfold maxLen;omega
  case c4=>omega
  case c5=>have:=m.size;simp;omega
  intro v' B af a0 _;have ag:Below W.heap.size W B:=aX.grown a0 (by simp;have:=m.size;omega) (fun q hq=>(aB.lt q hq).1);rw[← Lp] at af;obtain ⟨cf,ah,bM,a7⟩:=Ad af;obtain ⟨ai,bN,cg,_⟩:=a7 (by omega);subst bN;subst bM;clear a0 aB aY aZ aX a7;have U:=ag.alloc ag.size (.cells #[.slice (some ⟨ai,0,none⟩) (T.length+1) ah,.int .i64 0] 99);have a8:Pp (B.alloc (.cells #[.slice (some ⟨ai,0,none⟩) (T.length+1) ah,.int .i64 0] 99)) B.heap.size ai ah T t.size T 0:=⟨Al.new B _ _,DO (af.alloc _) (zF _),by simp,by simp,bG⟩
  have aC:=(Aa A).below U;have bO: 20≤B.heap.size:=zD (Aa A).s6.big ag.size;have a9:=Ab (Vy bO T x (Aa aA) _ 0 a8 aC.gy);have ch:=Ab aC;clear a8 aC af;go_wp2_with fail
  generalize ba:B.alloc (.cells #[.slice (some ⟨ai,0,none⟩) (T.length+1) ah,.int .i64 0] 99)=aD at *;have ci:B.heap.size < aD.heap.size:=by rw[← ba];simp
  clear ba;have bb:=ag.size;refine (Aa a9).mono ?_;intro aE N bc;cases x with
  |bad q=>
   obtain ⟨⟨b,rfl,V⟩,aj⟩:=bc;have C:Below W.heap.size W N:=Gf U aj bb U.size;have Y:=L.after C NLN;have F:=f.trans (C.mono f.size);have n:=Ab (MP (t:=t) (q:=q) (Aa ae));have o:=Y.cell 0;have s:=Y.cell 1;have ak:=fun j=>Y.frozen j;simp only[zu,zi,zc] at o s;have z:Al N b #[.int .i64 ((DV t.size q).at_:Int),.iface 276 (.pointer (some a4))] 112:=V;dsimp only[Ci];go_wp2_with fail
   have v:=(Y.set 0 (.slice none 0 0)).set 1 (.slice none 0 0);have y:=(F.setCell (p:=⟨w.heap.size,0,none⟩) NLN (.slice none 0 0)).setCell (p:=⟨w.heap.size,1,none⟩) NLN (.slice none 0 0);have h:b≠w.heap.size:=Rm z Y (by decide);have H:=(z.setFar (p:=⟨w.heap.size,0,none⟩) h (.slice none 0 0)).setFar (p:=⟨w.heap.size,1,none⟩) h (.slice none 0 0);rw[Aa n];exact bodyPost_ret (N6 Tryz.results34 rfl rfl rfl v) rfl ⟨.inr (.inr ⟨rfl,rfl,rfl,by show (4 :Int)≤4;omega,by show (4 :Int)≤6;omega,b,rfl,H⟩),y⟩
  |ok S=>
   obtain ⟨⟨X,a,al,rfl,aF,ao,bP⟩,aj⟩:=bc;have C:Below W.heap.size W N:=Gf U aj bb U.size;have aG:=(Aa aA).cut S rfl;have bQ:=aG.cnt;obtain ⟨bd,bf,bg,Z,bh⟩:=EE.same X S ao;have bR:=EE.len X S ao;have bi:X.length≠0:=fun e=>(Aa aA).ne S rfl (zy (by omega));have bj:=EE.sok X S ao (fun q hq=>by rw[← aG.sets] at hq;exact N5 T (Aa bH) (by omega) q hq);rcases aF.2 with ⟨_,h0⟩ | ⟨g,cap,aH,bk,bS,bl,bT,bU,bV,bm⟩
   ·exact absurd h0 bi
   simp only[Value.slice.injEq,true_and] at bk;obtain ⟨rfl,rfl⟩:=bk;have bn:Al N g aH 119:=⟨bl⟩
   have bo:∀ (r:Nat) (u:Value),(Hj X)[r]? =some u→aH[r]? =some u:=fun r u ap=>by
    rw[← bm,List.getElem?_take] at ap;split at ap
    ·simpa using ap
    ·cases ap
   have bp:=Ab (Nv X g X.length al aH N rfl bn bo bj (by rw[Z];omega) (by omega));have l:=Ab (And.intro bd (And.intro bf (And.intro bg (And.intro Z bh))));have bW:=Ab (show ∀ x∈X,AH x.cond≤65535∧AH x.grant≤65535 from fun x hx=>by have:=Aaj hx;rw[Z] at this;omega);have bX:=Ab (show CI X≤65535 by rw[Z];omega);have aq:=Ab aF;have cj:=Ab ((Aa A).below C);clear bl bo bm bV bU bT bj aG bQ bd bf bg Z bh ao bn aj aF a9 bR bi bS;dsimp only;go_wp2_with fail
   refine (Aa bp).mono ?_;rintro aE O ⟨⟨nd,ck,bq,br,cl,rfl,aI,ar,au,bs⟩,aJ⟩;obtain ⟨I,J,rfl,_⟩:=Ad aI.own;obtain ⟨cm,cn,rfl,_⟩:=Ad au;obtain ⟨K,cs,rfl,_⟩:=Ad ar;have aK:=C.trans (aJ.mono C.size);have av:=(Below.refl O.heap.size O).alloc NLN (.cells #[.slice I (AK 0 X).length J,.slice K X.length cs] 36);have bY:=Al.new O #[.slice I (AK 0 X).length J,.slice K X.length cs] 36;have aL:=aK.alloc aK.size (.cells #[.slice I (AK 0 X).length J,.slice K X.length cs] 36);have aM:=aI.blocks (fun k _ hk=>av.block k hk);have aN:=Ac au (fun q hq=>av.block q (au.lt q hq).2);have bt:=Ac ar (fun q hq=>av.block q (ar.lt q hq).2);have bZ:=Ab (Vz (AK 0 X) (Dm X) _ _ bq br _ _ aM aN (by rw[Do,GB]) (by rw[Do];exact Aa bX) ((Aa A).below aL).s6);have b0:=Ab aM;have bu:=Ab aN;have bv:=Ab bt;have b1:=Ab bs;have bw:=Ab (Ac (Aa aq) (fun q hq=>by rw[av.block q (zM ((Aa aq).lt q hq).2 aJ.size),aJ.block q ((Aa aq).lt q hq).2]):World.ownsRow _ aD.heap.size 119 5 (.slice (some ⟨g,0,none⟩) X.length al) X.length (Hj X));have co:=C.size;clear aI au ar aM aN bt bs bp aq;dsimp only;go_wp2_with fail
   generalize b2:O.alloc (.cells #[.slice I (AK 0 X).length J,.slice K X.length cs] 36)=cp at *;clear b2;refine (Aa bZ).mono ?_;rintro aE aO ⟨aw,aa⟩;have ab:=aL.trans (aa.mono aL.size);have b3:=bY.after aa NLN;cases P:(KR (AK 0 X) (Dm X)).head? with
   |some i=>
    rw[P] at aw;obtain ⟨b,rfl,V⟩:=aw;have n:=Ab (J3 (t:=t) (S:=S) (i:=i) (Aa ae) (by rw[← Kh S 0,← (Aa l).1 0,← (Aa l).2.2.1];exact P));clear P;have c:=L.after ab NLN;have F:=f.trans (ab.mono f.size);have o:=c.cell 0;have s:=c.cell 1;have ak:=fun j=>c.frozen j;simp only[zu,zi,zc] at o s;have z:Al aO b _ 112:=V;dsimp only[Ci];go_wp2_with fail
    have v:=(c.set 0 (.slice none 0 0)).set 1 (.slice none 0 0);have y:=(F.setCell (p:=⟨w.heap.size,0,none⟩) NLN (.slice none 0 0)).setCell (p:=⟨w.heap.size,1,none⟩) NLN (.slice none 0 0);have h:b≠w.heap.size:=Rm z c (by decide);have H:=(z.setFar (p:=⟨w.heap.size,0,none⟩) h (.slice none 0 0)).setFar (p:=⟨w.heap.size,1,none⟩) h (.slice none 0 0);rw[Aa n];exact bodyPost_ret (N6 Tryz.results34 rfl rfl rfl v) rfl ⟨.inr (.inr ⟨rfl,rfl,rfl,by show (4 :Int)≤5;omega,by show (5 :Int)≤6;omega,b,rfl,H⟩),y⟩
   |none=>
    rw[P] at aw;subst aw;have b4:=Ab (Ac (Aa bw) (fun q hq=>aa.block q ((Aa bw).lt q hq).2):aO.ownsRow aD.heap.size 119 5 (.slice (some ⟨g,0,none⟩) X.length al) X.length (Hj X));have bx:=Ab P;have b5:=Ab (TG X (.nilIface) aO _ _ al (Aa b4) (Aa bW) bP ((Aa A).below ab).s6);clear P;dsimp only;go_wp2_with fail
    refine (Aa b5).mono ?_;rintro aE ax ⟨ay,aP⟩;have az:=ab.trans (aP.mono ab.size);have bz:=b3.after aP NLN;cases Q:JO X with
    |some i=>
     rw[Q] at ay;obtain ⟨b,rfl,V⟩:=ay;have n:=Ab (J4 (t:=t) (S:=S) (i:=i) (Aa ae) (by rw[← Kh S 0,← (Aa l).1 0,← (Aa l).2.2.1];exact Aa bx) (by rw[← (Aa l).2.2.2.2];exact Q));clear Q;have c:=L.after az NLN;have F:=f.trans (az.mono f.size);have o:=c.cell 0;have s:=c.cell 1;have ak:=fun j=>c.frozen j;simp only[zu,zi,zc] at o s;have z:Al ax b _ 112:=V;dsimp only[Ci];go_wp2_with fail
     have v:=(c.set 0 (.slice none 0 0)).set 1 (.slice none 0 0);have y:=(F.setCell (p:=⟨w.heap.size,0,none⟩) NLN (.slice none 0 0)).setCell (p:=⟨w.heap.size,1,none⟩) NLN (.slice none 0 0);have h:b≠w.heap.size:=Rm z c (by decide);have H:=(z.setFar (p:=⟨w.heap.size,0,none⟩) h (.slice none 0 0)).setFar (p:=⟨w.heap.size,1,none⟩) h (.slice none 0 0);rw[Aa n];exact bodyPost_ret (N6 Tryz.results34 rfl rfl rfl v) rfl ⟨.inr (.inr ⟨rfl,rfl,rfl,by show (4 :Int)≤6;omega,by show (6 :Int)≤6;omega,b,rfl,H⟩),y⟩
    |none=>
     rw[Q] at ay;subst ay;have n:=Ab (Q8 (t:=t) (S:=S) (Aa ae) (by rw[← Kh S 0,← (Aa l).1 0,← (Aa l).2.2.1];exact Aa bx) (by rw[← (Aa l).2.2.2.2];exact Q));clear Q;have c:=L.after az NLN;have F:=f.trans (az.mono f.size);have o:=c.cell 0;have s:=c.cell 1;have ak:=fun j=>c.frozen j;have b6:=bz.cell 0;have b7:=bz.cell 1;simp only[zu,zi,zc] at o s b6 b7;have nz:O.heap.size≠w.heap.size:=by have:=aK.size;omega
     have cq:w.heap.size≠O.heap.size:=fun e=>nz e.symm;dsimp only;go_wp2_with fail
     have aQ:=aa.trans (aP.mono aa.size);have R:=(Aa b0).blocks (fun k _ hk=>aQ.block k hk);have bA:=Ac (Aa bu) (fun q hq=>aQ.block q ((Aa bu).lt q hq).2);have bB:=Ac (Aa bv) (fun q hq=>aQ.block q ((Aa bv).lt q hq).2);have ac:∀ q,q≠w.heap.size→((ax.setCell ⟨w.heap.size,0,none⟩ (.slice I (AK 0 X).length J)).setCell ⟨w.heap.size,1,none⟩ (.slice K X.length cs)).heap[q]? =ax.heap[q]? :=fun q hq=>(heap_setCell_other _ ⟨w.heap.size,1,none⟩ q _ hq).trans (heap_setCell_other ax ⟨w.heap.size,0,none⟩ q _ hq);have v:=(c.set 0 (.slice I (AK 0 X).length J)).set 1 (.slice K X.length cs);have y:=(F.setCell (p:=⟨w.heap.size,0,none⟩) NLN (.slice I (AK 0 X).length J)).setCell (p:=⟨w.heap.size,1,none⟩) NLN (.slice K X.length cs);have b8:=R.upto (fun q hq=>ac q (fun e=>Ae c R.own (by decide) (by rw[hq,e]))) (fun j ad q hq=>ac q (fun e=>Ae c (R.names j (by rw[← R.len];exact ad) ad) (by decide) (by rw[hq,e]))) (fun j ad q hq=>ac q (fun e=>Ae c (R.kids j (by rw[← R.lenk];exact ad) ad) (by decide) (by rw[hq,e])));have b9:=Ac bA (fun q hq=>ac q (fun e=>Ae c bA (by decide) (by rw[hq,e])));have ca:=Ac bB (fun q hq=>ac q (fun e=>Ae c bB (by decide) (by rw[hq,e])));have aR:w.heap.size≤N.heap.size:=by omega
     rw[Aa n,← (Aa l).1 0,← (Aa l).2.1 0,← (Aa l).2.2.1];refine bodyPost_ret (N6 Tryz.results34 rfl rfl rfl v) rfl ⟨.inl ⟨rfl,rfl,_,_,bq,br,_,rfl,b8.low aR, ?_,DO b9 aR,Aa b1⟩,y⟩;show World.ownsRow _ _ _ _ _ (Cu 0 X).length _;rw[Fy];exact DO ca aR
 ·have M:=L.after m NLN;have aW:=f.trans (m.mono f.size);have n:=Ab (show Ik t x=([], [], [],(AI t).code,((AI t).at_:Int)) from J5 (by omega));have bC:=Ab (And.intro h1 h3);have o:=M.cell 0;have s:=M.cell 1;have ak:=fun j=>M.frozen j;simp only[zu,zi,zc] at o s;clear bF h1 h3;dsimp only;go_wp2_with fail
  have v:=(M.set 0 (.slice none 0 0)).set 1 (.slice none 0 0);have y:=(aW.setCell (p:=⟨w.heap.size,0,none⟩) NLN (.slice none 0 0)).setCell (p:=⟨w.heap.size,1,none⟩) NLN (.slice none 0 0);have h:b≠w.heap.size:=Rm aV M (by decide);have H:=(aV.setFar (p:=⟨w.heap.size,0,none⟩) h (.slice none 0 0)).setFar (p:=⟨w.heap.size,1,none⟩) h (.slice none 0 0);rw[Aa n];exact bodyPost_ret (N6 Tryz.results34 rfl rfl rfl v) rfl ⟨.inr (.inl ⟨rfl,rfl,rfl,(Aa bC).1,(Aa bC).2,b,rfl,H⟩),y⟩
end Go.Proofs.YtchakjeegneeoaaGreatDoor
namespace Go.Proofs.YtchakjeegneeoaaGreatDoor
set_option maxRecDepth 100000
set_option maxHeartbeats 3200000
open Go.RowKit
set_option linter.unusedVariables false
variable {a1 a2 a3 a4 a5 a6 : Addr}
def UQ (R:List Nd × List St × List Int × Int × Int) (w:World) (r:Ending) (w':World):Prop:=
 (∃ nd pl nv kv sv,r= .returned (.tuple #[.agg #[nd,sv],pl,.agg #[.int .i64 R.2.2.2.1,.int .i64 R.2.2.2.2]])∧Bt w' w.heap.size nd R.1 nv kv∧w'.ownsRow w.heap.size 60 4 sv R.2.1.length (Cy R.2.1)∧w'.ownsRow w.heap.size 3 1 pl R.2.2.1.length (Ar R.2.2.1)∧(∀ q,pl.ownBlock=some q→∀ j,(hj:j < kv.length)→kv[j].ownBlock≠some q))∧Below w.heap.size w w'
theorem Is {j:Func}{a u v:Tmp}(h:j.results= #[.cell a 36,.tmp u,.cell v 28]){tmps:Array Value}{w:World}{b c:Nat}{d f e g i:Value}(k:tmps.getD a undef= .pointer (some ⟨b,0,none⟩))(l:tmps.getD u undef=e)(m:tmps.getD v undef= .pointer (some ⟨c,0,none⟩))
  (R:Al w b #[d,f] 36)(F:Al w c #[g,i] 28):(results j tmps).run Tryz.prog w= .ok (.tuple #[.agg #[d,f],e,.agg #[g,i]]) w:=by
 rw[Z4] at k l m;have g0:w.cell? ⟨b,0,none⟩=some d:=R.cell 0;have g1:w.cell? ⟨b,1,none⟩=some f:=R.cell 1;have g2:w.cell? ⟨c,0,none⟩=some g:=F.cell 0;have g3:w.cell? ⟨c,1,none⟩=some i:=F.cell 1;simp[results,h,k,l,m,go_sem,g0,g1,g2,g3]
theorem PqA.uni {R:List Nd × List St × List Int × Int × Int}{w a:World}{r:Ending}(h:PqA a1 a2 a3 a4 a5 a6 R w r a)(E:EvP a a1 a2 a3 a4 a5 a6):
  ∃ nd c k d i ev,r= .returned (.tuple #[.agg #[nd,i],c,ev])∧Io ev∧Bt a w.heap.size nd R.1 k d∧a.ownsRow w.heap.size 60 4 i R.2.1.length (Cy R.2.1)∧a.ownsRow w.heap.size 3 1 c R.2.2.1.length (Ar R.2.2.1)∧(∀ q,c.ownBlock=some q→∀ j,(m:j < d.length)→d[j].ownBlock≠some q)∧
   (∀ w',Below a.heap.size a w'→Calls Tryz.prog 35 #[ev] w' fun e l=>e= .returned (.agg #[.int .i64 R.2.2.2.1,.int .i64 R.2.2.2.2])∧Below w'.heap.size w' l):=by
 obtain ⟨N,L,O,cd,at_⟩:=R;rcases h with ⟨⟨h1,h2,nd,c,k,d,i,rfl,g1,g2,g3,g4⟩ | ⟨h1,h2,h3,h4,h5,b,rfl,f⟩ | ⟨h1,h2,h3,h4,h5,b,rfl,f⟩,n⟩
 ·dsimp only at h1 h2;subst h1 h2;exact ⟨nd,c,k,d,i,.nilIface,rfl,.inl rfl,g1,g2,g3,g4,fun w' _=>L3 w'⟩
 ·dsimp only at h1 h2 h3 h4 h5 f;subst h1 h2 h3;exact ⟨_,_, [], [],_,_,rfl,.inr ⟨_,_,rfl⟩,Bt.nil _ _,World.ownsRow_nil _ _ _ _,World.ownsRow_nil _ _ _ _,(fun q hq=>by cases hq),fun w' g=>TH b at_ cd w' (E.below g).s6.snt (f.after g NLN) ⟨h4,h5⟩⟩
 ·dsimp only at h1 h2 h3 h4 h5 f;subst h1 h2 h3;exact ⟨_,_, [], [],_,_,rfl,.inr ⟨_,_,rfl⟩,Bt.nil _ _,World.ownsRow_nil _ _ _ _,World.ownsRow_nil _ _ _ _,(fun q hq=>by cases hq),fun w' g=>ZS b cd at_ w' (E.below g).s6 (Al.after f g NLN) ⟨h4,h5⟩⟩
theorem VB (t:ByteArray)(x:QR)(d:DP (AI t).toks x)(w:World)(E:EvP w a1 a2 a3 a4 a5 a6):
  Calls Tryz.prog 12 #[.string t] w (UQ (Ik t x) w):=by
 have l:=((Below.refl w.heap.size w).alloc NLN (.cells #[.slice none 0 0,.slice none 0 0] 36)).alloc (by simp) (.cells #[.int .i64 0,.int .i64 0] 28);have aD:=(Al.new w #[.slice none 0 0,.slice none 0 0] 36).alloc (.cells #[.int .i64 0,.int .i64 0] 28);have ap:=Al.new (w.alloc (.cells #[.slice none 0 0,.slice none 0 0] 36)) #[.int .i64 0,.int .i64 0] 28;simp only[World.size_alloc] at ap;have aE:=Ab (E.below l);have P:=Ab (Yc t x d _ (E.below l));generalize Ik t x=R at P ⊢;obtain ⟨N,L,O,cd,at_⟩:=R;clear E d;go_enter Tryz.func12,Tryz.ntmps12
 go_wp2_with fail
 generalize aq:(w.alloc (.cells #[.slice none 0 0,.slice none 0 0] 36)).alloc (.cells #[.int .i64 0,.int .i64 0] 28)=W at *;have ar:W.heap.size=w.heap.size+2:=by rw[← aq];simp
 have Q:=Ab ar;clear aq ar;refine (Aa P).mono ?_;intro aN a S;have o:=S.2;obtain ⟨nd,aO,au,av,aP,ev,rfl,aF,H,I,J,aw,hf⟩:=S.uni ((Aa aE).below o);clear S P;obtain ⟨b,c,rfl,_⟩:=Ad H.own;obtain ⟨aQ,aR,rfl,_⟩:=Ad J;obtain ⟨f,cs,rfl,_⟩:=Ad I;dsimp only at H I J hf ⊢;have aG:=aD.after o NLN;have aH:=ap.after o NLN;have ax:=Ab hf;have ay:=Ab H;have v:=Ab I;have y:=Ab J;have s:=(Below.refl a.heap.size a).alloc NLN (.cells #[.slice b N.length c,.slice f L.length cs] 36);have z:=Al.new a #[.slice b N.length c,.slice f L.length cs] 36;clear hf H I J;have aS:w.heap.size+2≤a.heap.size:=by have:=o.size;have:=Aa Q;omega
 have az:(Tryz.f35.name== "runtime.NumGoroutine")=false:=by kernel_rfl
 have aA: Tryz.f35.body.isNone=false:=by kernel_rfl
 have aB:=aG.alloc (.cells #[.slice b N.length c,.slice f L.length cs] 36);have aC:=aH.alloc (.cells #[.slice b N.length c,.slice f L.length cs] 36);have K:w.heap.size≠w.heap.size+1:=by omega
 have M:w.heap.size+1≠w.heap.size:=by omega
 have aT:a.heap.size≠w.heap.size:=by omega
 have aU:a.heap.size≠w.heap.size+1:=by omega
 rcases aF with rfl | ⟨aI,aJ,rfl⟩
 ·go_wp2_with fail
  generalize T:a.alloc (.cells #[.slice b N.length c,.slice f L.length cs] 36)=g at *;clear T;have U:g.cell? ⟨a.heap.size,0,none⟩=some (.slice b N.length c):=z.cell 0;have V:g.cell? ⟨a.heap.size,1,none⟩=some (.slice f L.length cs):=z.cell 1;have X:Below g.heap.size g g.drew:=BRN.drew;go_region_law (refine Fz rfl 35 _ Tryz.func35 az aA _ _ rfl (.nilIface) rfl (fun v' w'=>v'= .agg #[.int .i64 cd,.int .i64 at_]∧Below g.heap.size g w') ((Aa ax g.drew s.drew).mono (fun r w' h=>⟨_,h.1,rfl,X.trans h.2⟩)) ?_;rintro aK i ⟨rfl,k⟩;have A:=z.after k NLN;have m:=aB.after k NLN;have n:=aC.after k NLN;have Y:i.cell? ⟨a.heap.size,0,none⟩=some (.slice b N.length c):=A.cell 0;have Z:i.cell? ⟨a.heap.size,1,none⟩=some (.slice f L.length cs):=A.cell 1;have aa:i.cell? ⟨w.heap.size,0,none⟩=some (.slice none 0 0):=m.cell 0;have ab:i.cell? ⟨w.heap.size,1,none⟩=some (.slice none 0 0):=m.cell 1;have ac:=fun j=>m.frozen j;have ad:i.cell? ⟨w.heap.size+1,0,none⟩=some (.int .i64 0):=n.cell 0;have ae:i.cell? ⟨w.heap.size+1,1,none⟩=some (.int .i64 0):=n.cell 1;have af:=fun j=>n.frozen j)
  all_goals
   have ag:=(((m.set 0 (.slice b N.length c)).set 1 (.slice f L.length cs)).setFar (p:=⟨w.heap.size+1,0,none⟩) K (.int .i64 cd)).setFar (p:=⟨w.heap.size+1,1,none⟩) K (.int .i64 at_);have ah:=(((n.setFar (p:=⟨w.heap.size,0,none⟩) M (.slice b N.length c)).setFar (p:=⟨w.heap.size,1,none⟩) M (.slice f L.length cs)).set 0 (.int .i64 cd)).set 1 (.int .i64 at_);have B:=(l.trans (o.mono l.size)).trans (s.mono (zD l.size o.size));have ai:=B.trans (k.mono B.size);have aj:=(((ai.setCell (p:=⟨w.heap.size,0,none⟩) NLN (.slice b N.length c)).setCell (p:=⟨w.heap.size,1,none⟩) NLN (.slice f L.length cs)).setCell (p:=⟨w.heap.size+1,0,none⟩) (zJ _) (.int .i64 cd)).setCell (p:=⟨w.heap.size+1,1,none⟩) (zJ _) (.int .i64 at_);have kp:∀ q,W.heap.size≤q→q < a.heap.size→((((i.setCell ⟨w.heap.size,0,none⟩ (.slice b N.length c)).setCell ⟨w.heap.size,1,none⟩ (.slice f L.length cs)).setCell ⟨w.heap.size+1,0,none⟩ (.int .i64 cd)).setCell ⟨w.heap.size+1,1,none⟩ (.int .i64 at_)).heap[q]? =a.heap[q]? :=fun q h1 h2=>by
    have aL:=Aa Q;have C:q≠w.heap.size:=by omega
    have F:q≠w.heap.size+1:=by omega
    rw[heap_setCell_other _ _ q _ F,heap_setCell_other _ _ q _ F,heap_setCell_other _ _ q _ C,heap_setCell_other _ _ q _ C,k.block q (zM h2 s.size),s.block q h2]
   have ak:=(Aa ay).blocks kp;have al:=Ac (Aa v) (fun q hq=>kp q ((Aa v).lt q hq).1 ((Aa v).lt q hq).2);have ao:=Ac (Aa y) (fun q hq=>kp q ((Aa y).lt q hq).1 ((Aa y).lt q hq).2);clear Y Z aa ab ac ad ae af U V kp;generalize (((i.setCell ⟨w.heap.size,0,none⟩ (.slice b N.length c)).setCell ⟨w.heap.size,1,none⟩ (.slice f L.length cs)).setCell ⟨w.heap.size+1,0,none⟩ (.int .i64 cd)).setCell ⟨w.heap.size+1,1,none⟩ (.int .i64 at_)=aM at *;go_wp2_with fail
   have u:w.heap.size≤W.heap.size:=l.size;exact bodyPost_ret (Is Tryz.results12 rfl rfl rfl ag ah) rfl ⟨⟨_,_,au,av,_,rfl,ak.low u,DO al u,DO ao u,aw⟩,aj⟩
 ·go_wp2_with fail
  generalize T:a.alloc (.cells #[.slice b N.length c,.slice f L.length cs] 36)=g at *;clear T;have U:g.cell? ⟨a.heap.size,0,none⟩=some (.slice b N.length c):=z.cell 0;have V:g.cell? ⟨a.heap.size,1,none⟩=some (.slice f L.length cs):=z.cell 1;have X:Below g.heap.size g g.drew:=BRN.drew;go_region_law (refine Fz rfl 35 _ Tryz.func35 az aA _ _ rfl (.iface aI aJ) rfl (fun v' w'=>v'= .agg #[.int .i64 cd,.int .i64 at_]∧Below g.heap.size g w') ((Aa ax g.drew s.drew).mono (fun r w' h=>⟨_,h.1,rfl,X.trans h.2⟩)) ?_;rintro aK i ⟨rfl,k⟩;have A:=z.after k NLN;have m:=aB.after k NLN;have n:=aC.after k NLN;have Y:i.cell? ⟨a.heap.size,0,none⟩=some (.slice b N.length c):=A.cell 0;have Z:i.cell? ⟨a.heap.size,1,none⟩=some (.slice f L.length cs):=A.cell 1;have aa:i.cell? ⟨w.heap.size,0,none⟩=some (.slice none 0 0):=m.cell 0;have ab:i.cell? ⟨w.heap.size,1,none⟩=some (.slice none 0 0):=m.cell 1;have ac:=fun j=>m.frozen j;have ad:i.cell? ⟨w.heap.size+1,0,none⟩=some (.int .i64 0):=n.cell 0;have ae:i.cell? ⟨w.heap.size+1,1,none⟩=some (.int .i64 0):=n.cell 1;have af:=fun j=>n.frozen j)
  all_goals
   have ag:=(((m.set 0 (.slice b N.length c)).set 1 (.slice f L.length cs)).setFar (p:=⟨w.heap.size+1,0,none⟩) K (.int .i64 cd)).setFar (p:=⟨w.heap.size+1,1,none⟩) K (.int .i64 at_);have ah:=(((n.setFar (p:=⟨w.heap.size,0,none⟩) M (.slice b N.length c)).setFar (p:=⟨w.heap.size,1,none⟩) M (.slice f L.length cs)).set 0 (.int .i64 cd)).set 1 (.int .i64 at_);have B:=(l.trans (o.mono l.size)).trans (s.mono (zD l.size o.size));have ai:=B.trans (k.mono B.size);have aj:=(((ai.setCell (p:=⟨w.heap.size,0,none⟩) NLN (.slice b N.length c)).setCell (p:=⟨w.heap.size,1,none⟩) NLN (.slice f L.length cs)).setCell (p:=⟨w.heap.size+1,0,none⟩) (zJ _) (.int .i64 cd)).setCell (p:=⟨w.heap.size+1,1,none⟩) (zJ _) (.int .i64 at_);have kp:∀ q,W.heap.size≤q→q < a.heap.size→((((i.setCell ⟨w.heap.size,0,none⟩ (.slice b N.length c)).setCell ⟨w.heap.size,1,none⟩ (.slice f L.length cs)).setCell ⟨w.heap.size+1,0,none⟩ (.int .i64 cd)).setCell ⟨w.heap.size+1,1,none⟩ (.int .i64 at_)).heap[q]? =a.heap[q]? :=fun q h1 h2=>by
    have aL:=Aa Q;have C:q≠w.heap.size:=by omega
    have F:q≠w.heap.size+1:=by omega
    rw[heap_setCell_other _ _ q _ F,heap_setCell_other _ _ q _ F,heap_setCell_other _ _ q _ C,heap_setCell_other _ _ q _ C,k.block q (zM h2 s.size),s.block q h2]
   have ak:=(Aa ay).blocks kp;have al:=Ac (Aa v) (fun q hq=>kp q ((Aa v).lt q hq).1 ((Aa v).lt q hq).2);have ao:=Ac (Aa y) (fun q hq=>kp q ((Aa y).lt q hq).1 ((Aa y).lt q hq).2);clear Y Z aa ab ac ad ae af U V kp;generalize (((i.setCell ⟨w.heap.size,0,none⟩ (.slice b N.length c)).setCell ⟨w.heap.size,1,none⟩ (.slice f L.length cs)).setCell ⟨w.heap.size+1,0,none⟩ (.int .i64 cd)).setCell ⟨w.heap.size+1,1,none⟩ (.int .i64 at_)=aM at *;go_wp2_with fail
   have u:w.heap.size≤W.heap.size:=l.size;exact bodyPost_ret (Is Tryz.results12 rfl rfl rfl ag ah) rfl ⟨⟨_,_,au,av,_,rfl,ak.low u,DO al u,DO ao u,aw⟩,aj⟩
end Go.Proofs.YtchakjeegneeoaaGreatDoor
