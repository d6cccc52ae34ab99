/-
  GT, GU, GV, GW, GY, HA, HB, HC. Own work.
-/
import Derived.Test.YtffkofkjpckmpaaGreatDoorMXBT
import Derived.Test.YtffkofkjpckmpaaGreatDoorMXAU
import Derived.Test.YtffkofkjpckmpaaGreatDoorMXAG
import Derived.Test.YtffkofkjpckmpaaGreatDoorMXBI
import Derived.Test.YtffkofkjpckmpaaGreatDoorMXAA
namespace Go.Proofs.YtffkofkjpckmpaaGreatDoor
set_option maxRecDepth 100000
set_option maxHeartbeats 1600000
open Go.RowKit
set_option linter.unusedVariables false
variable {aY : Addr} {pb g c : Nat} {T : List Ae} {tl : Nat}
def ErO:Option Ex→Option Pt→Prop
 |none,none=>True
 |some e,some p=>Er e p
 |_,_=>False
def LQ (lo:Nat) (w:World):Option Ex→Prop
 |none=>True
 |some e=>e.own lo w
theorem MC {a:Nat}{w w':World}(T:Ak a (a+1) w w')(b:Option Ex)(h:LQ (a+1) w b):LQ (a+1) w' b:=by
 cases b with
 |none=>trivial
 |some e=>exact e.own_touch T h
theorem Iq (a:Option Ex):GW (Ei a):=by
 cases a with
 |none=>exact .inl rfl
 |some e=>exact e.val_if
def DrA (aY:Addr) (pb g c:Nat) (T:List Ae) (tl:Nat):DR→World→Ending→World→Prop
 | .ok p q,w,r,w'=>(∃ o k,r= .returned (.tuple #[Ei o,.nilIface])∧ErO o p∧LQ (pb+1) w' o∧Pp w' pb g c T tl q k)∧Ak pb (pb+1) w w'
 | .bad q,w,r,w'=>(∃ v b,r= .returned (.tuple #[v,Ck b])∧GW v∧XR aY tl q b w')∧Ak pb (pb+1) w w'
theorem JF (hp: 17≤pb)(s:List UInt8)(ts:List Ae)(x:DR)(d:DD s ts x)(w:World)(k:Nat)(h:Pp w pb g c T tl ts k)(l:Gy w aY):
  Calls Tryz.prog 151 #[.pointer (some ⟨pb,0,none⟩),.string (AB s)] w (DrA aY pb g c T tl x w):=by
 have F:=Ab l;cases d with
 |no hs=>
  have i:=Ab (Eh h l s hs);clear h hs l;go_enter Tryz.func151,Tryz.ntmps151
  go_wp2_with fail
  refine (Aa i).mono ?_;rintro e A ⟨b,rfl,J,K⟩;dsimp only[Ck];go_wp2_with fail
  go_ret2
  exact ⟨⟨.nilIface,b,rfl,.inl rfl,J⟩,Ak.of_below K NLN⟩
 |@deny t u r hs hu=>
  have i:=Ab (Dh h s hs);have m:=Ab (show AM FE (u ::r)=true from hu);clear h hs l hu;go_enter Tryz.func151,Tryz.ntmps151
  go_wp2_with fail
  refine (Aa i).mono ?_;rintro e A ⟨rfl,a,j⟩;have n:=Ab (AW a FE);have o:=Ab a;clear a;dsimp only;go_wp2_with fail
  refine (Aa n).mono ?_;rintro e z ⟨rfl,f⟩;rw[Aa m];have p:=Ab (Cc ((Aa o).below f));dsimp only;go_wp2_with fail
  refine (Aa p).mono ?_;rintro e H ⟨rfl,B,y⟩;dsimp only[Dc];go_wp2_with fail
  go_ret2
  exact ⟨⟨none,_,rfl,trivial,trivial,B⟩,(j.allP f).trans y⟩
 |@grant t r q e hs hu d=>
  have i:=Ab (Dh h s hs);have m:=Ab hu;have C:=Ab d;clear h hs l hu d;go_enter Tryz.func151,Tryz.ntmps151
  go_wp2_with fail
  refine (Aa i).mono ?_;rintro e A ⟨rfl,a,j⟩;have n:=Ab (AW a FE);have o:=Ab a;clear a;dsimp only;go_wp2_with fail
  refine (Aa n).mono ?_;rintro e z ⟨rfl,f⟩;rw[Aa m];have p:=Ab (JE (aY:=aY) hp BA _ _ (Aa C) z _ ((Aa o).below f) (((Aa F).touch j hp).below f));dsimp only;go_wp2_with fail
  refine (Aa p).mono ?_;rintro e H ⟨⟨e,L,rfl,he,I,B⟩,y⟩;obtain ⟨O,P,hf⟩:=e.form;have E:=Ab (And.intro he (And.intro I hf));rw[hf];clear he I hf;dsimp only;go_wp2_with fail
  go_ret2
  exact ⟨⟨some e,L,by rw[Ei,(Aa E).2.2];rfl,(Aa E).1,(Aa E).2.1,B⟩,(j.allP f).trans y⟩
 |@grant_bad t r q hs hu d=>
  have i:=Ab (Dh h s hs);have m:=Ab hu;have C:=Ab d;clear h hs l hu d;go_enter Tryz.func151,Tryz.ntmps151
  go_wp2_with fail
  refine (Aa i).mono ?_;rintro e A ⟨rfl,a,j⟩;have n:=Ab (AW a FE);have o:=Ab a;clear a;dsimp only;go_wp2_with fail
  refine (Aa n).mono ?_;rintro e z ⟨rfl,f⟩;rw[Aa m];have p:=Ab (JE (aY:=aY) hp BA _ _ (Aa C) z _ ((Aa o).below f) (((Aa F).touch j hp).below f));dsimp only;go_wp2_with fail
  refine (Aa p).mono ?_;rintro e H ⟨⟨v,b,rfl,M,N⟩,y⟩;rcases M with rfl | ⟨Q,R,rfl⟩
  all_goals
   dsimp only[Ck];go_wp2_with fail
   go_ret2
   exact ⟨⟨_,b,rfl,by first | exact .inl rfl | exact .inr ⟨_,_,rfl⟩,N⟩,(j.allP f).trans y⟩
def Oe (aY:Addr) (pb g c:Nat) (T:List Ae) (tl:Nat):SR→World→Ending→World→Prop
 | .ok s q,w,r,w'=>(∃ o1 o2 k,r= .returned (.tuple #[.agg #[.int .i64 (s.at_:Int),.int .i64 s.kind,.string s.name,Ei o1,Ei o2],.nilIface])∧ErO o1 s.cond∧ErO o2 s.grant∧LQ (pb+1) w' o1∧LQ (pb+1) w' o2∧Pp w' pb g c T tl q k)∧Ak pb (pb+1) w w'
 | .bad q,w,r,w'=>(∃ i1 i2 n v3 v4 b,r= .returned (.tuple #[.agg #[.int .i64 i1,.int .i64 i2,.string n,v3,v4],Ck b])∧GW v3∧GW v4∧XR aY tl q b w')∧Ak pb (pb+1) w w'
theorem Oe.from {aY:Addr}{a g c:Nat}{T:List Ae}{b:Nat}{x:SR}{d w w':World}{r:Ending}(h:Oe aY a g c T b x w r w')(f:Ak a (a+1) d w):Oe aY a g c T b x d r w':=by
 cases x with
 |ok p q=>exact ⟨h.1,f.trans h.2⟩
 |bad q=>exact ⟨h.1,f.trans h.2⟩
theorem RC (a b c d:Value)(w:World):(Instr.field 42 (.agg #[a,b,c,d]) 0).run Tryz.prog w= .ok a w:=by
 simp[Instr.field,run_underlying Tryz.underlying42,Sem.run_bind,part,asAgg,isAgg,go_sem]
def JG (W:World) (b:Nat) (v0 v1 v2 v3 v4:Value):World:=(CC W b v0 v1 v2 v3).setCell ⟨b,4,none⟩ v4
theorem Gw (a:World)(b k:Nat)(c d f g i:Value)(h:k≠b):(JG a b c d f g i).heap[k]? =a.heap[k]? :=by
 unfold JG;rw[heap_setCell_other _ _ _ _ h,I8 _ _ _ _ _ _ _ h]
theorem Bv {i:World}{b:Nat}{j k l m n:Value}{t:TypeId}(h:Am i b #[j,k,l,m,n] t)(a c d f g:Value):Am (JG i b a c d f g) b #[a,c,d,f,g] t:=by
 have:=((((h.set 0 a).set 1 c).set 2 d).set 3 f).set 4 g;exact this
theorem Ak.put5 {lo hi:Nat}{w w':World}{b:Nat}(T:Ak lo hi w w')(hp:w.heap.size≤b)(a c d f g:Value):Ak lo hi w (JG w' b a c d f g):=(T.put4P hp a c d f).setNewP ⟨b,4,none⟩ g hp
theorem DB {k:Func}{a u:Tmp}(h:k.results= #[.cell a 69,.tmp u]){c:Array Value}{w:World}{b:Nat}{cs:Array Value}{d f g i j e:Value}(l:c.getD a undef= .pointer (some ⟨b,0,none⟩))(hu:c.getD u undef=e)
  (R:Am w b #[d,f,g,i,j] 69):
  (results k c).run Tryz.prog w= .ok (.tuple #[.agg #[d,f,g,i,j],e]) w:=by
 rw[yA] at l hu;have m:w.cell? ⟨b,0,none⟩=some d:=R.cell 0;have g1:w.cell? ⟨b,1,none⟩=some f:=R.cell 1;have g2:w.cell? ⟨b,2,none⟩=some g:=R.cell 2;have g3:w.cell? ⟨b,3,none⟩=some i:=R.cell 3;have g4:w.cell? ⟨b,4,none⟩=some j:=R.cell 4;simp[results,h,l,hu,go_sem,m,g1,g2,g3,g4]
theorem Fh {w:World}{b:Nat}{a c d f g:Value}{t:TypeId}(R:Am w b #[a,c,d,f,g] t):w.cell? ⟨b,0,none⟩=some a∧w.cell? ⟨b,1,none⟩=some c∧w.cell? ⟨b,2,none⟩=some d∧w.cell? ⟨b,3,none⟩=some f∧w.cell? ⟨b,4,none⟩=some g∧∀ j,w.frozen? ⟨b,j,none⟩=false:=⟨R.cell 0,R.cell 1,R.cell 2,R.cell 3,R.cell 4,fun j=>R.frozen j⟩
theorem Pp.put5 {w:World}{k:Nat}{ts:List Ae}(h:Pp w pb g c T tl ts k){b:Nat}{cs:Array Value}(R:Am w b cs 69)(d f i j l:Value):Pp (JG w b d f i j l) pb g c T tl ts k:=by
 have m:pb≠b:=fun e=>by
  have n:=R.out;have a:=h.row.out;rw[e,n] at a;injection a with a;injection a with _ a;exact absurd a (by decide)
 exact ⟨⟨(Gw w b pb _ _ _ _ _ m).trans h.row.out⟩,Ac h.toks (fun q hq=>Gw w b q _ _ _ _ _ (fun e=>Ad R h.toks (by decide) (by rw[hq,e]))),h.drop,h.len,h.small⟩
theorem Ex.own_of {lo:Nat}{w w':World}(hk:∀ (v:Value) (n:Nat) (b:List Value),w.ownsRow lo 9 1 v n b→∀ q,v.ownBlock=some q→w'.heap[q]? =w.heap[q]?):∀ (e:Ex),e.own lo w→e.own lo w'
 | .int ..,h=>h
 | .text ..,h=>h
 | .bool ..,h=>h
 | .set _ a n c ss,h=>Ac h (fun q hq=>hk _ _ _ h q hq)
 | .name ..,h=>h
 | .attr ..,h=>h
 | .lett ..,h=>h
 | .un _ _ k,h=>k.own_of hk h
 | .bin _ _ l r,h=>⟨l.own_of hk h.1,r.own_of hk h.2⟩
 | .ite _ c t e,h=>⟨c.own_of hk h.1,t.own_of hk h.2.1,e.own_of hk h.2.2⟩
theorem Ex.own_put5 {lo:Nat}{w:World}{b:Nat}{cs:Array Value}(R:Am w b cs 69)(a c d f g:Value)(e:Ex)(h:e.own lo w):e.own lo (JG w b a c d f g):=
 e.own_of (fun v n j i q hq=>Gw w b q _ _ _ _ _ (fun e=>Ad R i (by decide) (by rw[hq,e]))) h
theorem E6 {lo:Nat}{w:World}{b:Nat}{cs:Array Value}(R:Am w b cs 69)(c d f g i:Value)(a:Option Ex)(h:LQ lo w a):LQ lo (JG w b c d f g i) a:=by
 cases a with
 |none=>trivial
 |some e=>exact e.own_put5 R c d f g i h
theorem XR.put5 {w:World}{c:Nat}{q:List Ae}(h:XR aY tl q c w){b:Nat}{cs:Array Value}(R:Am w b cs 69)(f g i j k:Value):XR aY tl q c (JG w b f g i j k):=by
 have d:Am w c _ 109:=h;have l:c≠b:=fun e=>by
  have m:=R.out;have a:=d.out;rw[e,m] at a;injection a with a;injection a with _ a;exact absurd a (by decide)
 exact ⟨(Gw w b c _ _ _ _ _ l).trans d.out⟩
end Go.Proofs.YtffkofkjpckmpaaGreatDoor
namespace Go.Proofs.YtffkofkjpckmpaaGreatDoor
set_option maxRecDepth 100000
set_option maxHeartbeats 1600000
open Go.RowKit
set_option linter.unusedVariables false
variable {aY : Addr} {pb g c : Nat} {T : List Ae} {tl : Nat}
theorem MD (hp: 17≤pb)(t:Ae)(r:List Ae)(p:(Dw tl r).kind≠3)(w:World)(k:Nat)(h:Pp w pb g c T tl (t ::r) k)(l:Gy w aY):
  Calls Tryz.prog 124 #[.pointer (some ⟨pb,0,none⟩)] w (Oe aY pb g c T tl (.bad r) w):=by
 have a:=(Below.refl w.heap.size w).alloc NLN (.cells #[.int .i64 0,.int .i64 0,.string ⟨#[]⟩,.nilIface,.nilIface] 69);have q:=Am.new w #[.int .i64 0,.int .i64 0,.string ⟨#[]⟩,.nilIface,.nilIface] 69;have s:=Ab (l.below a);have v:=h.below a;have x:=h.row.lt;have H:=CM (.int .i64 t.kind) (.int .i64 t.num) (.string t.text) (.int .i64 (t.at_:Int));have e3:((Dw tl r).kind != 3)=true:=zw.2 p;clear h l;go_enter Tryz.func124,Tryz.ntmps124
 go_wp2_with fail
 generalize w.alloc (.cells #[.int .i64 0,.int .i64 0,.string ⟨#[]⟩,.nilIface,.nilIface] 69)=I at *;refine (Cc v).mono ?_;rintro e m ⟨rfl,d,f⟩;have y:=q.touchP f (.inr x);have z:=(Ak.of_below (lo:=pb) (hi:=pb+1) a NLN).trans f;have A:=Ab (BN d);have B:=Ab (fun w' (n:Below m.heap.size m w')=>EZ (d.below n) (((Aa s).touch f hp).below n));clear d;dsimp only[Dc];go_wp2_with fail
 refine (Aa A).mono ?_;rintro e C ⟨rfl,i⟩;generalize Dw tl r=u at e3;have J:=RC (.int .i64 u.kind) (.int .i64 u.num) (.string u.text) (.int .i64 (u.at_:Int));dsimp only[Dc];go_wp2_with fail
 refine (Aa B C i).mono ?_;rintro e K ⟨b,rfl,E,o⟩;have j:=(y.after i NLN).after o NLN;have F:=(z.allP i).allP o;obtain ⟨L,c1,c2,c3,c4,M⟩:=Fh j;dsimp only[Ck];go_wp2_with fail
 exact bodyPost_ret (DB (cs:=#[]) Tryz.results124 rfl rfl (Bv j (.int .i64 0) (.int .i64 0) (.string ⟨#[]⟩) .nilIface .nilIface)) rfl ⟨⟨_,_,_,_,_,b,rfl,.inl rfl,.inl rfl,E.put5 j (.int .i64 0) (.int .i64 0) (.string ⟨#[]⟩) .nilIface .nilIface⟩,F.put5 NLN (.int .i64 0) (.int .i64 0) (.string ⟨#[]⟩) .nilIface .nilIface⟩
def Yt (t n:Ae):PR→SR
 | .bad q=> .bad q
 | .ok e []=> .bad []
 | .ok e (u ::q)=>if see AG u=true then .ok ⟨t.at_,1,n.text,some e,none⟩ q else .bad (u ::q)
theorem Qc (hp: 17≤pb)(t n:Ae)(r:List Ae)(y:PR)(K:n.kind=3)(d:D (.beh QW) r y)(w:World)(k:Nat)(h:Pp w pb g c T tl (t ::n ::r) k)(L:Gy w aY):
  Calls Tryz.prog 124 #[.pointer (some ⟨pb,0,none⟩)] w (Oe aY pb g c T tl (Yt t n y) w):=by
 have x:=(Below.refl w.heap.size w).alloc NLN (.cells #[.int .i64 0,.int .i64 0,.string ⟨#[]⟩,.nilIface,.nilIface] 69);have ac:=Am.new w #[.int .i64 0,.int .i64 0,.string ⟨#[]⟩,.nilIface,.nilIface] 69;have ad:=Ab (L.below x);have M:=h.below x;have o:=h.row.lt;have av:=CM (.int .i64 t.kind) (.int .i64 t.num) (.string t.text) (.int .i64 (t.at_:Int));have aw:=RC (.int .i64 n.kind) (.int .i64 n.num) (.string n.text) (.int .i64 (n.at_:Int));have ax:=RA (.int .i64 n.kind) (.int .i64 n.num) (.string n.text) (.int .i64 (n.at_:Int));have e3:(n.kind != 3)=false:=by rw[K];rfl
 have ae:=Ab d;clear h L;go_enter Tryz.func124,Tryz.ntmps124
 go_wp2_with fail
 generalize w.alloc (.cells #[.int .i64 0,.int .i64 0,.string ⟨#[]⟩,.nilIface,.nilIface] 69)=ay at *;refine (Cc M).mono ?_;rintro e N ⟨rfl,z,A⟩;have af:=ac.touchP A (.inr o);have ag:=(Ak.of_below (lo:=pb) (hi:=pb+1) x NLN).trans A;have ah:=Ab (BN z);have ai:=Ab (fun w' (aj:Below N.heap.size N w')=>Cc (z.below aj));clear z M d K;dsimp only[Dc];go_wp2_with fail
 refine (Aa ah).mono ?_;rintro e ak ⟨rfl,B⟩;dsimp only[Dc,Dw];go_wp2_with fail
 refine (Aa ai ak B).mono ?_;rintro e al ⟨rfl,O,P⟩;have Q:=(af.after B NLN).touchP P (.inr o);have R:=(Ak.of_below (lo:=pb) (hi:=pb+1) B NLN).trans P;have S:=ag.trans R;have U:=Ab (((Aa ad).touch A hp).touch R hp);have ao:=Ab (JE (aY:=aY) hp QW r y (Aa ae) al _ O (Aa U));clear O;dsimp only[Dc];go_wp2_with fail
 refine (Aa ao).mono ?_;intro az aA V;cases y with
 |bad q=>
  obtain ⟨⟨v,b,rfl,ap,C⟩,i⟩:=V;have j:=Q.touchP i (.inr o);have s:=S.trans i;obtain ⟨W,c1,c2,c3,c4,X⟩:=Fh j;rcases ap with rfl | ⟨aB,aC,rfl⟩
  all_goals
   dsimp only[Ck];go_wp2_with fail
   exact bodyPost_ret (DB (cs:=#[]) Tryz.results124 rfl rfl (Bv j (.int .i64 0) (.int .i64 0) (.string ⟨#[]⟩) .nilIface .nilIface)) rfl ⟨⟨_,_,_,_,_,b,rfl,.inl rfl,.inl rfl,C.put5 j (.int .i64 0) (.int .i64 0) (.string ⟨#[]⟩) .nilIface .nilIface⟩,s.put5 NLN (.int .i64 0) (.int .i64 0) (.string ⟨#[]⟩) .nilIface .nilIface⟩
 |ok p q=>
  obtain ⟨⟨e,aD,rfl,he,Y,Z⟩,i⟩:=V;have j:=Q.touchP i (.inr o);have s:=S.trans i;have aq:=Ab ((Aa U).touch i hp);obtain ⟨l,m,hf⟩:=e.form;have E:=Ab (And.intro he (And.intro Y hf));rw[hf];have aa:(AM AG q=false→Yt t n (.ok p q)= .bad q)∧(∀ u a,q=u ::a→see AG u=true→Yt t n (.ok p q)= .ok ⟨t.at_,1,n.text,some p,none⟩ a):=⟨fun h=>by
    cases q with
    |nil=>rfl
    |cons u q=>exact if_neg (by rw[show see AG u=false from h];decide),fun u a e h=>by subst e;exact if_pos h⟩
  clear he Y hf;cases hq:AM AG q
  ·have F:=Ab (Eh Z (Aa aq) AG hq);have H:=Ab (aa.1 hq);clear hq;dsimp only;go_wp2_with fail
   refine (Aa F).mono ?_;rintro e ar ⟨b,rfl,C,ab⟩;have f:=j.after ab NLN;have I:=s.allP ab;obtain ⟨W,c1,c2,c3,c4,X⟩:=Fh f;dsimp only[Ck];go_wp2_with fail
   rw[Aa H];exact bodyPost_ret (DB (cs:=#[]) Tryz.results124 rfl rfl (Bv f (.int .i64 (t.at_:Int)) (.int .i64 1) (.string n.text) (.iface l m) .nilIface)) rfl ⟨⟨_,_,_,_,_,b,rfl,.inr ⟨_,_,rfl⟩,.inl rfl,C.put5 f (.int .i64 (t.at_:Int)) (.int .i64 1) (.string n.text) (.iface l m) .nilIface⟩,I.put5 NLN (.int .i64 (t.at_:Int)) (.int .i64 1) (.string n.text) (.iface l m) .nilIface⟩
  ·obtain ⟨u,a,rfl⟩:∃ u a,q=u ::a:=by
    cases q with
    |nil=>cases hq
    |cons u a=>exact ⟨u,a,rfl⟩
   have F:=Ab (Dh Z AG hq);have H:=Ab (aa.2 u a rfl hq);clear hq;dsimp only;go_wp2_with fail
   refine (Aa F).mono ?_;rintro e ar ⟨rfl,au,J⟩;have f:=j.touchP J (.inr o);have I:=s.trans J;obtain ⟨W,c1,c2,c3,c4,X⟩:=Fh f;dsimp only;go_wp2_with fail
   rw[Aa H];exact bodyPost_ret (DB (cs:=#[]) Tryz.results124 rfl rfl (Bv f (.int .i64 (t.at_:Int)) (.int .i64 1) (.string n.text) (.iface l m) .nilIface)) rfl ⟨⟨some e,none,_,by rw[Ei,Ei,(Aa E).2.2];rfl,(Aa E).1,trivial,E6 f _ _ _ _ _ (some e) (e.own_touch J (Aa E).2.1),trivial,au.put5 f (.int .i64 (t.at_:Int)) (.int .i64 1) (.string n.text) (.iface l m) .nilIface⟩,I.put5 NLN (.int .i64 (t.at_:Int)) (.int .i64 1) (.string n.text) (.iface l m) .nilIface⟩
def RH (t:Ae) (e:Pt):DR→SR
 | .bad q=> .bad q
 | .ok g []=> .bad []
 | .ok g (u ::q)=>if see AG u=true then .ok ⟨t.at_,2,AB [],some e,g⟩ q else .bad (u ::q)
def RI (t:Ae):DR→SR
 | .bad q=> .bad q
 | .ok g []=> .bad []
 | .ok g (u ::q)=>if see AG u=true then .ok ⟨t.at_,3,AB [],none,g⟩ q else .bad (u ::q)
theorem Qd (hp: 17≤pb)(t:Ae)(r q:List Ae)(d:D (.beh Bf) (t ::r) (.bad q))(w:World)(k:Nat)(h:Pp w pb g c T tl (t ::r) k)(l:Gy w aY):
  Calls Tryz.prog 125 #[.pointer (some ⟨pb,0,none⟩)] w (Oe aY pb g c T tl (.bad q) w):=by
 have f:=(Below.refl w.heap.size w).alloc NLN (.cells #[.int .i64 0,.int .i64 0,.string ⟨#[]⟩,.nilIface,.nilIface] 69);have o:=Am.new w #[.int .i64 0,.int .i64 0,.string ⟨#[]⟩,.nilIface,.nilIface] 69;have p:=Ab (l.below f);have i:=h.below f;have s:=h.row.lt;have H:=CM (.int .i64 t.kind) (.int .i64 t.num) (.string t.text) (.int .i64 (t.at_:Int));have u:=Ab d;clear h l;go_enter Tryz.func125,Tryz.ntmps125
 go_wp2_with fail
 generalize w.alloc (.cells #[.int .i64 0,.int .i64 0,.string ⟨#[]⟩,.nilIface,.nilIface] 69)=I at *;refine (BN i).mono ?_;rintro e x ⟨rfl,a⟩;have m:=i.below a;have y:=o.after a NLN;have z:=(Ak.of_below (lo:=pb) (hi:=pb+1) f NLN).allP a;have A:=Ab ((Aa p).below a);have B:=Ab (JE (aY:=aY) hp Bf _ _ (Aa u) x _ m (Aa A));clear m i d;dsimp only[Dc,Dw];go_wp2_with fail
 refine (Aa B).mono ?_;rintro J K ⟨⟨v,b,rfl,C,E⟩,n⟩;have j:=y.touchP n (.inr s);have F:=z.trans n;obtain ⟨L,c1,c2,c3,c4,M⟩:=Fh j;rcases C with rfl | ⟨N,O,rfl⟩
 all_goals
  dsimp only[Ck];go_wp2_with fail
  exact bodyPost_ret (DB (cs:=#[]) Tryz.results125 rfl rfl (Bv j (.int .i64 0) (.int .i64 0) (.string ⟨#[]⟩) .nilIface .nilIface)) rfl ⟨⟨_,_,_,_,_,b,rfl,.inl rfl,.inl rfl,E.put5 j (.int .i64 0) (.int .i64 0) (.string ⟨#[]⟩) .nilIface .nilIface⟩,F.put5 NLN (.int .i64 0) (.int .i64 0) (.string ⟨#[]⟩) .nilIface .nilIface⟩
theorem ME (hp: 17≤pb)(t:Ae)(r q:List Ae)(p:Pt)(y:DR)(d:D (.beh Bf) (t ::r) (.ok p q))(d2:DD Br q y)(w:World)(k:Nat)(h:Pp w pb g c T tl (t ::r) k)(L:Gy w aY):
  Calls Tryz.prog 125 #[.pointer (some ⟨pb,0,none⟩)] w (Oe aY pb g c T tl (RH t p y) w):=by
 have A:=(Below.refl w.heap.size w).alloc NLN (.cells #[.int .i64 0,.int .i64 0,.string ⟨#[]⟩,.nilIface,.nilIface] 69);have ae:=Am.new w #[.int .i64 0,.int .i64 0,.string ⟨#[]⟩,.nilIface,.nilIface] 69;have af:=Ab (L.below A);have B:=h.below A;have o:=h.row.lt;have az:=CM (.int .i64 t.kind) (.int .i64 t.num) (.string t.text) (.int .i64 (t.at_:Int));have ag:=Ab d;have ah:=Ab d2;clear h L;go_enter Tryz.func125,Tryz.ntmps125
 go_wp2_with fail
 generalize w.alloc (.cells #[.int .i64 0,.int .i64 0,.string ⟨#[]⟩,.nilIface,.nilIface] 69)=aA at *;refine (BN B).mono ?_;rintro e ai ⟨rfl,s⟩;have M:=B.below s;have aj:=ae.after s NLN;have ak:=(Ak.of_below (lo:=pb) (hi:=pb+1) A NLN).allP s;have N:=Ab ((Aa af).below s);have al:=Ab (JE (aY:=aY) hp Bf _ _ (Aa ag) ai _ M (Aa N));clear M B d d2;dsimp only[Dc,Dw];go_wp2_with fail
 refine (Aa al).mono ?_;rintro ao ap ⟨⟨e,aB,rfl,he,O,P⟩,C⟩;have Q:=aj.touchP C (.inr o);have R:=ak.trans C;have S:=Ab ((Aa N).touch C hp);obtain ⟨l,m,hf⟩:=e.form;have E:=Ab (And.intro he (And.intro O hf));rw[hf];have aq:=Ab (JF (aY:=aY) hp Br q y (Aa ah) ap _ P (Aa S));clear he O hf P;dsimp only;go_wp2_with fail
 refine (Aa aq).mono ?_;intro ao aC U;cases y with
 |bad q2=>
  obtain ⟨⟨v,b,rfl,ar,F⟩,i⟩:=U;have n:=Q.touchP i (.inr o);have x:=R.trans i;obtain ⟨V,c1,c2,c3,c4,W⟩:=Fh n;rcases ar with rfl | ⟨aD,aE,rfl⟩
  all_goals
   dsimp only[Ck];go_wp2_with fail
   exact bodyPost_ret (DB (cs:=#[]) Tryz.results125 rfl rfl (Bv n (.int .i64 0) (.int .i64 0) (.string ⟨#[]⟩) .nilIface .nilIface)) rfl ⟨⟨_,_,_,_,_,b,rfl,.inl rfl,.inl rfl,F.put5 n (.int .i64 0) (.int .i64 0) (.string ⟨#[]⟩) .nilIface .nilIface⟩,x.put5 NLN (.int .i64 0) (.int .i64 0) (.string ⟨#[]⟩) .nilIface .nilIface⟩
 |ok g2 q2=>
  obtain ⟨⟨j,aF,rfl,X,Y,Z⟩,i⟩:=U;have n:=Q.touchP i (.inr o);have x:=R.trans i;have au:=Ab ((Aa S).touch i hp);have H:=Ab (And.intro X (And.intro Y (e.own_touch i (Aa E).2.1)));have aa:=Iq j;have av:=Ab (show Ei j=Ei j from rfl);generalize ab:Ei j=aG at aa;have aw:=Ab ab;clear av ab X Y;have ac:(AM AG q2=false→RH t p (.ok g2 q2)= .bad q2)∧(∀ u a,q2=u ::a→see AG u=true→RH t p (.ok g2 q2)= .ok ⟨t.at_,2,AB [],some p,g2⟩ a):=⟨fun h=>by
    cases q2 with
    |nil=>rfl
    |cons u q=>exact if_neg (by rw[show see AG u=false from h];decide),fun u a e h=>by subst e;exact if_pos h⟩
  rcases aa with rfl | ⟨aH,aI,rfl⟩
  all_goals
   cases hq:AM AG q2
   ·have I:=Ab (Eh Z (Aa au) AG hq);have J:=Ab (ac.1 hq);clear hq;dsimp only;go_wp2_with fail
    refine (Aa I).mono ?_;rintro e ax ⟨b,rfl,F,ad⟩;have f:=n.after ad NLN;have K:=x.allP ad;obtain ⟨V,c1,c2,c3,c4,W⟩:=Fh f;dsimp only[Ck];go_wp2_with fail
    rw[Aa J];exact bodyPost_ret (DB (cs:=#[]) Tryz.results125 rfl rfl (Bv f (.int .i64 (t.at_:Int)) (.int .i64 2) (.string ⟨#[]⟩) (.iface l m) _)) rfl ⟨⟨_,_,_,_,_,b,rfl,.inr ⟨_,_,rfl⟩,by first | exact .inl rfl | exact .inr ⟨_,_,rfl⟩,F.put5 f (.int .i64 (t.at_:Int)) (.int .i64 2) (.string ⟨#[]⟩) (.iface l m) _⟩,K.put5 NLN (.int .i64 (t.at_:Int)) (.int .i64 2) (.string ⟨#[]⟩) (.iface l m) _⟩
   ·obtain ⟨u,a,rfl⟩:∃ u a,q2=u ::a:=by
     cases q2 with
     |nil=>cases hq
     |cons u a=>exact ⟨u,a,rfl⟩
    have I:=Ab (Dh Z AG hq);have J:=Ab (ac.2 u a rfl hq);clear hq;dsimp only;go_wp2_with fail
    refine (Aa I).mono ?_;rintro e ax ⟨rfl,ay,z⟩;have f:=n.touchP z (.inr o);have K:=x.trans z;obtain ⟨V,c1,c2,c3,c4,W⟩:=Fh f;dsimp only;go_wp2_with fail
    rw[Aa J];exact bodyPost_ret (DB (cs:=#[]) Tryz.results125 rfl rfl (Bv f (.int .i64 (t.at_:Int)) (.int .i64 2) (.string ⟨#[]⟩) (.iface l m) _)) rfl ⟨⟨some e,j,_,by rw[Ei,Aa aw,(Aa E).2.2];rfl,(Aa E).1,(Aa H).1,E6 f _ _ _ _ _ (some e) (e.own_touch z (Aa H).2.2),E6 f _ _ _ _ _ j (MC z j (Aa H).2.1),ay.put5 f (.int .i64 (t.at_:Int)) (.int .i64 2) (.string ⟨#[]⟩) (.iface l m) _⟩,K.put5 NLN (.int .i64 (t.at_:Int)) (.int .i64 2) (.string ⟨#[]⟩) (.iface l m) _⟩
theorem MF (hp: 17≤pb)(t:Ae)(r:List Ae)(y:DR)(d2:DD AK (t ::r) y)(w:World)(k:Nat)(h:Pp w pb g c T tl (t ::r) k)(C:Gy w aY):
  Calls Tryz.prog 126 #[.pointer (some ⟨pb,0,none⟩)] w (Oe aY pb g c T tl (RI t y) w):=by
 have n:=(Below.refl w.heap.size w).alloc NLN (.cells #[.int .i64 0,.int .i64 0,.string ⟨#[]⟩,.nilIface,.nilIface] 69);have V:=Am.new w #[.int .i64 0,.int .i64 0,.string ⟨#[]⟩,.nilIface,.nilIface] 69;have W:=Ab (C.below n);have o:=h.below n;have p:=h.row.lt;have af:=CM (.int .i64 t.kind) (.int .i64 t.num) (.string t.text) (.int .i64 (t.at_:Int));have X:=Ab d2;clear h C;go_enter Tryz.func126,Tryz.ntmps126
 go_wp2_with fail
 generalize w.alloc (.cells #[.int .i64 0,.int .i64 0,.string ⟨#[]⟩,.nilIface,.nilIface] 69)=ag at *;refine (BN o).mono ?_;rintro e Y ⟨rfl,l⟩;have E:=o.below l;have F:=V.after l NLN;have H:=(Ak.of_below (lo:=pb) (hi:=pb+1) n NLN).allP l;have I:=Ab ((Aa W).below l);have Z:=Ab (JF (aY:=aY) hp AK (t ::r) y (Aa X) Y _ E (Aa I));clear E o d2;dsimp only[Dc,Dw];go_wp2_with fail
 refine (Aa Z).mono ?_;intro ah ai J;cases y with
 |bad q2=>
  obtain ⟨⟨v,b,rfl,aa,s⟩,f⟩:=J;have i:=F.touchP f (.inr p);have m:=H.trans f;obtain ⟨K,c1,c2,c3,c4,L⟩:=Fh i;rcases aa with rfl | ⟨aj,ak,rfl⟩
  all_goals
   dsimp only[Ck];go_wp2_with fail
   exact bodyPost_ret (DB (cs:=#[]) Tryz.results126 rfl rfl (Bv i (.int .i64 0) (.int .i64 0) (.string ⟨#[]⟩) .nilIface .nilIface)) rfl ⟨⟨_,_,_,_,_,b,rfl,.inl rfl,.inl rfl,s.put5 i (.int .i64 0) (.int .i64 0) (.string ⟨#[]⟩) .nilIface .nilIface⟩,m.put5 NLN (.int .i64 0) (.int .i64 0) (.string ⟨#[]⟩) .nilIface .nilIface⟩
 |ok g2 q2=>
  obtain ⟨⟨j,al,rfl,M,N,O⟩,f⟩:=J;have i:=F.touchP f (.inr p);have m:=H.trans f;have ab:=Ab ((Aa I).touch f hp);have P:=Ab (And.intro M N);have Q:=Iq j;generalize R:Ei j=ao at Q;have ac:=Ab R;clear R M N;have S:(AM AG q2=false→RI t (.ok g2 q2)= .bad q2)∧(∀ u a,q2=u ::a→see AG u=true→RI t (.ok g2 q2)= .ok ⟨t.at_,3,AB [],none,g2⟩ a):=⟨fun h=>by
    cases q2 with
    |nil=>rfl
    |cons u q=>exact if_neg (by rw[show see AG u=false from h];decide),fun u a e h=>by subst e;exact if_pos h⟩
  rcases Q with rfl | ⟨ap,aq,rfl⟩
  all_goals
   cases hq:AM AG q2
   ·have x:=Ab (Eh O (Aa ab) AG hq);have z:=Ab (S.1 hq);clear hq;dsimp only;go_wp2_with fail
    refine (Aa x).mono ?_;rintro e ad ⟨b,rfl,s,U⟩;have d:=i.after U NLN;have A:=m.allP U;obtain ⟨K,c1,c2,c3,c4,L⟩:=Fh d;dsimp only[Ck];go_wp2_with fail
    rw[Aa z];exact bodyPost_ret (DB (cs:=#[]) Tryz.results126 rfl rfl (Bv d (.int .i64 (t.at_:Int)) (.int .i64 3) (.string ⟨#[]⟩) .nilIface _)) rfl ⟨⟨_,_,_,_,_,b,rfl,.inl rfl,by first | exact .inl rfl | exact .inr ⟨_,_,rfl⟩,s.put5 d (.int .i64 (t.at_:Int)) (.int .i64 3) (.string ⟨#[]⟩) .nilIface _⟩,A.put5 NLN (.int .i64 (t.at_:Int)) (.int .i64 3) (.string ⟨#[]⟩) .nilIface _⟩
   ·obtain ⟨u,a,rfl⟩:∃ u a,q2=u ::a:=by
     cases q2 with
     |nil=>cases hq
     |cons u a=>exact ⟨u,a,rfl⟩
    have x:=Ab (Dh O AG hq);have z:=Ab (S.2 u a rfl hq);clear hq;dsimp only;go_wp2_with fail
    refine (Aa x).mono ?_;rintro e ad ⟨rfl,ae,B⟩;have d:=i.touchP B (.inr p);have A:=m.trans B;obtain ⟨K,c1,c2,c3,c4,L⟩:=Fh d;dsimp only;go_wp2_with fail
    rw[Aa z];exact bodyPost_ret (DB (cs:=#[]) Tryz.results126 rfl rfl (Bv d (.int .i64 (t.at_:Int)) (.int .i64 3) (.string ⟨#[]⟩) .nilIface _)) rfl ⟨⟨none,j,_,by rw[Ei,Aa ac];rfl,trivial,(Aa P).1,trivial,E6 d _ _ _ _ _ j (MC B j (Aa P).2),ae.put5 d (.int .i64 (t.at_:Int)) (.int .i64 3) (.string ⟨#[]⟩) .nilIface _⟩,A.put5 NLN (.int .i64 (t.at_:Int)) (.int .i64 3) (.string ⟨#[]⟩) .nilIface _⟩
end Go.Proofs.YtffkofkjpckmpaaGreatDoor
namespace Go.Proofs.YtffkofkjpckmpaaGreatDoor
set_option maxRecDepth 100000
set_option maxHeartbeats 1600000
open Go.RowKit
set_option linter.unusedVariables false
variable {aY : Addr} {pb g c : Nat} {T : List Ae} {tl : Nat}
theorem Oe.form {x:SR}{w w':World}{r:Ending}(h:Oe aY pb g c T tl x w r w'):∃ f i n a d e,r= .returned (.tuple #[.agg #[.int .i64 f,.int .i64 i,.string n,a,d],e])∧GW a∧GW d∧GW e:=by
 cases x with
 |ok s q=>obtain ⟨⟨j,l,k,rfl,_⟩,_⟩:=h;exact ⟨_,_,_,_,_,_,rfl,Iq j,Iq l,.inl rfl⟩
 |bad q=>obtain ⟨⟨f,i,n,a,d,b,rfl,h3,h4,_⟩,_⟩:=h;exact ⟨_,_,_,_,_,_,rfl,h3,h4,.inr ⟨_,_,rfl⟩⟩
theorem Oe.put5 {x:SR}{w w':World}{a d:Int}{n:ByteArray}{f i e:Value}(h:Oe aY pb g c T tl x w (.returned (.tuple #[.agg #[.int .i64 a,.int .i64 d,.string n,f,i],e])) w'){b:Nat}{cs:Array Value}(R:Am w' b cs 69)(j:w.heap.size≤b):
  Oe aY pb g c T tl x w (.returned (.tuple #[.agg #[.int .i64 a,.int .i64 d,.string n,f,i],e])) (JG w' b (.int .i64 a) (.int .i64 d) (.string n) f i):=by
 cases x with
 |ok s q=>
  obtain ⟨⟨l,o,k,h1,h2,h3,h4,h5,h6⟩,h7⟩:=h;exact ⟨⟨l,o,k,h1,h2,h3,E6 R _ _ _ _ _ l h4,E6 R _ _ _ _ _ o h5,h6.put5 R _ _ _ _ _⟩,h7.put5 j _ _ _ _ _⟩
 |bad q=>
  obtain ⟨⟨p,r,m,t,u,v,h1,h3,h4,h5⟩,h7⟩:=h;exact ⟨⟨p,r,m,t,u,v,h1,h3,h4,h5.put5 R _ _ _ _ _⟩,h7.put5 j _ _ _ _ _⟩
theorem GZ (t:Ae)(r:List Ae)(x:SR)(hk:see Dq t=true)(i:∀ w k,Pp w pb g c T tl (t ::r) k→Gy w aY→Calls Tryz.prog 124 #[.pointer (some ⟨pb,0,none⟩)] w (Oe aY pb g c T tl x w))(w:World)(k:Nat)(h:Pp w pb g c T tl (t ::r) k)(j:Gy w aY):
  Calls Tryz.prog 84 #[.pointer (some ⟨pb,0,none⟩)] w (Oe aY pb g c T tl x w):=by
 have o:=Ab (show AM Dq (t ::r)=true from hk);have p:=Ab i;clear i hk;have b:=(Below.refl w.heap.size w).alloc NLN (.cells #[.int .i64 0,.int .i64 0,.string ⟨#[]⟩,.nilIface,.nilIface] 69);have u:=Am.new w #[.int .i64 0,.int .i64 0,.string ⟨#[]⟩,.nilIface,.nilIface] 69;have v:=Ab (j.below b);have l:=Ab (h.below b);have y:=h.row.lt;clear h j;go_enter Tryz.func84,Tryz.ntmps84
 go_wp2_with fail
 generalize m:w.alloc (.cells #[.int .i64 0,.int .i64 0,.string ⟨#[]⟩,.nilIface,.nilIface] 69)=z at *;have L:w.heap.size < z.heap.size:=by rw[← m];simp
 clear m;refine (AW (Aa l) Dq).mono ?_;rintro e n ⟨rfl,d⟩;rw[Aa o];have A:=Ab ((Aa l).below d);have B:=Ab ((Aa v).below d);have C:=u.after d NLN;have E:=b.trans (d.mono b.size);dsimp only;go_wp2_with fail
 refine (Aa p n _ (Aa A) (Aa B)).mono ?_;intro M F a;obtain ⟨H,I,nm,N,O,e,rfl,h3,h4,h5⟩:=a.form;have J:Ak pb (pb+1) n F:=by
  cases x with
  |ok s q=>exact a.2
  |bad q=>exact a.2
 have f:=C.touchP J (.inr y);have K:=Ab (a.from (Ak.of_below (lo:=pb) (hi:=pb+1) E NLN));clear a;obtain ⟨P,c1,c2,c3,c4,Q⟩:=Fh f;rcases h3 with rfl | ⟨R,S,rfl⟩ <;> rcases h4 with rfl | ⟨U,V,rfl⟩
 all_goals
  dsimp only;go_wp2_with fail
  exact bodyPost_ret (DB (cs:=#[]) Tryz.results84 rfl rfl (Bv f (.int .i64 H) (.int .i64 I) (.string nm) _ _)) rfl ((Aa K).put5 f NLN)
theorem Ir (t:Ae)(r:List Ae)(x:SR)(hk:see Bf t=true)(j:∀ w k,Pp w pb g c T tl (t ::r) k→Gy w aY→Calls Tryz.prog 125 #[.pointer (some ⟨pb,0,none⟩)] w (Oe aY pb g c T tl x w))(w:World)(k:Nat)(h:Pp w pb g c T tl (t ::r) k)(l:Gy w aY):
  Calls Tryz.prog 84 #[.pointer (some ⟨pb,0,none⟩)] w (Oe aY pb g c T tl x w):=by
 have v:=Ab (show AM Dq (t ::r)=false from Ag hk (by decide));have y:=Ab (show AM Bf (t ::r)=true from hk);have z:=Ab j;clear j hk;have b:=(Below.refl w.heap.size w).alloc NLN (.cells #[.int .i64 0,.int .i64 0,.string ⟨#[]⟩,.nilIface,.nilIface] 69);have A:=Am.new w #[.int .i64 0,.int .i64 0,.string ⟨#[]⟩,.nilIface,.nilIface] 69;have B:=Ab (l.below b);have m:=Ab (h.below b);have C:=h.row.lt;clear h l;go_enter Tryz.func84,Tryz.ntmps84
 go_wp2_with fail
 generalize n:w.alloc (.cells #[.int .i64 0,.int .i64 0,.string ⟨#[]⟩,.nilIface,.nilIface] 69)=E at *;have R:w.heap.size < E.heap.size:=by rw[← n];simp
 clear n;refine (AW (Aa m) Dq).mono ?_;rintro e S ⟨rfl,d⟩;rw[Aa v];have o:=Ab ((Aa m).below d);have F:=Ab ((Aa B).below d);have H:=A.after d NLN;have p:=b.trans (d.mono b.size);dsimp only;go_wp2_with fail
 refine (AW (Aa o) Bf).mono ?_;rintro e u ⟨rfl,f⟩;rw[Aa y];have I:=Ab ((Aa o).below f);have J:=Ab ((Aa F).below f);have K:=H.after f NLN;have L:=p.trans (f.mono p.size);dsimp only;go_wp2_with fail
 refine (Aa z u _ (Aa I) (Aa J)).mono ?_;intro U M a;obtain ⟨N,O,nm,V,W,e,rfl,h3,h4,h5⟩:=a.form;have P:Ak pb (pb+1) u M:=by
  cases x with
  |ok s q=>exact a.2
  |bad q=>exact a.2
 have i:=K.touchP P (.inr C);have Q:=Ab (a.from (Ak.of_below (lo:=pb) (hi:=pb+1) L NLN));clear a;obtain ⟨X,c1,c2,c3,c4,Y⟩:=Fh i;rcases h3 with rfl | ⟨Z,aa,rfl⟩ <;> rcases h4 with rfl | ⟨ab,ac,rfl⟩
 all_goals
  dsimp only;go_wp2_with fail
  exact bodyPost_ret (DB (cs:=#[]) Tryz.results84 rfl rfl (Bv i (.int .i64 N) (.int .i64 O) (.string nm) _ _)) rfl ((Aa Q).put5 i NLN)
theorem KB (t:Ae)(r:List Ae)(x:SR)(hk:see AK t=true)(l:∀ w k,Pp w pb g c T tl (t ::r) k→Gy w aY→Calls Tryz.prog 126 #[.pointer (some ⟨pb,0,none⟩)] w (Oe aY pb g c T tl x w))(w:World)(k:Nat)(h:Pp w pb g c T tl (t ::r) k)(m:Gy w aY):
  Calls Tryz.prog 84 #[.pointer (some ⟨pb,0,none⟩)] w (Oe aY pb g c T tl x w):=by
 have A:=Ab (show AM Dq (t ::r)=false from Ag hk (by decide));have B:=Ab (show AM Bf (t ::r)=false from Ag hk (by decide));have C:=Ab (show AM AK (t ::r)=true from hk);have E:=Ab l;clear l hk;have b:=(Below.refl w.heap.size w).alloc NLN (.cells #[.int .i64 0,.int .i64 0,.string ⟨#[]⟩,.nilIface,.nilIface] 69);have F:=Am.new w #[.int .i64 0,.int .i64 0,.string ⟨#[]⟩,.nilIface,.nilIface] 69;have H:=Ab (m.below b);have n:=Ab (h.below b);have I:=h.row.lt;clear h m;go_enter Tryz.func84,Tryz.ntmps84
 go_wp2_with fail
 generalize o:w.alloc (.cells #[.int .i64 0,.int .i64 0,.string ⟨#[]⟩,.nilIface,.nilIface] 69)=J at *;have Y:w.heap.size < J.heap.size:=by rw[← o];simp
 clear o;refine (AW (Aa n) Dq).mono ?_;rintro e Z ⟨rfl,d⟩;rw[Aa A];have p:=Ab ((Aa n).below d);have K:=Ab ((Aa H).below d);have L:=F.after d NLN;have u:=b.trans (d.mono b.size);dsimp only;go_wp2_with fail
 refine (AW (Aa p) Bf).mono ?_;rintro e aa ⟨rfl,f⟩;rw[Aa B];have v:=Ab ((Aa p).below f);have M:=Ab ((Aa K).below f);have N:=L.after f NLN;have y:=u.trans (f.mono u.size);dsimp only;go_wp2_with fail
 refine (AW (Aa v) AK).mono ?_;rintro e z ⟨rfl,i⟩;rw[Aa C];have O:=Ab ((Aa v).below i);have P:=Ab ((Aa M).below i);have Q:=N.after i NLN;have R:=y.trans (i.mono y.size);dsimp only;go_wp2_with fail
 refine (Aa E z _ (Aa O) (Aa P)).mono ?_;intro ab S a;obtain ⟨U,V,nm,ac,ad,e,rfl,h3,h4,h5⟩:=a.form;have W:Ak pb (pb+1) z S:=by
  cases x with
  |ok s q=>exact a.2
  |bad q=>exact a.2
 have j:=Q.touchP W (.inr I);have X:=Ab (a.from (Ak.of_below (lo:=pb) (hi:=pb+1) R NLN));clear a;obtain ⟨ae,c1,c2,c3,c4,af⟩:=Fh j;rcases h3 with rfl | ⟨ag,ah,rfl⟩ <;> rcases h4 with rfl | ⟨ai,aj,rfl⟩
 all_goals
  dsimp only;go_wp2_with fail
  exact bodyPost_ret (DB (cs:=#[]) Tryz.results84 rfl rfl (Bv j (.int .i64 U) (.int .i64 V) (.string nm) _ _)) rfl ((Aa X).put5 j NLN)
theorem WE (ts:List Ae)(h1:AM Dq ts=false)(h2:AM Bf ts=false)(h3:AM AK ts=false)(w:World)(k:Nat)(h:Pp w pb g c T tl ts k)(l:Gy w aY):
  Calls Tryz.prog 84 #[.pointer (some ⟨pb,0,none⟩)] w (Oe aY pb g c T tl (.bad ts) w):=by
 have t:=Ab h1;have u:=Ab h2;have v:=Ab h3;clear h1 h2 h3;have a:=(Below.refl w.heap.size w).alloc NLN (.cells #[.int .i64 0,.int .i64 0,.string ⟨#[]⟩,.nilIface,.nilIface] 69);have x:=Am.new w #[.int .i64 0,.int .i64 0,.string ⟨#[]⟩,.nilIface,.nilIface] 69;have y:=Ab (l.below a);have m:=Ab (h.below a);have M:=h.row.lt;clear h l;go_enter Tryz.func84,Tryz.ntmps84
 go_wp2_with fail
 generalize n:w.alloc (.cells #[.int .i64 0,.int .i64 0,.string ⟨#[]⟩,.nilIface,.nilIface] 69)=z at *;have N:w.heap.size < z.heap.size:=by rw[← n];simp
 clear n;refine (AW (Aa m) Dq).mono ?_;rintro e O ⟨rfl,d⟩;rw[Aa t];have o:=Ab ((Aa m).below d);have A:=Ab ((Aa y).below d);have B:=x.after d NLN;have p:=a.trans (d.mono a.size);dsimp only;go_wp2_with fail
 refine (AW (Aa o) Bf).mono ?_;rintro e P ⟨rfl,f⟩;rw[Aa u];have q:=Ab ((Aa o).below f);have C:=Ab ((Aa A).below f);have E:=B.after f NLN;have r:=p.trans (f.mono p.size);dsimp only;go_wp2_with fail
 refine (AW (Aa q) AK).mono ?_;rintro e Q ⟨rfl,i⟩;rw[Aa v];have F:=Ab ((Aa q).below i);have H:=Ab ((Aa C).below i);have I:=E.after i NLN;have J:=r.trans (i.mono r.size);dsimp only;go_wp2_with fail
 refine (EZ (Aa F) (Aa H)).mono ?_;rintro e R ⟨b,rfl,K,s⟩;have j:=I.after s NLN;have L:=(Ak.of_below (lo:=pb) (hi:=pb+1) J NLN).allP s;obtain ⟨S,c1,c2,c3,c4,U⟩:=Fh j;dsimp only[Ck];go_wp2_with fail
 exact bodyPost_ret (DB (cs:=#[]) Tryz.results84 rfl rfl (Bv j (.int .i64 0) (.int .i64 0) (.string ⟨#[]⟩) .nilIface .nilIface)) rfl ⟨⟨_,_,_,_,_,b,rfl,.inl rfl,.inl rfl,K.put5 j (.int .i64 0) (.int .i64 0) (.string ⟨#[]⟩) .nilIface .nilIface⟩,L.put5 NLN (.int .i64 0) (.int .i64 0) (.string ⟨#[]⟩) .nilIface .nilIface⟩
theorem MG (hp: 17≤pb)(ts:List Ae)(x:SR)(d:DS ts x)(w:World)(k:Nat)(h:Pp w pb g c T tl ts k)(a:Gy w aY):
  Calls Tryz.prog 84 #[.pointer (some ⟨pb,0,none⟩)] w (Oe aY pb g c T tl x w):=by
 cases d with
 |@let_nil t hk=>exact GZ t [] _ hk (fun w k h a=>MD hp t [] (show (0 :Int)≠3 by decide) w k h a) w k h a
 |@let_no t n r hk i=>exact GZ t _ _ hk (fun w k h a=>MD hp t (n ::r) i w k h a) w k h a
 |@let_bad t n r q hk i d=>exact GZ t _ _ hk (fun w k h a=>Qc hp t n r _ i d w k h a) w k h a
 |@let_end t n r q e hk i d hq=>
  have b:Yt t n (.ok e q)= .bad q:=by
   cases q with
   |nil=>rfl
   |cons u q=>exact if_neg (by rw[show see AG u=false from hq];decide)
  rw[← b];exact GZ t _ _ hk (fun w k h a=>Qc hp t n r _ i d w k h a) w k h a
 |@let_ t n u r q e hk i d hq=>
  have b:Yt t n (.ok e (u ::q))= .ok ⟨t.at_,1,n.text,some e,none⟩ q:=if_pos hq;rw[← b];exact GZ t _ _ hk (fun w k h a=>Qc hp t n r _ i d w k h a) w k h a
 |@when_bad t r q hk d=>exact Ir t _ _ hk (fun w k h a=>Qd hp t r q d w k h a) w k h a
 |@when_bad2 t r q p e hk d d2=>exact Ir t _ _ hk (fun w k h a=>ME hp t r q e (.bad p) d d2 w k h a) w k h a
 |@when_end t r q p e f hk d d2 hq=>
  have b:RH t e (.ok f p)= .bad p:=by
   cases p with
   |nil=>rfl
   |cons u q=>exact if_neg (by rw[show see AG u=false from hq];decide)
  rw[← b];exact Ir t _ _ hk (fun w k h a=>ME hp t r q e _ d d2 w k h a) w k h a
 |@when t u r q p e f hk d d2 hq=>
  have b:RH t e (.ok f (u ::p))= .ok ⟨t.at_,2,AB [],some e,f⟩ p:=if_pos hq;rw[← b];exact Ir t _ _ hk (fun w k h a=>ME hp t r q e _ d d2 w k h a) w k h a
 |@else_bad t r q hk d=>exact KB t _ _ hk (fun w k h a=>MF hp t r (.bad q) d w k h a) w k h a
 |@else_end t r q f hk d hq=>
  have b:RI t (.ok f q)= .bad q:=by
   cases q with
   |nil=>rfl
   |cons u q=>exact if_neg (by rw[show see AG u=false from hq];decide)
  rw[← b];exact KB t _ _ hk (fun w k h a=>MF hp t r _ d w k h a) w k h a
 |@else_ t u r q f hk d hq=>
  have b:RI t (.ok f (u ::q))= .ok ⟨t.at_,3,AB [],none,f⟩ q:=if_pos hq;rw[← b];exact KB t _ _ hk (fun w k h a=>MF hp t r _ d w k h a) w k h a
 |none h1 h2 h3=>exact WE ts h1 h2 h3 w k h a
end Go.Proofs.YtffkofkjpckmpaaGreatDoor
namespace Go.Proofs.YtffkofkjpckmpaaGreatDoor
set_option maxRecDepth 100000
set_option maxHeartbeats 6400000
open Go.RowKit
set_option linter.unusedVariables false
variable {aY : Addr} {pb g c : Nat} {T : List Ae} {tl : Nat}
theorem Aay:(Tryz.prog.info? 69).map (fun i=>(i.zero,i.size,i.bytes))=some (some (.agg #[.int .i64 0,.int .i64 0,.string ByteArray.empty,.nilIface,.nilIface]),5,64):=by kernel_rfl
def SxP (lo:Nat) (w:World) (x:Sx) (s:Ps):Prop:=x.at'=(s.at_:Int)∧x.kind=s.kind∧x.name=s.name∧ErO x.cond s.cond∧ErO x.grant s.grant∧LQ lo w x.cond∧LQ lo w x.grant
def Ej (lo:Nat) (w:World):List Sx→List Ps→Prop
 | [], []=>True
 |x ::X,s ::S=>SxP lo w x s∧Ej lo w X S
 |_,_=>False
theorem L2 {lo:Nat}{w w':World}(hk:∀ (v:Value) (n:Nat) (b:List Value),w.ownsRow lo 9 1 v n b→∀ q,v.ownBlock=some q→w'.heap[q]? =w.heap[q]?)(a:Option Ex)(h:LQ lo w a):LQ lo w' a:=by
 cases a with
 |none=>trivial
 |some e=>exact e.own_of hk h
theorem Ej.of {lo:Nat}{w w':World}(hk:∀ (v:Value) (n:Nat) (a:List Value),w.ownsRow lo 9 1 v n a→∀ q,v.ownBlock=some q→w'.heap[q]? =w.heap[q]?):∀ (X:List Sx) (S:List Ps),Ej lo w X S→Ej lo w' X S
 | [], [],_=>trivial
 |x ::X,s ::S,h=>⟨⟨h.1.1,h.1.2.1,h.1.2.2.1,h.1.2.2.2.1,h.1.2.2.2.2.1,L2 hk _ h.1.2.2.2.2.2.1,L2 hk _ h.1.2.2.2.2.2.2⟩,Ej.of hk X S h.2⟩
 | [],_ ::_,h=>h
 |_ ::_, [],h=>h
theorem Ej.snoc {lo:Nat}{w:World}{x:Sx}{s:Ps}(hx:SxP lo w x s):∀ (X:List Sx) (S:List Ps),Ej lo w X S→Ej lo w (X ++ [x]) (S ++ [s])
 | [], [],_=>⟨hx,trivial⟩
 |_ ::X,_ ::S,h=>⟨h.1,Ej.snoc hx X S h.2⟩
 | [],_ ::_,h=>absurd h id
 |_ ::_, [],h=>absurd h id
theorem Ej.len {lo:Nat}{w:World} :∀ (X:List Sx) (S:List Ps),Ej lo w X S→X.length=S.length
 | [], [],_=>rfl
 |_ ::X,_ ::S,h=>by rw[List.length_cons,List.length_cons,Ej.len X S h.2]
 | [],_ ::_,h=>absurd h id
 |_ ::_, [],h=>absurd h id
def QR.pre (L:List Ps):QR→QR
 | .ok S=> .ok (L ++S)
 | .bad q=> .bad q
theorem QR.pre_cons (L:List Ps)(s:Ps)(y:QR):QR.pre L (y.cons s)=QR.pre (L ++ [s]) y:=by
 cases y with
 |ok S=>simp[QR.pre,QR.cons]
 |bad q=>rfl
theorem DS.less {ts q:List Ae}{s:Ps}(d:DS ts (.ok s q)):q.length < ts.length:=by
 obtain ⟨a,b,c⟩:=d.suf;have h1: 0 < a.length:=List.length_pos_iff.2 (c _ _ rfl);rw[b,zB];show q.length < _+q.length;omega
theorem AbY {w:World}{b:Nat}{a c d f g:Value}{t:TypeId}(R:Am w b #[a,c,d,f,g] t):∀ j u, [a,c,d,f,g][j]? =some u→w.cell? ((⟨b,0,none⟩:Addr).add j)=some u:=fun j u h=>by
 have i:(⟨b,0,none⟩:Addr).add j=⟨b,j,none⟩:=by by_cases e:j=0 <;> simp[Addr.add,e]
 rw[i,R.cell j,← h];simp
def PlA (aY:Addr) (pb:Nat) (tl:Nat):QR→World→Ending→World→Prop
 | .ok S,w,r,w'=>(∃ X a cx,r= .returned (.tuple #[.slice a X.length cx,.nilIface])∧w'.ownsRow w.heap.size 69 5 (.slice a X.length cx) X.length (RJ X)∧Ej (pb+1) w' X S∧X.length≤4000)∧Ak pb (pb+1) w w'
 | .bad q,w,r,w'=>(∃ b,r= .returned (.tuple #[.slice none 0 0,Ck b])∧XR aY tl q b w')∧Ak pb (pb+1) w w'
def PlN (pb g c:Nat) (T:List Ae) (tl:Nat) (x:QR) (w:World) (n:Nat) (v:Value) (wr:World):Prop:=
 ∃ X L a cx r k y,v= .slice a X.length cx∧wr.ownsRow w.heap.size 69 5 v X.length (RJ X)∧Ej (pb+1) wr X L∧Pp wr pb g c T tl r k∧DP r y∧x=QR.pre L y∧n=r.length∧X.length+r.length≤T.length∧Ak pb (pb+1) w wr
theorem Yu (X:List Sx)(x:Sx):RJ (X ++ [x])=RJ X ++Yv x:=by simp[RJ]
theorem Ug (hp: 17≤pb)(ts:List Ae)(x:QR)(d:DP ts x)(w:World)(k:Nat)(h:Pp w pb g c T tl ts k)(ax:Gy w aY):
  Calls Tryz.prog 41 #[.pointer (some ⟨pb,0,none⟩)] w (PlA aY pb tl x w):=by
 obtain ⟨i,hi,a6,a7,a8⟩:=info_parts Aay;have ay:=Ab ax;have bw:=h.row.lt;have ac:=Ab h.small;have az:=Ab (show PlN pb g c T tl x w ts.length (.slice none 0 0) w from ⟨[], [],none,0,ts,k,x,rfl,World.ownsRow_nil _ _ _ _,trivial,h,d,by cases x <;> rfl,rfl,by have:=h.len;simp;omega,Ak.refl _ _ _⟩);clear h ax d;go_enter Tryz.func41,Tryz.ntmps41
 go_wp2_with fail
 go_loopw [4] (fun v wr=>∃ n,PlN pb g c T tl x w n v wr) (fun v wr=>Bu (fun n=>PlN pb g c T tl x w n v wr))
 case atStart=>exact ⟨_,Aa az⟩
 case round=>
  clear az;have hl:=FI hrel;have aA:=Ab (show ∀ n R w',n < Bu (fun n=>PlN pb g c T tl x w n u4 wr)→PlN pb g c T tl x w n R w'→Bu (fun n=>PlN pb g c T tl x w n R w') < Bu (fun n=>PlN pb g c T tl x w n u4 wr) from fun n R w' h1 h2=>Ip h1 h2);generalize aB:Bu (fun n=>PlN pb g c T tl x w n u4 wr)=m at hl aA;have a9:=Ab aB;clear aB hrel;obtain ⟨X,L,a,ad,r,ba,y,rfl,S,aC,aD,aE,hx,hm,aF,U⟩:=hl;have ae:=Ab (And.intro hm aF);have aG:=Ab aC;have bx:=Ab hx;have bb:=Ab ((Aa ay).touch U hp);have bz:=U.size;have bc:∃ F,DS r F∧(∀ q,F= .bad q→x= .bad q)∧(∀ s q,F= .ok s q→(s.kind≠3∧∃ J,DP q J∧x=QR.pre (L ++ [s]) J∧q.length < r.length)∨(s.kind=3∧q= []∧x= .ok (L ++ [s]))∨(s.kind=3∧q≠ []∧x= .bad q)):=by
   cases aE with
   |bad d=>exact ⟨_,d,fun q e=>(by cases e;rw[hx];rfl),fun s q e=>by cases e⟩
   |@more _ af s J d hk d2=>exact ⟨_,d,fun q e=>(by cases e),fun s q e=>by
     cases e;obtain ⟨bd,bf,bg⟩:=d.suf;have h1: 0 < bd.length:=List.length_pos_iff.2 (bg _ _ rfl);exact .inl ⟨hk,J,d2,by rw[hx,QR.pre_cons],by rw[bf,zB];show af.length < _+af.length;omega⟩⟩
   |@last _ s d hk=>exact ⟨_,d,fun q e=>(by cases e),fun s q e=>by cases e;exact .inr (.inl ⟨hk,rfl,by rw[hx];rfl⟩)⟩
   |@over _ af t s d hk=>exact ⟨_,d,fun q e=>(by cases e),fun s q e=>by cases e;exact .inr (.inr ⟨hk,by simp,by rw[hx];rfl⟩)⟩
  obtain ⟨F,ag,aH,aI⟩:=bc;have aJ:=Ab (MG (aY:=aY) hp r F ag wr ba aD (Aa bb));have ah:=Ab (And.intro aH aI);have bh:=Ab (show ∀ s q,F= .ok s q→q.length < r.length from fun s q e=>by subst e;exact ag.less);clear aC hx aD aE hm aF ag aH aI;go_wp2_with fail
  refine (Aa aJ).mono ?_;intro bA f aK;cases F with
  |bad q=>
   obtain ⟨⟨bB,bC,nm,l,o,b,rfl,h3,h4,ai⟩,M⟩:=aK;have bi:=Ab ((Aa ah).1 q rfl);rcases h3 with rfl | ⟨bj,u3,rfl⟩ <;> rcases h4 with rfl | ⟨C,u4,rfl⟩
   all_goals
    dsimp only[Ck];go_wp2_with fail
    go_ret2
    rw[Aa bi];have aL:=fun bk=>(Below.refl f.heap.size f).alloc NLN bk;exact ⟨⟨b,rfl,Am.after ai (aL _) NLN⟩,(U.trans M).allP (aL _)⟩
  |ok s q=>
   obtain ⟨⟨p,z,K,rfl,aM,aN,aO,aP,aQ⟩,M⟩:=aK;have bl:=(Aa ah).2 s q rfl;have aR:=U.trans M;have H:f.ownsRow w.heap.size 69 5 (.slice a X.length ad) X.length (RJ X):=Ac S (fun q hq=>M.block q (S.lt q hq).2 (.inr (by have:=(S.lt q hq).1;omega)));have aS:=Ab (Ej.of (w':=f) (fun v n aj N q hq=>M.block q (N.lt q hq).2 (.inr (N.lt q hq).1)) X L (Aa aG));have O:=Ab (show SxP (pb+1) f ⟨(s.at_:Int),s.kind,s.name,p,z⟩ s from ⟨rfl,rfl,rfl,aM,aN,aO,aP⟩);have ak:=Ab (show Yv ⟨(s.at_:Int),s.kind,s.name,p,z⟩= [.int .i64 (s.at_:Int),.int .i64 s.kind,.string s.name,Ei p,Ei z] from rfl);have A:=Ab aQ;have bD:X.length < 4000:=by have:=(Aa ae).2;have:=Aa ac;have:=(Aa bh) s q rfl;omega
   have aT:=Iq p;have aU:=Iq z;generalize Ei p=l at aT ak;generalize Ei z=o at aU ak;have bE:=aR.size;clear aM aN aO aP aQ S ah aG aJ;have al:=(Below.refl f.heap.size f).alloc NLN (.cells #[.int .i64 (s.at_:Int),.int .i64 s.kind,.string s.name,l,o] 69);have ao:=al.alloc al.size (.cells #[.int .i64 (s.at_:Int),.int .i64 s.kind,.string s.name,l,o] 69);have aV:=(H.alloc (.cells #[.int .i64 (s.at_:Int),.int .i64 s.kind,.string s.name,l,o] 69)).alloc (.cells #[.int .i64 (s.at_:Int),.int .i64 s.kind,.string s.name,l,o] 69);have ap:=Am.new (f.alloc (.cells #[.int .i64 (s.at_:Int),.int .i64 s.kind,.string s.name,l,o] 69)) #[.int .i64 (s.at_:Int),.int .i64 s.kind,.string s.name,l,o] 69;simp only[World.size_alloc] at ap;have aW:=(Am.new f #[.int .i64 (s.at_:Int),.int .i64 s.kind,.string s.name,l,o] 69).alloc (.cells #[.int .i64 (s.at_:Int),.int .i64 s.kind,.string s.name,l,o] 69);obtain ⟨aq,aX⟩:∃ aq:List Value,aq= [.int .i64 (s.at_:Int),.int .i64 s.kind,.string s.name,l,o]:=⟨_,rfl⟩
   have V:=Ab aX;clear aX;rcases aT with rfl | ⟨bj,u3,rfl⟩ <;> rcases aU with rfl | ⟨C,u4,rfl⟩
   all_goals
    dsimp only;go_wp2_with (at_builtin;refine wpList_append_own _ rfl _ _ 64 rfl w.heap.size 69 i (.agg #[.int .i64 0,.int .i64 0,.string ByteArray.empty,.nilIface,.nilIface]) 5 64 Tryz.underlying64 hi a6 a7 a8 rfl (by decide) _ _ _ rfl aV ⟨f.heap.size+1,0,none⟩ 1 1 aq rfl (by rw[Aa V];rfl) ?k0c1 ?k0c2 ?k0c3 ?k0c4 ?k0c5 ?_)
    case k0c1=>rw[Aa V];exact AbY ap
    case k0c2=>rw[Aa V];intro u hu;simp at hu;rcases hu with rfl | rfl | rfl | rfl | rfl <;> rfl
    case k0c3=>unfold maxLen;omega
    case k0c4=>omega
    case k0c5=>simp;omega
    intro R j W I _;rw[Aa V] at W;have ar:=fun (q:Nat) (h1:q < f.heap.size+2) (h2:(Value.slice a X.length ad).ownBlock≠some q)=>I.block q (by simp;omega) (fun e=>h2 e.symm);have aZ:Am j f.heap.size _ _:=⟨(ar _ (by omega) (fun e=>by have:=(H.lt _ e).2;omega)).trans aW.out⟩
    have Y:∀ q,q < f.heap.size→(Value.slice a X.length ad).ownBlock≠some q→j.heap[q]? =f.heap[q]? :=fun q h1 h2=>(ar q (by omega) h2).trans (ao.block q h1);have B:Pp j pb g c T tl q K:=⟨⟨(Y pb (Aa A).row.lt (Ad (Aa A).row H (by decide))).trans (Aa A).row.out⟩,Ac (Aa A).toks (fun q hq=>Y q ((Aa A).toks.lt q hq).2 (fun e=>Ap H (Aa A).toks (by decide) q e hq)),(Aa A).drop,(Aa A).len,(Aa A).small⟩
    have Z:∀ (v:Value) (n:Nat) (aj:List Value),f.ownsRow (pb+1) 9 1 v n aj→∀ q,v.ownBlock=some q→j.heap[q]? =f.heap[q]? :=fun v n aj N q hq=>Y q (N.lt q hq).2 (fun e=>Ap H N (by decide) q e hq);have a0:=Ab (Ej.of Z X L (Aa aS));have a1:=Ab (show SxP (pb+1) j ⟨(s.at_:Int),s.kind,s.name,p,z⟩ s from ⟨rfl,rfl,rfl,(Aa O).2.2.2.1,(Aa O).2.2.2.2.1,L2 Z _ (Aa O).2.2.2.2.2.1,L2 Z _ (Aa O).2.2.2.2.2.2⟩);have a2:=Ab (Ej.snoc (Aa a1) X L (Aa a0));have P:Ak pb (pb+1) w j:=by
     have C:=aR.allP ao;exact ⟨I.os.trans C.os,I.tape.trans C.tape,I.output.trans C.output,zL C.size I.size,fun q h1 h2=>(I.block q (zY h1 C.size) (fun e=>by have:=(H.lt q e.symm).1;omega)).trans (C.block q h1 h2)⟩
    obtain ⟨aa,ab,hf⟩:=Af W;have a3:Hid (j.ownsRow w.heap.size 69 5 (.slice aa (X.length+1) ab) (X.length+1) (RJ (X ++ [⟨(s.at_:Int),s.kind,s.name,p,z⟩]))):=Ab (by rw[Yu,Aa ak,← hf.1];exact W);have bm:=hf.1;subst bm;have bF:j.cell? ⟨f.heap.size,1,none⟩=some (.int .i64 s.kind):=aZ.cell 1;clear I ar Y Z W hf aV al ao ap aW aZ H aS O a0 a1;rcases bl with ⟨hk,J,a4,E,bn⟩ | ⟨hk,rfl,E⟩ | ⟨hk,hq,E⟩
    ·have ek:(s.kind== 3)=false:=zA.2 hk;have a5:=Ab (show PlN pb g c T tl x w q.length (.slice aa (X.length+1) ab) j from ⟨X ++ [⟨(s.at_:Int),s.kind,s.name,p,z⟩],L ++ [s],aa,ab,q,K,J,by simp,by rw[List.length_append];exact Aa a3,Aa a2,B,a4,E,rfl,by have:=(Aa ae).2;simp;omega,P⟩);have bo:=Ab (show q.length < m by have:=(Aa ae).1;omega);clear hk a4 E bn B P;go_wp2_with fail
     go_roundw
     case rel=>exact ⟨_,Aa a5⟩
     case measure=>rw[Aa a9];exact Aa aA _ _ _ (Aa bo) (Aa a5)
    ·have ek:(s.kind== 3)=true:=zI.2 hk;have au:=Ab E;have Q:=B.len;have av:=B.row.cell 0;have aw:=B.row.cell 1;simp only[zn,zh,zc] at av aw;clear hk E;have bp:=Aa ac;have bq:wrap64 (((T.length+1 :Nat):Int) - 1)=(T.length:Int):=by simp[wrap64];omega
     have br:decide (K < T.length)=false:=by rw[yH];simp at Q;omega
     have inl: ¬ K < T.length:=by simp at Q;omega
     clear Q;go_wp2_with fail
     go_region
     all_goals
      go_wp2_with fail
      go_ret2
      rw[Aa au];have bs:=(Below.refl j.heap.size j).drew;exact ⟨⟨X ++ [(⟨(s.at_:Int),s.kind,s.name,p,z⟩:Sx)],aa,ab,by rw[zB];rfl,by rw[zB];exact Ac (Aa a3) (fun q hq=>rfl),Ej.of (w:=j) (w':=j.drew) (fun _ _ _ _ _ _=>rfl) _ _ (Aa a2),by simp;omega⟩,P.allP bs⟩
    ·have ek:(s.kind== 3)=true:=zI.2 hk;have au:=Ab E;have Q:=B.len;have av:=B.row.cell 0;have aw:=B.row.cell 1;simp only[zn,zh,zc] at av aw;have bt:=Ab (EZ (B.drew) (((Aa ay).touch P hp).below (Below.refl j.heap.size j).drew));clear hk E;have bp:=Aa ac;have bu: 0 < q.length:=List.length_pos_iff.2 hq;have bq:wrap64 (((T.length+1 :Nat):Int) - 1)=(T.length:Int):=by simp[wrap64];omega
     have br:decide (K < T.length)=true:=by rw[zF];omega
     have inl:K < T.length:=by omega
     clear Q hq bu;go_wp2_with fail
     go_region
     all_goals
      go_wp2_with fail
      refine (Aa bt).mono ?_;rintro e bG ⟨b,rfl,ai,bv⟩;dsimp only[Ck];go_wp2_with fail
      go_ret2
      rw[Aa au];exact ⟨⟨b,rfl,ai⟩,(P.allP (Below.refl j.heap.size j).drew).allP bv⟩
end Go.Proofs.YtffkofkjpckmpaaGreatDoor
namespace Go.Proofs.YtffkofkjpckmpaaGreatDoor
set_option maxRecDepth 100000
set_option maxHeartbeats 3200000
open Go.RowKit
set_option linter.unusedVariables false
variable {a1 a2 a3 a4 a5 a6 : Addr}
theorem Yy (a b:Int):mx a b=max a b:=by unfold mx;split <;> omega
def ErN (a4 a5 a6:Addr) (c:Int) (o:Option Int) (w:World) (r:Ending) (w':World):Prop:=
 (match o with
   |none=>r= .returned .nilIface
   |some i=>∃ b,r= .returned (Ck b)∧ErP a4 a5 a6 c i b w')∧Below w.heap.size w w'
theorem Yz {X:List Sx}{k:Nat}(hk:k < X.length):IM (X.drop k)=if 64 < mx (Gt X[k].cond) (Gt X[k].grant) then some X[k].at' else IM (X.drop (k+1)):=by
 rw[zq hk,IM]
theorem RT (X:List Sx)(v:Value)(w:World)(lo:Nat)(a:Option Addr)(K:Nat)(L:w.ownsRow lo 69 5 (.slice a X.length K) X.length (RJ X))(hc:∀ x∈X,AN x.cond≤65535∧AN x.grant≤65535)(ao:X.length≤4000)(S:S6 w a1 a2 a3 a4 a5 a6):
  Calls Tryz.prog 44 #[.slice a X.length K] w (ErN a4 a5 a6 6 (IM X) w):=by
 have ab:=Ab hc;have M:=Ab L;have ac:=Ab S;have d:=Ab (show IM X=IM (X.drop 0) by rw[zm]);clear hc L S;generalize hm:X.length=m at *;have N:=Ab hm;clear hm;go_enter Tryz.func44,Tryz.ntmps44
 go_wp2_with fail
 go_loopw [7] (fun i wr=>∃ k:Nat,k≤m∧i= .int .i64 k∧IM X=IM (X.drop k)∧Below w.heap.size w wr) (fun i _=>m - (intOf i).toNat)
 case atStart=>exact ⟨0,zN _,rfl,Aa d,BRN⟩
 case round=>
  clear d;obtain ⟨k,hk,rfl,hx,o⟩:=hrel;have d:=Ab hx;clear hx;by_cases B:k < m
  ·have ap:(k:Int) < (m:Int):=by omega
   have q:k < X.length:=by rw[Aa N];exact B
   obtain ⟨aq,ar,hf,ad⟩:=Af (Aa M);obtain ⟨g,ae,au,O⟩:=ad (by omega);have af:a=some ⟨g,0,none⟩:=by injection hf with h1;rw[h1];exact ae
   subst af;have ag:g < w.heap.size:=((Aa M).lt g rfl).2;have f:∀ r,r < 5→∀ u,(Yv X[k])[r]? =some u→wr.cell? ⟨g,k * 5+r,none⟩=some u:=fun r ah u hu=>by
    rw[o.cell (p:=⟨g,k * 5+r,none⟩) ag];refine O _ _ ?_;rw[Um X k q r ah];exact hu
   have C:=f 0 (by decide) _ rfl;have P:=f 1 (by decide) _ rfl;have q2:=f 2 (by decide) _ rfl;have q3:=f 3 (by decide) _ rfl;have q4:=f 4 (by decide) _ rfl;simp only[zr] at C;obtain ⟨Q,R⟩:=Aa ab X[k] (zP q);have s:=Ab (fun w=>Yx X[k].cond Q w);have t:=Ab (fun w=>Yx X[k].grant R w);have h:=Ab (Yz q);have y:=JH X[k].cond;have z:=JH X[k].grant;have T:=Ab B;clear f O Q R hf B;generalize X[k]=x at C P q2 q3 q4 s t h y z;clear q;generalize Gt x.cond=d1 at s h;generalize Gt x.grant=d2 at t h;generalize Ei x.cond=b at q3 s y;generalize Ei x.grant=c at q4 t z;have ai:=o.alloc o.size (.cells #[.int .i64 x.at',.int .i64 x.kind,.string x.name,b,c] 69);have E:=Am.new wr #[.int .i64 x.at',.int .i64 x.kind,.string x.name,b,c] 69;go_wp2_with fail
   rw[run_store _ _ _ _ _ y];go_simp
   rw[run_store _ _ _ _ _ z];go_simp
   go_wp2_with fail
   generalize aj:wr.alloc (.cells #[.int .i64 x.at',.int .i64 x.kind,.string x.name,b,c] 69)=j at *;have av:j.cell? ⟨wr.heap.size,3,none⟩=some b:=E.cell 3;have aw:j.cell? ⟨wr.heap.size,4,none⟩=some c:=E.cell 4;have F:=E.after BRN.drew NLN;have ax:j.drew.cell? ⟨wr.heap.size,3,none⟩=some b:=F.cell 3;have ay:j.drew.cell? ⟨wr.heap.size,4,none⟩=some c:=F.cell 4;have U:=ai.drew;clear aj C P q2 q3 q4 y z;have az:Hid (mx d1 d2=if d1 < d2 then d2 else d1):=Ab rfl;go_region_held3 (fun w'=>w'.cell? ⟨wr.heap.size,3,none⟩=some b∧w'.cell? ⟨wr.heap.size,4,none⟩=some c) (first | assumption | go_keep) (first
    |(go_at_call 87;refine (Aa t H).mono ?_;rintro e l ⟨rfl,V⟩;have I:=J.after V NLN;have A:=W.trans (V.mono W.size);have aA:l.cell? ⟨wr.heap.size,3,none⟩=some b:=I.cell 3;have aB:l.cell? ⟨wr.heap.size,4,none⟩=some c:=I.cell 4)
    |(go_at_call 87;refine (Aa s j.drew).mono ?_;rintro e H ⟨rfl,Y⟩;have J:=F.after Y NLN;have W:=U.trans (Y.mono U.size);have aC:H.cell? ⟨wr.heap.size,3,none⟩=some b:=J.cell 3;have aD:H.cell? ⟨wr.heap.size,4,none⟩=some c:=J.cell 4)
    |fail)
   cases Z:decide (64 < max d1 d2)
   ·have n:=Ab (show IM X=IM (X.drop (k+1)) by rw[Aa d,Aa h,if_neg (by rw[Yy];exact of_decide_eq_false Z)]);go_wp2_with fail
    go_roundw
    case rel=>exact ⟨k+1,Aa T,by go_num,Aa n,A⟩
    case measure=>have:=Aa T;simp[intOf];omega
   ·have n:=Ab (show IM X=some x.at' by rw[Aa d,Aa h,if_pos (by rw[Yy];exact of_decide_eq_true Z)]);have aa:=(Aa ac).below A NLN;have g6:=aa.g6;have aE:l.cell? ⟨wr.heap.size,0,none⟩=some (.int .i64 x.at'):=I.cell 0;have aF:=(aa.below (Below.refl l.heap.size l).drew NLN).g6;go_wp2_with fail
    refine (Ez _ _ _ _).mono ?_;rintro e aG ⟨rfl,ak,al⟩;dsimp only;go_wp2_with fail
    go_ret
    rw[Aa n];exact ⟨⟨_,rfl,ak⟩,A.trans (al.mono A.size)⟩
  ·have e:k=m:=by omega
   subst e;have n:=Ab (show IM X=none by rw[Aa d,← Aa N,List.drop_length];rfl);go_wp2_with fail
   go_ret
   rw[Aa n];exact ⟨rfl,o⟩
def Ko:List Nd→List Int→List Int
 |n ::N,i ::P=>if 64 < n.names.length then i ::Ko N P else Ko N P
 |_,_=> []
theorem YA {N:List Nd}{P:List Int}{k:Nat}(hk:k < N.length)(hp:k < P.length):(Ko (N.drop k) (P.drop k)).head? =if 64 < N[k].names.length then some P[k] else (Ko (N.drop (k+1)) (P.drop (k+1))).head?:=by
 rw[zq hk,zq hp,Ko];split <;> rfl
theorem Un (N:List Nd)(P:List Int)(nd Q:Value)(n o:List Value)(w:World)(lo:Nat)(C:Cj w lo nd N n o)(E:w.ownsRow lo 3 1 Q P.length (AF P))(hl:N.length=P.length)(aw:N.length≤65535)(S:S6 w a1 a2 a3 a4 a5 a6):
  Calls Tryz.prog 43 #[nd,Q] w (ErN a4 a5 a6 5 (Ko N P).head? w):=by
 have c:=Ab C;have Y:=Ab E;have Z:=Ab S;have d:=Ab (show (Ko N P).head? =(Ko (N.drop 0) (P.drop 0)).head? by rw[zm,zm]);obtain ⟨ax,ay,aa,g⟩:=Af C.own;obtain ⟨az,aA,ab,h⟩:=Af E;subst aa;subst ab;have ac:=Ab g;have ad:=Ab h;clear C E S g h;generalize hm:N.length=m at *;have q:=Ab (And.intro hm hl);rw[← hl];clear hm hl;go_enter Tryz.func43,Tryz.ntmps43
 go_wp2_with fail
 go_loopw [9] (fun i wr=>∃ k:Nat,k≤m∧i= .int .i64 k∧(Ko N P).head? =(Ko (N.drop k) (P.drop k)).head?∧Below w.heap.size w wr) (fun i _=>m - (intOf i).toNat)
 case atStart=>exact ⟨0,zN _,rfl,Aa d,BRN⟩
 case round=>
  clear d;obtain ⟨k,hk,rfl,hx,s⟩:=hrel;have d:=Ab hx;clear hx;by_cases t:k < m
  ·have aB:(k:Int) < (m:Int):=by omega
   have a:k < N.length:=by rw[(Aa q).1];exact t
   have F:k < P.length:=by rw[← (Aa q).2];exact t
   obtain ⟨v,ae,aC,g⟩:=Aa ac (by omega);obtain ⟨j,af,aD,h⟩:=Aa ad (by rw[← (Aa q).2];omega);subst ae;subst af;have ag:v < w.heap.size:=((Aa c).own.lt v rfl).2;have ah:j < w.heap.size:=((Aa Y).lt j rfl).2;have y:k < n.length:=by rw[(Aa c).len];exact a
   have H:k < o.length:=by rw[(Aa c).lenk];exact a
   have f:∀ r,r < 5→∀ u,(MI N[k] n[k] o[k])[r]? =some u→wr.cell? ⟨v,k * 5+r,none⟩=some u:=fun r ai u hu=>by
    rw[s.cell (p:=⟨v,k * 5+r,none⟩) ag];refine g _ _ ?_;rw[Qf N n o k a y H r ai];exact hu
   have I:=f 0 (by decide) _ rfl;have R:=f 1 (by decide) _ rfl;have q2:=f 2 (by decide) _ rfl;have q3:=f 3 (by decide) _ rfl;have q4:=f 4 (by decide) _ rfl;simp only[zr] at I;obtain ⟨J,cs,T,aj⟩:=Af ((Aa c).names k a y);obtain ⟨K,L,U,ak⟩:=Af ((Aa c).kids k a H);rw[T] at q3;rw[U] at q4;have V:∀ w',Below w.heap.size w w'→w'.cell? ⟨j,k,none⟩=some (.int .i64 P[k]):=fun w' al=>by
    rw[al.cell (p:=⟨j,k,none⟩) ah];refine h _ _ ?_;rw[AF,zd,zM F];rfl
   have z:=Ab V;have A:=Ab (YA a F);have W:=Ab t;have aE:(k:Int) < (P.length:Int):=by omega
   have ao:N[k].names.length≤9223372036854775807:=by
    have:=(Aa c).names k a y;rcases this.2 with ⟨_,h0⟩ | ⟨aF,aG,aH,_,_,_,h4,h5,_⟩
    ·omega
    ·unfold maxLen at h5;omega
   clear f g h T U t V aj ak;generalize P[k]=X at z A;generalize N[k]=x at I R q2 q3 q4 A ao;clear a F y H;have b:=s.alloc s.size (.cells #[.int .i64 x.op,.int .i64 x.num,.string x.text,.slice J x.names.length cs,.slice K x.kids.length L] 124);have ap:=Am.new wr #[.int .i64 x.op,.int .i64 x.num,.string x.text,.slice J x.names.length cs,.slice K x.kids.length L] 124;by_cases B: 64 < x.names.length
   ·have aq:(64 :Int) < (x.names.length:Int):=by omega
    have l:=Ab (show (Ko N P).head? =some X by rw[Aa d,Aa A,if_pos B]);have M:=(Aa Z).below b NLN;have g5:=M.g5;have c5:=Aa z _ b;have aI:=Aa z _ b.drew;have g6:=(M.below BRN.drew NLN).g5;clear B;go_wp2_with fail
    generalize ar:wr.alloc (.cells #[.int .i64 x.op,.int .i64 x.num,.string x.text,.slice J x.names.length cs,.slice K x.kids.length L] 124)=au at *;clear ar I R q2 q3 q4 ap;go_region_held3 (fun w'=>w'.cell? ⟨j,k,none⟩=some (.int .i64 X)∧w'.cell? ⟨1,0,none⟩=some (.iface 276 (.pointer (some a5)))) (first | assumption | go_keep) (first
     |(go_at_call 82;refine (Ez _ _ _ au.drew).mono ?_;rintro e aJ ⟨rfl,av,O⟩;have c7:=Aa z _ (b.drew.trans (O.mono b.drew.size));have g7:=((M.below BRN.drew NLN).below O NLN).g5)
     |fail)
    all_goals
     go_wp2_with fail
     go_ret
     rw[Aa l];exact ⟨⟨_,rfl,av⟩,b.drew.trans (O.mono b.drew.size)⟩
   ·have aq: ¬ ((64 :Int) < (x.names.length:Int)):=by omega
    have l:=Ab (show (Ko N P).head? =(Ko (N.drop (k+1)) (P.drop (k+1))).head? by rw[Aa d,Aa A,if_neg B]);clear B;go_wp2_with fail
    go_roundw
    case rel=>exact ⟨k+1,Aa W,by go_num,Aa l,b⟩
    case measure=>have:=Aa W;simp[intOf];omega
  ·have e:k=m:=by omega
   subst e;have l:=Ab (show (Ko N P).head? =none by rw[Aa d,← (Aa q).1,List.drop_length];rfl);go_wp2_with fail
   go_ret
   rw[Aa l];exact ⟨rfl,s⟩
end Go.Proofs.YtffkofkjpckmpaaGreatDoor
namespace Go.Proofs.YtffkofkjpckmpaaGreatDoor
open Go.RowKit
set_option linter.unusedVariables false
theorem Er.same:∀ {e:Ex} {p:Pt},Er e p→e.cnt=p.ex.cnt∧(∀ b,Bw e b=Bw p.ex b)∧E7 e=E7 p.ex∧Cf e=Cf p.ex
 | .int i n,.int j m,h=>by obtain ⟨rfl,rfl⟩:=h;exact ⟨rfl,fun _=>rfl,rfl,rfl⟩
 | .text i s,.text j t,h=>by obtain ⟨rfl,rfl⟩:=h;exact ⟨rfl,fun _=>rfl,rfl,rfl⟩
 | .bool i b,.bool j d,h=>by obtain ⟨rfl,rfl⟩:=h;exact ⟨rfl,fun _=>rfl,rfl,rfl⟩
 | .set i a n c K,.set j ss,h=>by obtain ⟨rfl,f⟩:=h;rw[Qg f];exact ⟨rfl,fun _=>rfl,rfl,rfl⟩
 | .name i s,.name j t,h=>by obtain ⟨rfl,rfl⟩:=h;exact ⟨rfl,fun _=>rfl,rfl,rfl⟩
 | .un i op k,.un j o q,h=>by
  obtain ⟨rfl,rfl,hk⟩:=h;obtain ⟨a1,a2,a3,a4⟩:=Er.same hk;exact ⟨by simp only[Pt.ex,Ex.cnt,a1],fun b=>by simp only[Pt.ex,Bw,a1,a2],by simp only[Pt.ex,E7,a3],by simp only[Pt.ex,Cf,a4]⟩
 | .bin i op l r,.bin j o p q,h=>by
  obtain ⟨rfl,rfl,hl,g⟩:=h;obtain ⟨a1,a2,a3,a4⟩:=Er.same hl;obtain ⟨b1,b2,b3,b4⟩:=Er.same g;exact ⟨by simp only[Pt.ex,Ex.cnt,a1,b1],fun b=>by simp only[Pt.ex,Bw,a1,a2,b1,b2],by simp only[Pt.ex,E7,a3,b3],by simp only[Pt.ex,Cf,a4,b4]⟩
 | .ite i c t e,.ite j x y z,h=>by
  obtain ⟨rfl,hc,ht,he⟩:=h;obtain ⟨a1,a2,a3,a4⟩:=Er.same hc;obtain ⟨b1,b2,b3,b4⟩:=Er.same ht;obtain ⟨c1,c2,c3,c4⟩:=Er.same he;exact ⟨by simp only[Pt.ex,Ex.cnt,a1,b1,c1],fun b=>by simp only[Pt.ex,Bw,a1,a2,b1,b2,c1,c2],by simp only[Pt.ex,E7,a3,b3,c3],by simp only[Pt.ex,Cf,a4,b4,c4]⟩
 | .attr ..,_,h=>absurd h (by simp[Er])
 | .lett ..,_,h=>absurd h (by simp[Er])
 | .int ..,.text ..,h | .int ..,.bool ..,h | .int ..,.set ..,h | .int ..,.name ..,h | .int ..,.un ..,h | .int ..,.bin ..,h | .int ..,.ite ..,h=>absurd h (by simp[Er])
 | .text ..,.int ..,h | .text ..,.bool ..,h | .text ..,.set ..,h | .text ..,.name ..,h | .text ..,.un ..,h | .text ..,.bin ..,h | .text ..,.ite ..,h=>absurd h (by simp[Er])
 | .bool ..,.int ..,h | .bool ..,.text ..,h | .bool ..,.set ..,h | .bool ..,.name ..,h | .bool ..,.un ..,h | .bool ..,.bin ..,h | .bool ..,.ite ..,h=>absurd h (by simp[Er])
 | .set ..,.int ..,h | .set ..,.text ..,h | .set ..,.bool ..,h | .set ..,.name ..,h | .set ..,.un ..,h | .set ..,.bin ..,h | .set ..,.ite ..,h=>absurd h (by simp[Er])
 | .name ..,.int ..,h | .name ..,.text ..,h | .name ..,.bool ..,h | .name ..,.set ..,h | .name ..,.un ..,h | .name ..,.bin ..,h | .name ..,.ite ..,h=>absurd h (by simp[Er])
 | .un ..,.int ..,h | .un ..,.text ..,h | .un ..,.bool ..,h | .un ..,.set ..,h | .un ..,.name ..,h | .un ..,.bin ..,h | .un ..,.ite ..,h=>absurd h (by simp[Er])
 | .bin ..,.int ..,h | .bin ..,.text ..,h | .bin ..,.bool ..,h | .bin ..,.set ..,h | .bin ..,.name ..,h | .bin ..,.un ..,h | .bin ..,.ite ..,h=>absurd h (by simp[Er])
 | .ite ..,.int ..,h | .ite ..,.text ..,h | .ite ..,.bool ..,h | .ite ..,.set ..,h | .ite ..,.name ..,h | .ite ..,.un ..,h | .ite ..,.bin ..,h=>absurd h (by simp[Er])
theorem ErO.same {a:Option Ex}{p:Option Pt}(h:ErO a p):AN a=AN (p.map Pt.ex)∧(∀ b,Fb a b=Fb (p.map Pt.ex) b)∧Kq a=Kq (p.map Pt.ex)∧Gt a=Gt (p.map Pt.ex)∧(∀ b,EW a b=EW (p.map Pt.ex) b):=by
 match a,p,h with
 |none,none,_=>exact ⟨rfl,fun _=>rfl,rfl,rfl,fun _=>rfl⟩
 |some e,some p,h=>
  obtain ⟨a1,a2,a3,a4⟩:=Er.same (show Er e p from h);exact ⟨a1,a2,a3,a4,fun b=>by simp only[Option.map_some,EW,a1]⟩
theorem Ej.same {lo:Nat}{w:World} :∀ (X:List Sx) (S:List Ps),Ej lo w X S→(∀ b,A7 b X=A7 b (S.map Ps.sx))∧(∀ b,Ct b X=Ct b (S.map Ps.sx))∧CW X=CW (S.map Ps.sx)∧DN X=DN (S.map Ps.sx)∧IM X=IM (S.map Ps.sx)
 | [], [],_=>⟨fun _=>rfl,fun _=>rfl,rfl,rfl,rfl⟩
 |x ::X,s ::S,h=>by
  obtain ⟨⟨h1,h2,h3,h4,h5,_,_⟩,a⟩:=h;obtain ⟨c,d,f,g,i⟩:=Ej.same X S a;obtain ⟨a1,a2,a3,a4,a5⟩:=h4.same;obtain ⟨b1,b2,b3,b4,b5⟩:=h5.same;refine ⟨fun b=>?_,fun b=>?_, ?_, ?_, ?_⟩
  ·simp only[List.map_cons,A7,Ps.sx,a1,a2,b1,b2,c]
  ·simp only[List.map_cons,Ct,Ps.sx,a1,a5,b1,b5,d,h2,h3]
  ·simp only[List.map_cons,CW,Ps.sx,a3,b3,f]
  ·rw[List.map_cons,Cy,Cy,g];simp only[Ps.sx,a1,b1]
  ·simp only[List.map_cons,IM,Ps.sx,a4,b4,i,h1]
 | [],_ ::_,h=>absurd h id
 |_ ::_, [],h=>absurd h id
theorem EO:∀ (b B:List Nd) (P c:List Int),b.length=P.length→Ko (b ++B) (P ++c)=Ko b P ++Ko B c
 | [],B, [],c,_=>rfl
 | [],_,_ ::_,_,h=>by simp at h
 |_ ::_,_, [],_,h=>by simp at h
 |a ::b,B,p ::P,c,h=>by
  have d:=EO b B P c (by simpa using h);rw[List.cons_append,List.cons_append,Ko,Ko,d];split <;> rfl
theorem Qh (n:Nd)(i:Int)(h:n.names= []):Ko [n] [i]= []:=by
 rw[Ko,h];rfl
theorem Pt.wide:∀ (p:Pt) (b:Nat),Ko (Bw p.ex b) (E7 p.ex)=Kl p.sets
 | .int ..,b=>rfl
 | .text ..,b=>rfl
 | .bool ..,b=>rfl
 | .set i ss,b=>by
  show Ko [_] [_]=_;rw[Ko];show (if 64 < (Jp ss).length then _ else _)=Kl [(i,ss)];rw[Kl,List.filterMap_cons];dsimp only;split <;> simp_all[Ko]
 | .name ..,b=>rfl
 | .un i op k,b=>by
  have a:=Pt.wide k b;simp only[Pt.ex,Bw,E7,Pt.sets];rw[EO _ _ _ _ (by rw[Al,Ba]),a,Qh _ _ rfl,zp]
 | .bin i op l r,b=>by
  simp only[Pt.ex,Bw,E7,Pt.sets];rw[EO _ _ _ _ (by simp[Al,Ba]),EO _ _ _ _ (by rw[Al,Ba]),Pt.wide l,Pt.wide r,Qh _ _ rfl,zp,L3]
 | .ite i c t e,b=>by
  simp only[Pt.ex,Bw,E7,Pt.sets];rw[EO _ _ _ _ (by simp[Al,Ba]),EO _ _ _ _ (by simp[Al,Ba]),EO _ _ _ _ (by rw[Al,Ba]),Pt.wide c,Pt.wide t,Pt.wide e,Qh _ _ rfl,zp,L3,L3,zC]
theorem YB (a:Option Pt)(b:Nat):Ko (Fb (a.map Pt.ex) b) (Kq (a.map Pt.ex))=Kl (N6 a):=by
 cases a with
 |none=>rfl
 |some p=>exact p.wide b
theorem JI:∀ (S:List Ps) (b:Nat),Ko (A7 b (S.map Ps.sx)) (CW (S.map Ps.sx))=Kl (S.flatMap Ps.sets)
 | [],b=>rfl
 |s ::S,b=>by
  simp only[List.map_cons,A7,CW,zi,Ps.sets];rw[EO _ _ _ _ (by simp[Is,JJ]),EO _ _ _ _ (by rw[Is,JJ]),JI S];simp only[Ps.sx,YB,L3,zC]
theorem Jb:∀ {e:Ex} {p:Pt} {lo:Nat} {w:World},Er e p→e.own lo w→(∀ q∈p.sets,AaA q.2)→e.sok w
 | .int ..,.int ..,_,_,_,_,_=>trivial
 | .text ..,.text ..,_,_,_,_,_=>trivial
 | .bool ..,.bool ..,_,_,_,_,_=>trivial
 | .name ..,.name ..,_,_,_,_,_=>trivial
 | .set i a n c K,.set j ss,lo,w,h,ho,hs=>by
  obtain ⟨_,f⟩:=h;have g:w.ownsRow lo 9 1 (.slice a n c) n (K.map Value.string):=ho;have m:K.length=n:=by have:=g.1;simpa using this
  have h1:=hs (j,ss) (by simp[Pt.sets]);have h2:∀ x∈K,x.size≤maxLen:=fun x hx=>h1.1 x ((f.mem x).1 hx);have h3:=f.len;have h4:=h1.2;exact ⟨BL.of_owns g (fun k hk=>by rw[Cw K k (by omega)];exact h2 _ (zP _)),by dsimp only at h4;omega⟩
 | .un _ _ k,.un _ _ q,lo,w,h,ho,hs=>Jb (e:=k) h.2.2 ho hs
 | .bin _ _ l r,.bin _ _ p q,lo,w,h,ho,hs=>⟨Jb h.2.2.1 ho.1 (fun b d=>hs b (za _ d)),Jb h.2.2.2 ho.2 (fun b d=>hs b (zV _ d))⟩
 | .ite _ c t e,.ite _ x y b,lo,w,h,ho,hs=>⟨Jb h.2.1 ho.1 (fun b d=>hs b (za _ d)),Jb h.2.2.1 ho.2.1 (fun b d=>hs b (zV _ (za _ d))),Jb h.2.2.2 ho.2.2 (fun b d=>hs b (zV _ (zV _ d)))⟩
 | .attr ..,_,_,_,h,_,_=>absurd h (by simp[Er])
 | .lett ..,_,_,_,h,_,_=>absurd h (by simp[Er])
 | .int ..,.text ..,_,_,h,_,_ | .int ..,.bool ..,_,_,h,_,_ | .int ..,.set ..,_,_,h,_,_ | .int ..,.name ..,_,_,h,_,_ | .int ..,.un ..,_,_,h,_,_ | .int ..,.bin ..,_,_,h,_,_ | .int ..,.ite ..,_,_,h,_,_=>absurd h (by simp[Er])
 | .text ..,.int ..,_,_,h,_,_ | .text ..,.bool ..,_,_,h,_,_ | .text ..,.set ..,_,_,h,_,_ | .text ..,.name ..,_,_,h,_,_ | .text ..,.un ..,_,_,h,_,_ | .text ..,.bin ..,_,_,h,_,_ | .text ..,.ite ..,_,_,h,_,_=>absurd h (by simp[Er])
 | .bool ..,.int ..,_,_,h,_,_ | .bool ..,.text ..,_,_,h,_,_ | .bool ..,.set ..,_,_,h,_,_ | .bool ..,.name ..,_,_,h,_,_ | .bool ..,.un ..,_,_,h,_,_ | .bool ..,.bin ..,_,_,h,_,_ | .bool ..,.ite ..,_,_,h,_,_=>absurd h (by simp[Er])
 | .set ..,.int ..,_,_,h,_,_ | .set ..,.text ..,_,_,h,_,_ | .set ..,.bool ..,_,_,h,_,_ | .set ..,.name ..,_,_,h,_,_ | .set ..,.un ..,_,_,h,_,_ | .set ..,.bin ..,_,_,h,_,_ | .set ..,.ite ..,_,_,h,_,_=>absurd h (by simp[Er])
 | .name ..,.int ..,_,_,h,_,_ | .name ..,.text ..,_,_,h,_,_ | .name ..,.bool ..,_,_,h,_,_ | .name ..,.set ..,_,_,h,_,_ | .name ..,.un ..,_,_,h,_,_ | .name ..,.bin ..,_,_,h,_,_ | .name ..,.ite ..,_,_,h,_,_=>absurd h (by simp[Er])
 | .un ..,.int ..,_,_,h,_,_ | .un ..,.text ..,_,_,h,_,_ | .un ..,.bool ..,_,_,h,_,_ | .un ..,.set ..,_,_,h,_,_ | .un ..,.name ..,_,_,h,_,_ | .un ..,.bin ..,_,_,h,_,_ | .un ..,.ite ..,_,_,h,_,_=>absurd h (by simp[Er])
 | .bin ..,.int ..,_,_,h,_,_ | .bin ..,.text ..,_,_,h,_,_ | .bin ..,.bool ..,_,_,h,_,_ | .bin ..,.set ..,_,_,h,_,_ | .bin ..,.name ..,_,_,h,_,_ | .bin ..,.un ..,_,_,h,_,_ | .bin ..,.ite ..,_,_,h,_,_=>absurd h (by simp[Er])
 | .ite ..,.int ..,_,_,h,_,_ | .ite ..,.text ..,_,_,h,_,_ | .ite ..,.bool ..,_,_,h,_,_ | .ite ..,.set ..,_,_,h,_,_ | .ite ..,.name ..,_,_,h,_,_ | .ite ..,.un ..,_,_,h,_,_ | .ite ..,.bin ..,_,_,h,_,_=>absurd h (by simp[Er])
theorem VG {a:Option Ex}{p:Option Pt}{lo:Nat}{w:World}(h:ErO a p)(b:LQ lo w a)(hs:∀ q∈N6 p,AaA q.2):WK w a:=by
 match a,p,h with
 |none,none,_=>trivial
 |some e,some p,h=>exact Jb h b hs
theorem Ej.sok {lo:Nat}{w:World} :∀ (X:List Sx) (S:List Ps),Ej lo w X S→(∀ q∈S.flatMap Ps.sets,AaA q.2)→∀ x∈X,WK w x.cond∧WK w x.grant
 | [], [],_,_,x,hx=>by cases hx
 |y ::X,s ::S,h,hs,x,hx=>by
  obtain ⟨⟨h1,h2,h3,h4,h5,a,b⟩,c⟩:=h;rw[zi] at hs;rcases zG.1 hx with rfl | hx
  ·exact ⟨VG h4 a (fun q hq=>hs q (za _ (za _ hq))),VG h5 b (fun q hq=>hs q (za _ (zV _ hq)))⟩
  ·exact Ej.sok X S c (fun q hq=>hs q (zV _ hq)) x hx
 | [],_ ::_,h,_,_,_=>absurd h id
 |_ ::_, [],h,_,_,_=>absurd h id
end Go.Proofs.YtffkofkjpckmpaaGreatDoor
namespace Go.Proofs.YtffkofkjpckmpaaGreatDoor
set_option maxRecDepth 100000
set_option maxHeartbeats 6400000
open Go.RowKit
set_option linter.unusedVariables false
variable {a1 a2 a3 a4 a5 a6 : Addr}
structure Z4 (w:World) (a1 a2 a3 a4 a5 a6:Addr):Prop where
 s6:S6 w a1 a2 a3 a4 a5 a6
 tab:∀ k,w.cell? ⟨10,k,none⟩=EL[k]?
theorem Z4.below {w w':World}(h:Z4 w a1 a2 a3 a4 a5 a6)(a:Below w.heap.size w w'):Z4 w' a1 a2 a3 a4 a5 a6:=
 ⟨h.s6.below a NLN,fun k=>(a.cell (p:=⟨10,k,none⟩) (by have:=h.s6.big;show 10 < _;omega)).trans (h.tab k)⟩
theorem Z4.gy {w:World}(h:Z4 w a1 a2 a3 a4 a5 a6):Gy w a4:=⟨h.s6.g4,h.s6.big,h.tab⟩
def PqA (a1 a2 a3 a4 a5 a6:Addr) (R:List Nd × List St × List Int × Int × Int) (w:World) (r:Ending) (w':World):Prop:=
 ((R.2.2.2.1=0∧R.2.2.2.2=0∧∃ nd pl nv kv sv,r= .returned (.tuple #[.agg #[nd,sv],pl,.nilIface])∧Cj w' w.heap.size nd R.1 nv kv∧w'.ownsRow w.heap.size 51 4 sv R.2.1.length (Dm R.2.1)∧w'.ownsRow w.heap.size 3 1 pl R.2.2.1.length (AF R.2.2.1)∧(∀ q,pl.ownBlock=some q→∀ j,(hj:j < kv.length)→kv[j].ownBlock≠some q))∨
   (R.1= []∧R.2.1= []∧R.2.2.1= []∧1≤R.2.2.2.1∧R.2.2.2.1≤3∧∃ b,r= .returned (.tuple #[.agg #[.slice none 0 0,.slice none 0 0],.slice none 0 0,Ck b])∧Am w' b #[.int .i64 R.2.2.2.2,Jc a1 a2 a3 R.2.2.2.1] 109)∨
   (R.1= []∧R.2.1= []∧R.2.2.1= []∧4≤R.2.2.2.1∧R.2.2.2.1≤6∧∃ b,r= .returned (.tuple #[.agg #[.slice none 0 0,.slice none 0 0],.slice none 0 0,Ck b])∧ErP a4 a5 a6 R.2.2.2.1 R.2.2.2.2 b w'))∧Below w.heap.size w w'
theorem Qj {w:World}{b c:Nat}{cs f:Array Value}{t d:TypeId}(R:Am w b cs t)(R':Am w c f d)(h:t≠d):b≠c:=fun e=>by
 have a:=R.out;have g:=R'.out;rw[e,g] at a;injection a with a;injection a with _ a;exact h a.symm
theorem Cj.low {w:World}{lo c:Nat}{v:Value}{N:List Nd}{d f:List Value}(h:Cj w lo v N d f)(hl:c≤lo):Cj w c v N d f:=
 ⟨h.len,h.lenk,Cz h.own hl,fun j a b=>Cz (h.names j a b) hl,fun j a b=>Cz (h.kids j a b) hl,h.apart,h.apartk⟩
theorem MK {i:Func}{a u v:Tmp}(h:i.results= #[.cell a 27,.tmp u,.tmp v]){c:Array Value}{w:World}{b:Nat}{d g e f:Value}(j:c.getD a undef= .pointer (some ⟨b,0,none⟩))(hu:c.getD u undef=e)(k:c.getD v undef=f)
  (R:Am w b #[d,g] 27):(results i c).run Tryz.prog w= .ok (.tuple #[.agg #[d,g],e,f]) w:=by
 rw[yA] at j hu k;have l:w.cell? ⟨b,0,none⟩=some d:=R.cell 0;have g1:w.cell? ⟨b,1,none⟩=some g:=R.cell 1;simp[results,h,j,hu,k,go_sem,l,g1]
theorem WL (t:ByteArray)(x:QR)(d:DP (Ay t).toks x)(w:World)(aQ:Z4 w a1 a2 a3 a4 a5 a6):
  Calls Tryz.prog 17 #[.string t] w (PqA a1 a2 a3 a4 a5 a6 (IX t x) w):=by
 have f:=(Below.refl w.heap.size w).alloc NLN (.cells #[.slice none 0 0,.slice none 0 0] 27);have L:=Am.new w #[.slice none 0 0,.slice none 0 0] 27;have B:=Ab (aQ.below f);have ay:=Ab d;have bC:=Ab (GS t);clear aQ d;go_enter Tryz.func17,Tryz.ntmps17
 go_wp2_with fail
 generalize aR:w.alloc (.cells #[.slice none 0 0,.slice none 0 0] 27)=n at *;have cb:w.heap.size < n.heap.size:=by rw[← aR];simp
 clear aR;refine (YD t n (Aa B).s6.snt).mono ?_;rintro e aS (⟨hc,bD,cc,cd,rfl,az,aT,m⟩ | ⟨bE,h1,h3,b,rfl,aU,m⟩)
 ·have M:=L.after m NLN;have aV:=f.trans (m.mono f.size);have ad:=Ab hc;have ce:=Ab ((Aa B).below m);have bF:=Aa bC;have bG:=Ab aT;generalize bH:(Ay t).toks=T at *;clear hc bD aT bH;obtain ⟨i,hi,bI,bJ,bK⟩:=info_parts YE;have aW:=m.alloc m.size (.cells #[.int .i64 0,.int .i64 0,.string ⟨#[]⟩,.int .i64 (t.size:Int)] 42);have aX:=az.alloc (.cells #[.int .i64 0,.int .i64 0,.string ⟨#[]⟩,.int .i64 (t.size:Int)] 42);have aY:=Am.new aS #[.int .i64 0,.int .i64 0,.string ⟨#[]⟩,.int .i64 (t.size:Int)] 42;dsimp only;go_wp2_with (at_builtin;refine wpList_append_own _ rfl _ _ 37 rfl n.heap.size 42 i (.agg #[.int .i64 0,.int .i64 0,.string ByteArray.empty,.int .i64 0]) 4 40 Tryz.underlying37 hi bI bJ bK rfl (by decide) _ _ _ rfl aX ⟨aS.heap.size,0,none⟩ 1 1 (JK (eT t.size)) rfl rfl ?c1 ?c2 ?c3 ?c4 ?c5 ?_)
  case c1=>exact KC (x:=eT t.size) aY
  case c2=>exact Qk _
  case c3=>unfold maxLen;omega
  case c4=>omega
  case c5=>have:=m.size;simp;omega
  intro cf C ae aZ _;have af:Below n.heap.size n C:=aW.grown aZ (by simp;have:=m.size;omega) (fun q hq=>(az.lt q hq).1);rw[← KF] at ae;obtain ⟨cg,ag,bL,a0⟩:=Af ae;obtain ⟨ah,bM,ch,_⟩:=a0 (by omega);subst bM;subst bL;clear aZ az aX aY aW a0;have U:=af.alloc af.size (.cells #[.slice (some ⟨ah,0,none⟩) (T.length+1) ag,.int .i64 0] 97);have a7:Pp (C.alloc (.cells #[.slice (some ⟨ah,0,none⟩) (T.length+1) ag,.int .i64 0] 97)) C.heap.size ah ag T t.size T 0:=⟨Am.new C _ _,Cz (ae.alloc _) (zN _),by simp,by simp,bF⟩
  have aA:=(Aa B).below U;have bN: 17≤C.heap.size:=zL (Aa B).s6.big af.size;have a8:=Ab (Ug bN T x (Aa ay) _ 0 a7 aA.gy);have ci:=Ab aA;clear a7 aA ae;go_wp2_with fail
  generalize a9:C.alloc (.cells #[.slice (some ⟨ah,0,none⟩) (T.length+1) ag,.int .i64 0] 97)=aB at *;have cj:C.heap.size < aB.heap.size:=by rw[← a9];simp
  clear a9;have ba:=af.size;refine (Aa a8).mono ?_;intro aC N bb;cases x with
  |bad q=>
   obtain ⟨⟨b,rfl,V⟩,ai⟩:=bb;have E:Below n.heap.size n N:=BT U ai ba U.size;have W:=L.after E NLN;have F:=f.trans (E.mono f.size);have o:=Ab (LZ (t:=t) (q:=q) (Aa ad));have s:=W.cell 0;have v:=W.cell 1;have aj:=fun j=>W.frozen j;simp only[zn,zh,zc] at s v;have A:Am N b #[.int .i64 ((Dw t.size q).at_:Int),.iface 276 (.pointer (some a4))] 109:=V;dsimp only[Ck];go_wp2_with fail
   have y:=(W.set 0 (.slice none 0 0)).set 1 (.slice none 0 0);have z:=(F.setCell (p:=⟨w.heap.size,0,none⟩) NLN (.slice none 0 0)).setCell (p:=⟨w.heap.size,1,none⟩) NLN (.slice none 0 0);have h:b≠w.heap.size:=Qj A W (by decide);have H:=(A.setFar (p:=⟨w.heap.size,0,none⟩) h (.slice none 0 0)).setFar (p:=⟨w.heap.size,1,none⟩) h (.slice none 0 0);rw[Aa o];exact bodyPost_ret (MK Tryz.results17 rfl rfl rfl y) rfl ⟨.inr (.inr ⟨rfl,rfl,rfl,by show (4 :Int)≤4;omega,by show (4 :Int)≤6;omega,b,rfl,H⟩),z⟩
  |ok S=>
   obtain ⟨⟨X,a,ak,rfl,aD,al,bO⟩,ai⟩:=bb;have E:Below n.heap.size n N:=BT U ai ba U.size;have aE:=(Aa ay).cut S rfl;have bP:=aE.cnt;obtain ⟨bc,bd,bf,Y,bg⟩:=Ej.same X S al;have bQ:=Ej.len X S al;have bh:X.length≠0:=fun e=>(Aa ay).ne S rfl (z7 (by omega));have bi:=Ej.sok X S al (fun q hq=>by rw[← aE.sets] at hq;exact MJ T (Aa bG) (by omega) q hq);rcases aD.2 with ⟨_,h0⟩ | ⟨g,cap,aF,bj,bR,bk,bS,bT,bU,bl⟩
   ·exact absurd h0 bh
   simp only[Value.slice.injEq,true_and] at bj;obtain ⟨rfl,rfl⟩:=bj;have bm:Am N g aF 69:=⟨bk⟩
   have bn:∀ (r:Nat) (u:Value),(RJ X)[r]? =some u→aF[r]? =some u:=fun r u hu=>by
    rw[← bl,List.getElem?_take] at hu;split at hu
    ·simpa using hu
    ·cases hu
   have bo:=Ab (Uo X g X.length ak aF N rfl bm bn bi (by rw[Y];omega) (by omega));have l:=Ab (And.intro bc (And.intro bd (And.intro bf (And.intro Y bg))));have bV:=Ab (show ∀ x∈X,AN x.cond≤65535∧AN x.grant≤65535 from fun x hx=>by have:=YC hx;rw[Y] at this;omega);have bW:=Ab (show DN X≤65535 by rw[Y];omega);have ao:=Ab aD;have ck:=Ab ((Aa B).below E);clear bk bn bl bU bT bS bi aE bP bc bd bf Y bg al bm ai aD a8 bQ bh bR;dsimp only;go_wp2_with fail
   refine (Aa bo).mono ?_;rintro aC O ⟨⟨nd,cl,bp,bq,cm,rfl,aG,ap,aq,br⟩,aH⟩;obtain ⟨I,J,rfl,_⟩:=Af aG.own;obtain ⟨cn,co,rfl,_⟩:=Af aq;obtain ⟨K,cs,rfl,_⟩:=Af ap;have aI:=E.trans (aH.mono E.size);have ar:=(Below.refl O.heap.size O).alloc NLN (.cells #[.slice I (A7 0 X).length J,.slice K X.length cs] 27);have bX:=Am.new O #[.slice I (A7 0 X).length J,.slice K X.length cs] 27;have aJ:=aI.alloc aI.size (.cells #[.slice I (A7 0 X).length J,.slice K X.length cs] 27);have aK:=aG.blocks (fun k _ hk=>ar.block k hk);have aL:=Ac aq (fun q hq=>ar.block q (aq.lt q hq).2);have bs:=Ac ap (fun q hq=>ar.block q (ap.lt q hq).2);have bY:=Ab (Un (A7 0 X) (CW X) _ _ bp bq _ _ aK aL (by rw[CY,Ge]) (by rw[CY];exact Aa bW) ((Aa B).below aJ).s6);have bZ:=Ab aK;have bt:=Ab aL;have bu:=Ab bs;have b0:=Ab br;have bv:=Ab (Ac (Aa ao) (fun q hq=>by rw[ar.block q (zY ((Aa ao).lt q hq).2 aH.size),aH.block q ((Aa ao).lt q hq).2]):World.ownsRow _ aB.heap.size 69 5 (.slice (some ⟨g,0,none⟩) X.length ak) X.length (RJ X));have cp:=E.size;clear aG aq ap aK aL bs br bo ao;dsimp only;go_wp2_with fail
   generalize b1:O.alloc (.cells #[.slice I (A7 0 X).length J,.slice K X.length cs] 27)=cq at *;clear b1;refine (Aa bY).mono ?_;rintro aC aM ⟨au,Z⟩;have aa:=aJ.trans (Z.mono aJ.size);have b2:=bX.after Z NLN;cases P:(Ko (A7 0 X) (CW X)).head? with
   |some i=>
    rw[P] at au;obtain ⟨b,rfl,V⟩:=au;have o:=Ab (Jv (t:=t) (S:=S) (i:=i) (Aa ad) (by rw[← JI S 0,← (Aa l).1 0,← (Aa l).2.2.1];exact P));clear P;have c:=L.after aa NLN;have F:=f.trans (aa.mono f.size);have s:=c.cell 0;have v:=c.cell 1;have aj:=fun j=>c.frozen j;simp only[zn,zh,zc] at s v;have A:Am aM b _ 109:=V;dsimp only[Ck];go_wp2_with fail
    have y:=(c.set 0 (.slice none 0 0)).set 1 (.slice none 0 0);have z:=(F.setCell (p:=⟨w.heap.size,0,none⟩) NLN (.slice none 0 0)).setCell (p:=⟨w.heap.size,1,none⟩) NLN (.slice none 0 0);have h:b≠w.heap.size:=Qj A c (by decide);have H:=(A.setFar (p:=⟨w.heap.size,0,none⟩) h (.slice none 0 0)).setFar (p:=⟨w.heap.size,1,none⟩) h (.slice none 0 0);rw[Aa o];exact bodyPost_ret (MK Tryz.results17 rfl rfl rfl y) rfl ⟨.inr (.inr ⟨rfl,rfl,rfl,by show (4 :Int)≤5;omega,by show (5 :Int)≤6;omega,b,rfl,H⟩),z⟩
   |none=>
    rw[P] at au;subst au;have b3:=Ab (Ac (Aa bv) (fun q hq=>Z.block q ((Aa bv).lt q hq).2):aM.ownsRow aB.heap.size 69 5 (.slice (some ⟨g,0,none⟩) X.length ak) X.length (RJ X));have bw:=Ab P;have b4:=Ab (RT X (.nilIface) aM _ _ ak (Aa b3) (Aa bV) bO ((Aa B).below aa).s6);clear P;dsimp only;go_wp2_with fail
    refine (Aa b4).mono ?_;rintro aC av ⟨aw,aN⟩;have ax:=aa.trans (aN.mono aa.size);have bx:=b2.after aN NLN;cases Q:IM X with
    |some i=>
     rw[Q] at aw;obtain ⟨b,rfl,V⟩:=aw;have o:=Ab (Jw (t:=t) (S:=S) (i:=i) (Aa ad) (by rw[← JI S 0,← (Aa l).1 0,← (Aa l).2.2.1];exact Aa bw) (by rw[← (Aa l).2.2.2.2];exact Q));clear Q;have c:=L.after ax NLN;have F:=f.trans (ax.mono f.size);have s:=c.cell 0;have v:=c.cell 1;have aj:=fun j=>c.frozen j;simp only[zn,zh,zc] at s v;have A:Am av b _ 109:=V;dsimp only[Ck];go_wp2_with fail
     have y:=(c.set 0 (.slice none 0 0)).set 1 (.slice none 0 0);have z:=(F.setCell (p:=⟨w.heap.size,0,none⟩) NLN (.slice none 0 0)).setCell (p:=⟨w.heap.size,1,none⟩) NLN (.slice none 0 0);have h:b≠w.heap.size:=Qj A c (by decide);have H:=(A.setFar (p:=⟨w.heap.size,0,none⟩) h (.slice none 0 0)).setFar (p:=⟨w.heap.size,1,none⟩) h (.slice none 0 0);rw[Aa o];exact bodyPost_ret (MK Tryz.results17 rfl rfl rfl y) rfl ⟨.inr (.inr ⟨rfl,rfl,rfl,by show (4 :Int)≤6;omega,by show (6 :Int)≤6;omega,b,rfl,H⟩),z⟩
    |none=>
     rw[Q] at aw;subst aw;have o:=Ab (Mp (t:=t) (S:=S) (Aa ad) (by rw[← JI S 0,← (Aa l).1 0,← (Aa l).2.2.1];exact Aa bw) (by rw[← (Aa l).2.2.2.2];exact Q));clear Q;have c:=L.after ax NLN;have F:=f.trans (ax.mono f.size);have s:=c.cell 0;have v:=c.cell 1;have aj:=fun j=>c.frozen j;have b5:=bx.cell 0;have b6:=bx.cell 1;simp only[zn,zh,zc] at s v b5 b6;have b7:O.heap.size≠w.heap.size:=by have:=aI.size;omega
     have cr:w.heap.size≠O.heap.size:=fun e=>b7 e.symm;dsimp only;go_wp2_with fail
     have aO:=Z.trans (aN.mono Z.size);have R:=(Aa bZ).blocks (fun k _ hk=>aO.block k hk);have bz:=Ac (Aa bt) (fun q hq=>aO.block q ((Aa bt).lt q hq).2);have bA:=Ac (Aa bu) (fun q hq=>aO.block q ((Aa bu).lt q hq).2);have ab:∀ q,q≠w.heap.size→((av.setCell ⟨w.heap.size,0,none⟩ (.slice I (A7 0 X).length J)).setCell ⟨w.heap.size,1,none⟩ (.slice K X.length cs)).heap[q]? =av.heap[q]? :=fun q hq=>(heap_setCell_other _ ⟨w.heap.size,1,none⟩ q _ hq).trans (heap_setCell_other av ⟨w.heap.size,0,none⟩ q _ hq);have y:=(c.set 0 (.slice I (A7 0 X).length J)).set 1 (.slice K X.length cs);have z:=(F.setCell (p:=⟨w.heap.size,0,none⟩) NLN (.slice I (A7 0 X).length J)).setCell (p:=⟨w.heap.size,1,none⟩) NLN (.slice K X.length cs);have b8:=R.upto (fun q hq=>ab q (fun e=>Ad c R.own (by decide) (by rw[hq,e]))) (fun j ac q hq=>ab q (fun e=>Ad c (R.names j (by rw[← R.len];exact ac) ac) (by decide) (by rw[hq,e]))) (fun j ac q hq=>ab q (fun e=>Ad c (R.kids j (by rw[← R.lenk];exact ac) ac) (by decide) (by rw[hq,e])));have b9:=Ac bz (fun q hq=>ab q (fun e=>Ad c bz (by decide) (by rw[hq,e])));have ca:=Ac bA (fun q hq=>ab q (fun e=>Ad c bA (by decide) (by rw[hq,e])));have aP:w.heap.size≤N.heap.size:=by omega
     rw[Aa o,← (Aa l).1 0,← (Aa l).2.1 0,← (Aa l).2.2.1];refine bodyPost_ret (MK Tryz.results17 rfl rfl rfl y) rfl ⟨.inl ⟨rfl,rfl,_,_,bp,bq,_,rfl,b8.low aP, ?_,Cz b9 aP,Aa b0⟩,z⟩;show World.ownsRow _ _ _ _ _ (Ct 0 X).length _;rw[Gc];exact Cz ca aP
 ·have M:=L.after m NLN;have aV:=f.trans (m.mono f.size);have o:=Ab (show IX t x=([], [], [],(Ay t).code,((Ay t).at_:Int)) from Jx (by omega));have bB:=Ab (And.intro h1 h3);have s:=M.cell 0;have v:=M.cell 1;have aj:=fun j=>M.frozen j;simp only[zn,zh,zc] at s v;clear bE h1 h3;dsimp only;go_wp2_with fail
  have y:=(M.set 0 (.slice none 0 0)).set 1 (.slice none 0 0);have z:=(aV.setCell (p:=⟨w.heap.size,0,none⟩) NLN (.slice none 0 0)).setCell (p:=⟨w.heap.size,1,none⟩) NLN (.slice none 0 0);have h:b≠w.heap.size:=Qj aU M (by decide);have H:=(aU.setFar (p:=⟨w.heap.size,0,none⟩) h (.slice none 0 0)).setFar (p:=⟨w.heap.size,1,none⟩) h (.slice none 0 0);rw[Aa o];exact bodyPost_ret (MK Tryz.results17 rfl rfl rfl y) rfl ⟨.inr (.inl ⟨rfl,rfl,rfl,(Aa bB).1,(Aa bB).2,b,rfl,H⟩),z⟩
end Go.Proofs.YtffkofkjpckmpaaGreatDoor
namespace Go.Proofs.YtffkofkjpckmpaaGreatDoor
set_option maxRecDepth 100000
set_option maxHeartbeats 3200000
open Go.RowKit
set_option linter.unusedVariables false
variable {a1 a2 a3 a4 a5 a6 : Addr}
def Rb (R:List Nd × List St × List Int × Int × Int) (w:World) (r:Ending) (w':World):Prop:=
 (∃ nd pl nv kv sv,r= .returned (.tuple #[.agg #[nd,sv],pl,.agg #[.int .i64 R.2.2.2.1,.int .i64 R.2.2.2.2]])∧Cj w' w.heap.size nd R.1 nv kv∧w'.ownsRow w.heap.size 51 4 sv R.2.1.length (Dm R.2.1)∧w'.ownsRow w.heap.size 3 1 pl R.2.2.1.length (AF R.2.2.1)∧(∀ q,pl.ownBlock=some q→∀ j,(hj:j < kv.length)→kv[j].ownBlock≠some q))∧Below w.heap.size w w'
theorem G5 {j:Func}{a u v:Tmp}(h:j.results= #[.cell a 27,.tmp u,.cell v 30]){c:Array Value}{w:World}{b d:Nat}{f g e i f1:Value}(k:c.getD a undef= .pointer (some ⟨b,0,none⟩))(hu:c.getD u undef=e)(l:c.getD v undef= .pointer (some ⟨d,0,none⟩))
  (R:Am w b #[f,g] 27)(F:Am w d #[i,f1] 30):(results j c).run Tryz.prog w= .ok (.tuple #[.agg #[f,g],e,.agg #[i,f1]]) w:=by
 rw[yA] at k hu l;have m:w.cell? ⟨b,0,none⟩=some f:=R.cell 0;have g1:w.cell? ⟨b,1,none⟩=some g:=R.cell 1;have g2:w.cell? ⟨d,0,none⟩=some i:=F.cell 0;have g3:w.cell? ⟨d,1,none⟩=some f1:=F.cell 1;simp[results,h,k,hu,l,go_sem,m,g1,g2,g3]
theorem PqA.uni {R:List Nd × List St × List Int × Int × Int}{w a:World}{r:Ending}(h:PqA a1 a2 a3 a4 a5 a6 R w r a)(m:Z4 a a1 a2 a3 a4 a5 a6):
  ∃ nd c k d i l,r= .returned (.tuple #[.agg #[nd,i],c,l])∧GW l∧Cj a w.heap.size nd R.1 k d∧a.ownsRow w.heap.size 51 4 i R.2.1.length (Dm R.2.1)∧a.ownsRow w.heap.size 3 1 c R.2.2.1.length (AF R.2.2.1)∧(∀ q,c.ownBlock=some q→∀ j,(p:j < d.length)→d[j].ownBlock≠some q)∧
   (∀ w',Below a.heap.size a w'→Calls Tryz.prog 18 #[l] w' fun e o=>e= .returned (.agg #[.int .i64 R.2.2.2.1,.int .i64 R.2.2.2.2])∧Below w'.heap.size w' o):=by
 obtain ⟨N,L,O,n,at_⟩:=R;rcases h with ⟨⟨h1,h2,nd,c,k,d,i,rfl,g1,g2,g3,g4⟩ | ⟨h1,h2,h3,h4,h5,b,rfl,f⟩ | ⟨h1,h2,h3,h4,h5,b,rfl,f⟩,s⟩
 ·dsimp only at h1 h2;subst h1 h2;exact ⟨nd,c,k,d,i,.nilIface,rfl,.inl rfl,g1,g2,g3,g4,fun w' _=>RU w'⟩
 ·dsimp only at h1 h2 h3 h4 h5 f;subst h1 h2 h3;exact ⟨_,_, [], [],_,_,rfl,.inr ⟨_,_,rfl⟩,Cj.nil _ _,World.ownsRow_nil _ _ _ _,World.ownsRow_nil _ _ _ _,(fun q hq=>by cases hq),fun w' g=>RW b at_ n w' (m.below g).s6.snt (f.after g NLN) ⟨h4,h5⟩⟩
 ·dsimp only at h1 h2 h3 h4 h5 f;subst h1 h2 h3;exact ⟨_,_, [], [],_,_,rfl,.inr ⟨_,_,rfl⟩,Cj.nil _ _,World.ownsRow_nil _ _ _ _,World.ownsRow_nil _ _ _ _,(fun q hq=>by cases hq),fun w' g=>Yh b n at_ w' (m.below g).s6 (Am.after f g NLN) ⟨h4,h5⟩⟩
theorem TY (t:ByteArray)(x:QR)(d:DP (Ay t).toks x)(w:World)(Q:Z4 w a1 a2 a3 a4 a5 a6):
  Calls Tryz.prog 6 #[.string t] w (Rb (IX t x) w):=by
 have m:=((Below.refl w.heap.size w).alloc NLN (.cells #[.slice none 0 0,.slice none 0 0] 27)).alloc (by simp) (.cells #[.int .i64 0,.int .i64 0] 30);have aF:=(Am.new w #[.slice none 0 0,.slice none 0 0] 27).alloc (.cells #[.int .i64 0,.int .i64 0] 30);have ar:=Am.new (w.alloc (.cells #[.slice none 0 0,.slice none 0 0] 27)) #[.int .i64 0,.int .i64 0] 30;simp only[World.size_alloc] at ar;have aG:=Ab (Q.below m);have S:=Ab (WL t x d _ (Q.below m));generalize IX t x=R at S ⊢;obtain ⟨N,L,O,k,at_⟩:=R;clear Q d;go_enter Tryz.func6,Tryz.ntmps6
 go_wp2_with fail
 generalize au:(w.alloc (.cells #[.slice none 0 0,.slice none 0 0] 27)).alloc (.cells #[.int .i64 0,.int .i64 0] 30)=B at *;have av:B.heap.size=w.heap.size+2:=by rw[← au];simp
 have T:=Ab av;clear au av;refine (Aa S).mono ?_;intro aP a U;have u:=U.2;obtain ⟨nd,aQ,aw,ax,aR,aS,rfl,aH,I,J,K,ay,hf⟩:=U.uni ((Aa aG).below u);clear U S;obtain ⟨b,c,rfl,_⟩:=Af I.own;obtain ⟨aT,aU,rfl,_⟩:=Af K;obtain ⟨f,cs,rfl,_⟩:=Af J;dsimp only at I J K hf ⊢;have aI:=aF.after u NLN;have aJ:=ar.after u NLN;have az:=Ab hf;have aA:=Ab I;have y:=Ab J;have z:=Ab K;have v:=(Below.refl a.heap.size a).alloc NLN (.cells #[.slice b N.length c,.slice f L.length cs] 27);have A:=Am.new a #[.slice b N.length c,.slice f L.length cs] 27;clear hf I J K;have aV:w.heap.size+2≤a.heap.size:=by have:=u.size;have:=Aa T;omega
 have aB:(Tryz.f18.name== "runtime.NumGoroutine")=false:=by kernel_rfl
 have aC: Tryz.f18.body.isNone=false:=by kernel_rfl
 have aD:=aI.alloc (.cells #[.slice b N.length c,.slice f L.length cs] 27);have aE:=aJ.alloc (.cells #[.slice b N.length c,.slice f L.length cs] 27);have M:w.heap.size≠w.heap.size+1:=by omega
 have P:w.heap.size+1≠w.heap.size:=by omega
 have aW:a.heap.size≠w.heap.size:=by omega
 have aX:a.heap.size≠w.heap.size+1:=by omega
 rcases aH with rfl | ⟨aK,aL,rfl⟩
 ·go_wp2_with fail
  generalize V:a.alloc (.cells #[.slice b N.length c,.slice f L.length cs] 27)=g at *;clear V;have W:g.cell? ⟨a.heap.size,0,none⟩=some (.slice b N.length c):=A.cell 0;have X:g.cell? ⟨a.heap.size,1,none⟩=some (.slice f L.length cs):=A.cell 1;have Y:Below g.heap.size g g.drew:=BRN.drew;go_region_law (refine Jd rfl 18 _ Tryz.func18 aB aC _ _ rfl (.nilIface) rfl (fun Z w'=>Z= .agg #[.int .i64 k,.int .i64 at_]∧Below g.heap.size g w') ((Aa az g.drew v.drew).mono (fun r w' h=>⟨_,h.1,rfl,Y.trans h.2⟩)) ?_;rintro aM i ⟨rfl,l⟩;have C:=A.after l NLN;have n:=aD.after l NLN;have o:=aE.after l NLN;have aa:i.cell? ⟨a.heap.size,0,none⟩=some (.slice b N.length c):=C.cell 0;have ab:i.cell? ⟨a.heap.size,1,none⟩=some (.slice f L.length cs):=C.cell 1;have ac:i.cell? ⟨w.heap.size,0,none⟩=some (.slice none 0 0):=n.cell 0;have ad:i.cell? ⟨w.heap.size,1,none⟩=some (.slice none 0 0):=n.cell 1;have ae:=fun j=>n.frozen j;have af:i.cell? ⟨w.heap.size+1,0,none⟩=some (.int .i64 0):=o.cell 0;have ag:i.cell? ⟨w.heap.size+1,1,none⟩=some (.int .i64 0):=o.cell 1;have ah:=fun j=>o.frozen j)
  all_goals
   have ai:=(((n.set 0 (.slice b N.length c)).set 1 (.slice f L.length cs)).setFar (p:=⟨w.heap.size+1,0,none⟩) M (.int .i64 k)).setFar (p:=⟨w.heap.size+1,1,none⟩) M (.int .i64 at_);have aj:=(((o.setFar (p:=⟨w.heap.size,0,none⟩) P (.slice b N.length c)).setFar (p:=⟨w.heap.size,1,none⟩) P (.slice f L.length cs)).set 0 (.int .i64 k)).set 1 (.int .i64 at_);have E:=(m.trans (u.mono m.size)).trans (v.mono (zL m.size u.size));have ak:=E.trans (l.mono E.size);have al:=(((ak.setCell (p:=⟨w.heap.size,0,none⟩) NLN (.slice b N.length c)).setCell (p:=⟨w.heap.size,1,none⟩) NLN (.slice f L.length cs)).setCell (p:=⟨w.heap.size+1,0,none⟩) (z5 _) (.int .i64 k)).setCell (p:=⟨w.heap.size+1,1,none⟩) (z5 _) (.int .i64 at_);have s:∀ q,B.heap.size≤q→q < a.heap.size→((((i.setCell ⟨w.heap.size,0,none⟩ (.slice b N.length c)).setCell ⟨w.heap.size,1,none⟩ (.slice f L.length cs)).setCell ⟨w.heap.size+1,0,none⟩ (.int .i64 k)).setCell ⟨w.heap.size+1,1,none⟩ (.int .i64 at_)).heap[q]? =a.heap[q]? :=fun q h1 h2=>by
    have aN:=Aa T;have F:q≠w.heap.size:=by omega
    have H:q≠w.heap.size+1:=by omega
    rw[heap_setCell_other _ _ q _ H,heap_setCell_other _ _ q _ H,heap_setCell_other _ _ q _ F,heap_setCell_other _ _ q _ F,l.block q (zY h2 v.size),v.block q h2]
   have ao:=(Aa aA).blocks s;have ap:=Ac (Aa y) (fun q hq=>s q ((Aa y).lt q hq).1 ((Aa y).lt q hq).2);have aq:=Ac (Aa z) (fun q hq=>s q ((Aa z).lt q hq).1 ((Aa z).lt q hq).2);clear aa ab ac ad ae af ag ah W X s;generalize (((i.setCell ⟨w.heap.size,0,none⟩ (.slice b N.length c)).setCell ⟨w.heap.size,1,none⟩ (.slice f L.length cs)).setCell ⟨w.heap.size+1,0,none⟩ (.int .i64 k)).setCell ⟨w.heap.size+1,1,none⟩ (.int .i64 at_)=aO at *;go_wp2_with fail
   have hl:w.heap.size≤B.heap.size:=m.size;exact bodyPost_ret (G5 Tryz.results6 rfl rfl rfl ai aj) rfl ⟨⟨_,_,aw,ax,_,rfl,ao.low hl,Cz ap hl,Cz aq hl,ay⟩,al⟩
 ·go_wp2_with fail
  generalize V:a.alloc (.cells #[.slice b N.length c,.slice f L.length cs] 27)=g at *;clear V;have W:g.cell? ⟨a.heap.size,0,none⟩=some (.slice b N.length c):=A.cell 0;have X:g.cell? ⟨a.heap.size,1,none⟩=some (.slice f L.length cs):=A.cell 1;have Y:Below g.heap.size g g.drew:=BRN.drew;go_region_law (refine Jd rfl 18 _ Tryz.func18 aB aC _ _ rfl (.iface aK aL) rfl (fun Z w'=>Z= .agg #[.int .i64 k,.int .i64 at_]∧Below g.heap.size g w') ((Aa az g.drew v.drew).mono (fun r w' h=>⟨_,h.1,rfl,Y.trans h.2⟩)) ?_;rintro aM i ⟨rfl,l⟩;have C:=A.after l NLN;have n:=aD.after l NLN;have o:=aE.after l NLN;have aa:i.cell? ⟨a.heap.size,0,none⟩=some (.slice b N.length c):=C.cell 0;have ab:i.cell? ⟨a.heap.size,1,none⟩=some (.slice f L.length cs):=C.cell 1;have ac:i.cell? ⟨w.heap.size,0,none⟩=some (.slice none 0 0):=n.cell 0;have ad:i.cell? ⟨w.heap.size,1,none⟩=some (.slice none 0 0):=n.cell 1;have ae:=fun j=>n.frozen j;have af:i.cell? ⟨w.heap.size+1,0,none⟩=some (.int .i64 0):=o.cell 0;have ag:i.cell? ⟨w.heap.size+1,1,none⟩=some (.int .i64 0):=o.cell 1;have ah:=fun j=>o.frozen j)
  all_goals
   have ai:=(((n.set 0 (.slice b N.length c)).set 1 (.slice f L.length cs)).setFar (p:=⟨w.heap.size+1,0,none⟩) M (.int .i64 k)).setFar (p:=⟨w.heap.size+1,1,none⟩) M (.int .i64 at_);have aj:=(((o.setFar (p:=⟨w.heap.size,0,none⟩) P (.slice b N.length c)).setFar (p:=⟨w.heap.size,1,none⟩) P (.slice f L.length cs)).set 0 (.int .i64 k)).set 1 (.int .i64 at_);have E:=(m.trans (u.mono m.size)).trans (v.mono (zL m.size u.size));have ak:=E.trans (l.mono E.size);have al:=(((ak.setCell (p:=⟨w.heap.size,0,none⟩) NLN (.slice b N.length c)).setCell (p:=⟨w.heap.size,1,none⟩) NLN (.slice f L.length cs)).setCell (p:=⟨w.heap.size+1,0,none⟩) (z5 _) (.int .i64 k)).setCell (p:=⟨w.heap.size+1,1,none⟩) (z5 _) (.int .i64 at_);have s:∀ q,B.heap.size≤q→q < a.heap.size→((((i.setCell ⟨w.heap.size,0,none⟩ (.slice b N.length c)).setCell ⟨w.heap.size,1,none⟩ (.slice f L.length cs)).setCell ⟨w.heap.size+1,0,none⟩ (.int .i64 k)).setCell ⟨w.heap.size+1,1,none⟩ (.int .i64 at_)).heap[q]? =a.heap[q]? :=fun q h1 h2=>by
    have aN:=Aa T;have F:q≠w.heap.size:=by omega
    have H:q≠w.heap.size+1:=by omega
    rw[heap_setCell_other _ _ q _ H,heap_setCell_other _ _ q _ H,heap_setCell_other _ _ q _ F,heap_setCell_other _ _ q _ F,l.block q (zY h2 v.size),v.block q h2]
   have ao:=(Aa aA).blocks s;have ap:=Ac (Aa y) (fun q hq=>s q ((Aa y).lt q hq).1 ((Aa y).lt q hq).2);have aq:=Ac (Aa z) (fun q hq=>s q ((Aa z).lt q hq).1 ((Aa z).lt q hq).2);clear aa ab ac ad ae af ag ah W X s;generalize (((i.setCell ⟨w.heap.size,0,none⟩ (.slice b N.length c)).setCell ⟨w.heap.size,1,none⟩ (.slice f L.length cs)).setCell ⟨w.heap.size+1,0,none⟩ (.int .i64 k)).setCell ⟨w.heap.size+1,1,none⟩ (.int .i64 at_)=aO at *;go_wp2_with fail
   have hl:w.heap.size≤B.heap.size:=m.size;exact bodyPost_ret (G5 Tryz.results6 rfl rfl rfl ai aj) rfl ⟨⟨_,_,aw,ax,_,rfl,ao.low hl,Cz ap hl,Cz aq hl,ay⟩,al⟩
end Go.Proofs.YtffkofkjpckmpaaGreatDoor
