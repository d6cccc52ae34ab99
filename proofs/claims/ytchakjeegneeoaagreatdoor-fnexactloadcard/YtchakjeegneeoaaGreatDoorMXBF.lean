/-
  ECN, GJ, GR, GS. Own work.
-/
import Derived.Test.YtchakjeegneeoaaGreatDoorMXAE
import Derived.Test.YtchakjeegneeoaaGreatDoorMXAV
import Derived.Deep.RegionHeld3
import Derived.Test.YtchakjeegneeoaaGreatDoorMXBP
import Derived.Test.YtchakjeegneeoaaGreatDoorMXBG
import Derived.Test.YtchakjeegneeoaaGreatDoorMXBQ
namespace Go.Proofs.YtchakjeegneeoaaGreatDoor
set_option maxHeartbeats 4000000
open Go.RowKit Go.Extern.Stop Go.Stop Go.Extern
set_option linter.unusedVariables false
structure Y6 (w:World) (aX a1 a2 a3 a4 a5 a6 a7 a8 a9:Addr):Prop where
 g1:w.cell? ⟨1,0,none⟩=some (.iface 276 (.pointer (some a1)))
 g2:w.cell? ⟨5,0,none⟩=some (.iface 276 (.pointer (some a2)))
 g3:w.cell? ⟨6,0,none⟩=some (.iface 276 (.pointer (some a3)))
 g4:w.cell? ⟨7,0,none⟩=some (.iface 276 (.pointer (some a4)))
 g5:w.cell? ⟨2,0,none⟩=some (.iface 276 (.pointer (some a5)))
 g6:w.cell? ⟨3,0,none⟩=some (.iface 276 (.pointer (some a6)))
 g7:w.cell? ⟨8,0,none⟩=some (.iface 276 (.pointer (some a7)))
 g8:w.cell? ⟨9,0,none⟩=some (.iface 276 (.pointer (some a8)))
 g9:w.cell? ⟨10,0,none⟩=some (.iface 276 (.pointer (some a9)))
 gX:w.cell? ⟨0,0,none⟩=some (.iface 276 (.pointer (some aX)))
 gE:w.cell? ⟨4,0,none⟩=some (.iface 193 (.agg #[.pointer (some ⟨20,72,none⟩)]))
 big: 20≤w.heap.size
 rows:∀ a∈ [a1,a2,a3,a4,a5,a6,a7,a8,a9],∃ c t,w.heap[a.block]? =some (.cells c t (0,0))
 nd:([a1,a2,a3,a4,a5,a6,a7,a8,a9]:List Addr).Nodup
variable {aX a1 a2 a3 a4 a5 a6 a7 a8 a9 : Addr}
theorem Y6.below {w w':World}{B:Nat}(h:Y6 w aX a1 a2 a3 a4 a5 a6 a7 a8 a9)(b:Below B w w')(hB:w.heap.size≤B):Y6 w' aX a1 a2 a3 a4 a5 a6 a7 a8 a9 where
 g1:=(b.cell (p:=⟨1,0,none⟩) (by have:=h.big;show 1 < B;omega)).trans h.g1
 g2:=(b.cell (p:=⟨5,0,none⟩) (by have:=h.big;show 5 < B;omega)).trans h.g2
 g3:=(b.cell (p:=⟨6,0,none⟩) (by have:=h.big;show 6 < B;omega)).trans h.g3
 g4:=(b.cell (p:=⟨7,0,none⟩) (by have:=h.big;show 7 < B;omega)).trans h.g4
 g5:=(b.cell (p:=⟨2,0,none⟩) (by have:=h.big;show 2 < B;omega)).trans h.g5
 g6:=(b.cell (p:=⟨3,0,none⟩) (by have:=h.big;show 3 < B;omega)).trans h.g6
 g7:=(b.cell (p:=⟨8,0,none⟩) (by have:=h.big;show 8 < B;omega)).trans h.g7
 g8:=(b.cell (p:=⟨9,0,none⟩) (by have:=h.big;show 9 < B;omega)).trans h.g8
 g9:=(b.cell (p:=⟨10,0,none⟩) (by have:=h.big;show 10 < B;omega)).trans h.g9
 gX:=(b.cell (p:=⟨0,0,none⟩) (by have:=h.big;show 0 < B;omega)).trans h.gX
 gE:=(b.cell (p:=⟨4,0,none⟩) (by have:=h.big;show 4 < B;omega)).trans h.gE
 big:=zD h.big b.size
 rows:=fun a c=>Wv.below (h.rows a c) b hB
 nd:=h.nd
theorem U9 (c:Int)(w:World)(hs:Y6 w aX a1 a2 a3 a4 a5 a6 a7 a8 a9)(hc: 7≤c∧c≤9):
  Calls Tryz.prog 57 #[.iface 276 (.pointer (some (cad a9 a7 a8 c)))] w fun e w'=>e= .returned (.int .i64 c)∧w'=w:=by
 have h:c=7∨c=8∨c=9:=by omega
 obtain ⟨h1,h2,h3,h4,h5,h6,h7,h8,h9,-,-,-,rows,nd⟩:=hs;have b:=Ab nd;have a:=Ab rows;clear nd rows hc;rcases h with rfl | rfl | rfl
 all_goals
  simp only[cad,if_true,if_false,show (8 :Int)≠7 from by decide,show (9 :Int)≠7 from by decide,show (9 :Int)≠8 from by decide];go_enter Tryz.func57,Tryz.ntmps57
  repeat (go_wp2_with fail;refine (KU (by have:=Aa b;simp at this;grind) (by exact Aa a _ (by simp)) (by exact Aa a _ (by simp))).mono ?_;rintro e w' ⟨rfl,rfl⟩)
  go_wp2_with fail
  refine (QN _ _).mono ?_;rintro e w' ⟨rfl,rfl⟩;go_wp2_with fail
  go_ret
  exact ⟨rfl,rfl⟩
theorem Va (b:Nat)(f:Int × Int)(w:World)(hs:Y6 w aX a1 a2 a3 a4 a5 a6 a7 a8 a9)(a:ErO a9 a7 a8 f b w)(hc: 7≤f.1∧f.1≤9):
  Calls Tryz.prog 35 #[.iface 107 (.pointer (some ⟨b,0,none⟩))] w fun e w'=>e= .returned (.agg #[.int .i64 f.1,.int .i64 f.2])∧Below w.heap.size w w':=
 Ic b f.2 f.1 _ w hs.gE (by have:=hs.big;omega) a fun W h=>U9 f.1 W (hs.below h NLN) hc
theorem Ns (w:World):(ReflectliteType.relation "AssignableTo" ReflectliteType.assignableTo #[.agg #[.pointer (some ⟨20,276,none⟩)],.iface 193 (.agg #[.pointer (some ⟨20,107,none⟩)])]).run Tryz.prog w= .ok (.bool false) w:=by kernel_rfl
theorem Aec (v:Value)(a:TypeId)(w:World):(Instr.typeAssert (.iface 276 v) a 198 true).run Tryz.prog w= .ok (.tuple #[.nilIface,.bool false]) w:=run_typeAssert_lacksB Tryz.underlying198 (by kernel_rfl) (by kernel_rfl) v a w
theorem AbA (e t:Addr)(b:Value)(w:World)(a:w.cell? ⟨4,0,none⟩=some (.iface 193 (.agg #[.pointer (some ⟨20,72,none⟩)])))(c:w.cell? t=some b)(g:w.frozen? t=false):
  Calls Tryz.prog 56 #[.iface 276 (.pointer (some e)),.iface 109 (.pointer (some t))] w fun ev w'=>ev= .returned (.bool false)∧Below w.heap.size w w':=by
 have h6:=@run_callFunc_extern Tryz.prog 89 _ (fun args=>ReflectliteValue.unpack (args.getD 0 (.tuple #[]))) Tryz.func89 (by kernel_rfl) (by kernel_rfl) (by kernel_rfl) (by kernel_rfl);have h7:=@run_callFunc_extern Tryz.prog 90 _ (ReflectliteValue.methodAny (ReflectliteValue.valueError "reflectlite.Value.Type" 0) (fun t _ _ _=>ReflectliteType.toType t)) Tryz.func90 (by kernel_rfl) (by kernel_rfl) (by kernel_rfl) (by kernel_rfl);have h8:=@run_callFunc_extern Tryz.prog 91 _ (ReflectliteValue.method (ReflectliteValue.valueError "reflectlite.Value.IsNil" 0) ReflectliteValue.isNil) Tryz.func91 (by kernel_rfl) (by kernel_rfl) (by kernel_rfl) (by kernel_rfl);have i:=@run_callFunc_extern Tryz.prog 234 _ (ReflectliteType.abiMethod fun t=>do pure (.int .u8 (← Rtype.kind t))) Tryz.func234 (by kernel_rfl) (by kernel_rfl) (by kernel_rfl) (by kernel_rfl);have j:=@run_callFunc_extern Tryz.prog 247 _ (ReflectliteType.method ReflectliteType.elem) Tryz.func247 (by kernel_rfl) (by kernel_rfl) (by kernel_rfl) (by kernel_rfl);have k:=@run_callFunc_extern Tryz.prog 248 _ (ReflectliteType.relation "Implements" ReflectliteType.implements_) Tryz.func248 (by kernel_rfl) (by kernel_rfl) (by kernel_rfl) (by kernel_rfl);have h10:=@run_callFunc_extern Tryz.prog 119 _ ReflectliteType.typeOf Tryz.func119 (by kernel_rfl) (by kernel_rfl) (by kernel_rfl) (by kernel_rfl);have l:=@run_callFunc_extern Tryz.prog 245 _ (ReflectliteType.relation "AssignableTo" ReflectliteType.assignableTo) Tryz.func245 (by kernel_rfl) (by kernel_rfl) (by kernel_rfl) (by kernel_rfl);have h11:=@run_callFunc_extern Tryz.prog 120 _ (ReflectliteValue.method (ReflectliteValue.valueError "reflectlite.Value.Elem" 0) ReflectliteValue.elem) Tryz.func120 (by kernel_rfl) (by kernel_rfl) (by kernel_rfl) (by kernel_rfl);have h12:=@run_callFunc_extern Tryz.prog 121 _ ReflectliteValue.set Tryz.func121 (by kernel_rfl) (by kernel_rfl) (by kernel_rfl) (by kernel_rfl);have m:=Nt;have n:=Eu;have o:=Ns;have p:=Aec;have q:=PP;have r:=Nu;have s:=JP;have u:=PJ;have v:=Jh;have x:=Ji;have y:=E7;have z:=PK;have A:=PL;have B:=PM;have C:=G5;have E:=MZ ⟨w.heap.size,0,none⟩ t ((w.alloc (.cells #[.pointer (some t)] 109)).alloc (.cells #[.pointer (some ⟨20,109,none⟩),.pointer (some ⟨w.heap.size,0,none⟩),.int .u64 150] 152)) (by simp);have d: 4 < w.heap.size:=by
  rcases Nat.lt_or_ge 4 w.heap.size with h | h
  ·exact h
  ·simp[World.cell?,Array.getElem?_eq_none h] at a
 have F:((w.alloc (.cells #[.pointer (some t)] 109)).alloc (.cells #[.pointer (some ⟨20,109,none⟩),.pointer (some ⟨w.heap.size,0,none⟩),.int .u64 150] 152)).cell? ⟨4,0,none⟩=some (.iface 193 (.agg #[.pointer (some ⟨20,72,none⟩)])):=by
  rw[World.cell?_alloc_lt _ _ ⟨4,0,none⟩ (by simp;omega),World.cell?_alloc_lt _ _ ⟨4,0,none⟩ d];exact a
 have H:t.block < w.heap.size:=by
  rcases Nat.lt_or_ge t.block w.heap.size with h | h
  ·exact h
  ·simp[World.cell?,Array.getElem?_eq_none h] at c
 have f:=(((Below.refl w.heap.size w).alloc NLN (.cells #[.pointer (some t)] 109)).alloc (by simp) (.cells #[.pointer (some ⟨20,109,none⟩),.pointer (some ⟨w.heap.size,0,none⟩),.int .u64 150] 152)).alloc (by simp;omega) (.cells #[.pointer (some ⟨20,109,none⟩),.pointer (some ⟨w.heap.size,0,none⟩),.int .u64 150] 152);go_enter Tryz.func56,Tryz.ntmps56
 go_wp2
 refine wp_loop_rounds 1 ?_;rw[rounds_succ];go_wp2
 go_ret
 exact ⟨rfl,f⟩
theorem QO (d:Addr)(w:World)(hs:Y6 w d a1 a2 a3 a4 a5 a6 a7 a8 a9):
  Calls Tryz.prog 35 #[.iface 276 (.pointer (some d))] w fun e w'=>e= .returned (.agg #[.int .i64 10,.int .i64 0])∧Below w.heap.size w w':=by
 have a:=((Below.refl w.heap.size w).alloc NLN (.cells #[.int .i64 0,.int .i64 0] 28)).alloc (by simp) (.cells #[.pointer none] 107);have f:=(Al.new w #[.int .i64 0,.int .i64 0] 28).alloc (.cells #[.pointer none] 107);have b:=Al.new (w.alloc (.cells #[.int .i64 0,.int .i64 0] 28)) #[.pointer none] 107;have S0:=Ab (hs.below a NLN).gE;simp only[World.size_alloc] at b;clear hs;go_enter Tryz.func35,Tryz.ntmps35
 go_wp2_with fail
 generalize (w.alloc (.cells #[.int .i64 0,.int .i64 0] 28)).alloc (.cells #[.pointer none] 107)=W at *;have g:=b.cell 0;refine (AbA d ⟨w.heap.size+1,0,none⟩ (.pointer none) W (Aa S0) (by simpa using g) (b.frozen 0)).mono ?_;rintro e h ⟨rfl,i⟩;have l:=a.trans (i.mono a.size);have c:=f.after i NLN;have n:=fun k=>c.frozen k;have o:h.cell? ⟨w.heap.size,0,none⟩=some (.int .i64 0):=c.cell 0;have q:h.cell? ⟨w.heap.size,1,none⟩=some (.int .i64 0):=c.cell 1;clear a f b S0 g;go_wp2_with fail
 have j:=(c.set 0 (.int .i64 10)).set 1 (.int .i64 0);have m:=(l.setCell (p:=⟨w.heap.size,0,none⟩) NLN (.int .i64 10)).setCell (p:=⟨w.heap.size,1,none⟩) NLN (.int .i64 0);have g0:_=some (Value.int .i64 10):=j.cell 0;have g1:_=some (Value.int .i64 0):=j.cell 1;exact bodyPost_ret (KV Tryz.results35 rfl g0 g1) rfl ⟨rfl,m⟩
end Go.Proofs.YtchakjeegneeoaaGreatDoor
namespace Go.Proofs.YtchakjeegneeoaaGreatDoor
set_option maxRecDepth 100000
set_option maxHeartbeats 1600000
open Go.RowKit
set_option linter.unusedVariables false
variable {aY : Addr} {pb g c : Nat} {T : List Af} {tl : Nat}
theorem ZU (k:Nat)(ts:List Af)(x:PR)(d:D (.opd k) ts x)(b:∀ nt x,D nt ts x→nt.good→nt.rank < (NT.opd k).rank→CS aY pb g c T tl nt ts x):CS aY pb g c T tl (.opd k) ts x:=by
 intro w l h f;show Calls Tryz.prog 175 #[.pointer (some ⟨pb,0,none⟩),.int .i64 (k:Int)] w (Gd aY pb g c T tl x w);cases d
 case opd1 d=>
  have i:=Ab (b _ _ d (.inr (.inl rfl)) (by decide) w l h f);clear h f b;go_enter Tryz.func175,Tryz.ntmps175
  go_wp2_with fail
  refine (Aa i).mono ?_;intro r m a;obtain ⟨v,e,rfl,n,he⟩:=a.form;have j:=Ab a;clear a;dsimp only;go_wp2_with fail
  go_ret2
  exact Aa j
 case opd2 d=>
  have i:=Ab (b _ _ d trivial (by decide) w l h f);clear h f b;go_enter Tryz.func175,Tryz.ntmps175
  go_wp2_with fail
  refine (Aa i).mono ?_;intro r m a;obtain ⟨v,e,rfl,n,he⟩:=a.form;have j:=Ab a;clear a;dsimp only;go_wp2_with fail
  go_ret2
  exact Aa j
 case opd4 d=>
  have i:=Ab (b _ _ d (.inr (.inr (.inl rfl))) (by decide) w l h f);clear h f b;go_enter Tryz.func175,Tryz.ntmps175
  go_wp2_with fail
  refine (Aa i).mono ?_;intro r m a;obtain ⟨v,e,rfl,n,he⟩:=a.form;have j:=Ab a;clear a;dsimp only;go_wp2_with fail
  go_ret2
  exact Aa j
 case opd5 d=>
  have i:=Ab (b _ _ d (.inr (.inr (.inr rfl))) (by decide) w l h f);clear h f b;go_enter Tryz.func175,Tryz.ntmps175
  go_wp2_with fail
  refine (Aa i).mono ?_;intro r m a;obtain ⟨v,e,rfl,n,he⟩:=a.form;have j:=Ab a;clear a;dsimp only;go_wp2_with fail
  go_ret2
  exact Aa j
 case opd6 d=>
  have i:=Ab (b _ _ d trivial (by decide) w l h f);clear h f b;go_enter Tryz.func175,Tryz.ntmps175
  go_wp2_with fail
  refine (Aa i).mono ?_;intro r m a;obtain ⟨v,e,rfl,n,he⟩:=a.form;have j:=Ab a;clear a;dsimp only;go_wp2_with fail
  go_ret2
  exact Aa j
def PR.pre (i:Nat) (op:Int):PR→PR
 | .ok e q=> .ok (.un i op e) q
 | .bad q=> .bad q
theorem Rg (hp: 20≤pb)(op:Int)(t:Af)(r:List Af)(x:PR)(w:World)(k:Nat)(h:Pp w pb g c T tl (t ::r) k)(f:Gy w aY)(i:CS aY pb g c T tl .neg r x):
  Calls Tryz.prog 182 #[.pointer (some ⟨pb,0,none⟩),.int .i64 op,.func (.func 179) #[.pointer (some ⟨pb,0,none⟩)] #[]] w (Gd aY pb g c T tl (x.pre t.at_ op) w):=by
 have o:=Ab (BZ h);have s:Hid (∀ w' a,Pp w' pb g c T tl r a→Gy w' aY→Calls Tryz.prog 179 #[.pointer (some ⟨pb,0,none⟩)] w' (Gd aY pb g c T tl x w')):=Ab (fun w' a u=>i w' a u);have y:=Ab f;have H:=CW (.int .i64 t.kind) (.int .i64 t.num) (.string t.text) (.int .i64 (t.at_:Int));clear h f i;go_enter Tryz.func182,Tryz.ntmps182
 go_wp2_with fail
 refine (Aa o).mono ?_;rintro e z ⟨rfl,j,T1⟩;dsimp only[Dq];go_wp2_with fail
 refine (Aa s z _ j ((Aa y).touch T1 hp)).mono ?_;clear j;intro I w2 l;cases x with
 |bad q=>
  obtain ⟨⟨v,b,rfl,A,B⟩,d⟩:=l;rcases A with rfl | ⟨J,K,rfl⟩
  all_goals
   dsimp only[Ci];go_wp2_with fail
   go_ret2
   exact ⟨⟨.nilIface,b,rfl,.inl rfl,B⟩,T1.trans d⟩
 |ok p q=>
  obtain ⟨⟨e,C,rfl,he,m,E⟩,d⟩:=l;obtain ⟨L,M,hf⟩:=e.form;have n:=Ab (And.intro he m);rw[hf];have F:=Ab hf;clear he m hf;dsimp only;go_wp2_with fail
  go_ret2
  exact ⟨⟨.un t.at_ op e,C,by rw[Ex.val,Aa F];rfl,⟨rfl,rfl,(Aa n).1⟩,(Aa n).2,E⟩,T1.trans d⟩
theorem Rh (hp: 20≤pb)(op:Int)(t:Af)(r:List Af)(x:PR)(w:World)(k:Nat)(h:Pp w pb g c T tl (t ::r) k)(f:Gy w aY)(i:CS aY pb g c T tl .una r x):
  Calls Tryz.prog 182 #[.pointer (some ⟨pb,0,none⟩),.int .i64 op,.func (.func 180) #[.pointer (some ⟨pb,0,none⟩)] #[]] w (Gd aY pb g c T tl (x.pre t.at_ op) w):=by
 have o:=Ab (BZ h);have s:Hid (∀ w' a,Pp w' pb g c T tl r a→Gy w' aY→Calls Tryz.prog 180 #[.pointer (some ⟨pb,0,none⟩)] w' (Gd aY pb g c T tl x w')):=Ab (fun w' a u=>i w' a u);have y:=Ab f;have H:=CW (.int .i64 t.kind) (.int .i64 t.num) (.string t.text) (.int .i64 (t.at_:Int));clear h f i;go_enter Tryz.func182,Tryz.ntmps182
 go_wp2_with fail
 refine (Aa o).mono ?_;rintro e z ⟨rfl,j,T1⟩;dsimp only[Dq];go_wp2_with fail
 refine (Aa s z _ j ((Aa y).touch T1 hp)).mono ?_;clear j;intro I w2 l;cases x with
 |bad q=>
  obtain ⟨⟨v,b,rfl,A,B⟩,d⟩:=l;rcases A with rfl | ⟨J,K,rfl⟩
  all_goals
   dsimp only[Ci];go_wp2_with fail
   go_ret2
   exact ⟨⟨.nilIface,b,rfl,.inl rfl,B⟩,T1.trans d⟩
 |ok p q=>
  obtain ⟨⟨e,C,rfl,he,m,E⟩,d⟩:=l;obtain ⟨L,M,hf⟩:=e.form;have n:=Ab (And.intro he m);rw[hf];have F:=Ab hf;clear he m hf;dsimp only;go_wp2_with fail
  go_ret2
  exact ⟨⟨.un t.at_ op e,C,by rw[Ex.val,Aa F];rfl,⟨rfl,rfl,(Aa n).1⟩,(Aa n).2,E⟩,T1.trans d⟩
theorem Po (hp: 20≤pb)(op:Int)(t:Af)(r:List Af)(x:PR)(w:World)(k:Nat)(h:Pp w pb g c T tl (t ::r) k)(f:Gy w aY)(i:CS aY pb g c T tl .encl r x):
  Calls Tryz.prog 182 #[.pointer (some ⟨pb,0,none⟩),.int .i64 op,.func (.func 189) #[.pointer (some ⟨pb,0,none⟩)] #[]] w (Gd aY pb g c T tl (x.pre t.at_ op) w):=by
 have o:=Ab (BZ h);have s:Hid (∀ w' a,Pp w' pb g c T tl r a→Gy w' aY→Calls Tryz.prog 189 #[.pointer (some ⟨pb,0,none⟩)] w' (Gd aY pb g c T tl x w')):=Ab (fun w' a u=>i w' a u);have y:=Ab f;have H:=CW (.int .i64 t.kind) (.int .i64 t.num) (.string t.text) (.int .i64 (t.at_:Int));clear h f i;go_enter Tryz.func182,Tryz.ntmps182
 go_wp2_with fail
 refine (Aa o).mono ?_;rintro e z ⟨rfl,j,T1⟩;dsimp only[Dq];go_wp2_with fail
 refine (Aa s z _ j ((Aa y).touch T1 hp)).mono ?_;clear j;intro I w2 l;cases x with
 |bad q=>
  obtain ⟨⟨v,b,rfl,A,B⟩,d⟩:=l;rcases A with rfl | ⟨J,K,rfl⟩
  all_goals
   dsimp only[Ci];go_wp2_with fail
   go_ret2
   exact ⟨⟨.nilIface,b,rfl,.inl rfl,B⟩,T1.trans d⟩
 |ok p q=>
  obtain ⟨⟨e,C,rfl,he,m,E⟩,d⟩:=l;obtain ⟨L,M,hf⟩:=e.form;have n:=Ab (And.intro he m);rw[hf];have F:=Ab hf;clear he m hf;dsimp only;go_wp2_with fail
  go_ret2
  exact ⟨⟨.un t.at_ op e,C,by rw[Ex.val,Aa F];rfl,⟨rfl,rfl,(Aa n).1⟩,(Aa n).2,E⟩,T1.trans d⟩
theorem ZV (hp: 20≤pb)(ts:List Af)(x:PR)(d:D .neg ts x)(i:∀ x,D .cmp ts x→CS aY pb g c T tl .cmp ts x)(j:∀ r x,D .neg r x→r.length < ts.length→CS aY pb g c T tl .neg r x):CS aY pb g c T tl .neg ts x:=by
 intro w o h f;show Calls Tryz.prog 179 #[.pointer (some ⟨pb,0,none⟩)] w (Gd aY pb g c T tl x w);have p:=Ab (AQ h E3);have s:(AM E3 ts=false∧D .cmp ts x)∨(∃ t r y,ts=t ::r∧see E3 t=true∧D .neg r y∧x=y.pre t.at_ 9):=by
  cases d
  case neg_no hs d=>exact .inl ⟨hs,d⟩
  case neg_bad t r q hs d=>exact .inr ⟨t,r,.bad q,rfl,hs,d,rfl⟩
  case neg t r q e hs d=>exact .inr ⟨t,r,.ok e q,rfl,hs,d,rfl⟩
 clear d;rcases s with ⟨hs,d⟩ | ⟨t,r,y,rfl,hs,d,rfl⟩
 ·have k:=Ab hs;have l:=Ab (fun w' (a:Below w.heap.size w w')=>i _ d w' o (h.below a) (f.below a));clear h f i j hs d;go_enter Tryz.func179,Tryz.ntmps179
  go_wp2_with fail
  refine (Aa p).mono ?_;rintro e m ⟨rfl,a⟩;rw[Aa k];dsimp only;go_wp2_with fail
  refine (Aa l m a).mono ?_;intro r w2 b;obtain ⟨v,e,rfl,u,he⟩:=b.form;have n:=Ab (b.from (Aj.of_below a NLN));clear b;dsimp only;go_wp2_with fail
  go_ret2
  exact Aa n
 ·have k:=Ab (show AM E3 (t ::r)=true from hs);have l:=Ab (fun w' (a:Below w.heap.size w w')=>Rg hp 9 t r y w' o (h.below a) (f.below a) (j r y d (by simp)));clear h f i j hs d;go_enter Tryz.func179,Tryz.ntmps179
  go_wp2_with fail
  refine (Aa p).mono ?_;rintro e m ⟨rfl,a⟩;rw[Aa k];dsimp only;go_wp2_with fail
  refine (Aa l m a).mono ?_;intro r w2 b;obtain ⟨v,e,rfl,u,he⟩:=b.form;have n:=Ab (b.from (Aj.of_below a NLN));clear b;dsimp only;go_wp2_with fail
  go_ret2
  exact Aa n
theorem ZW (hp: 20≤pb)(ts:List Af)(x:PR)(d:D .una ts x)(i:∀ x,D .prim ts x→CS aY pb g c T tl .prim ts x)(j:∀ r x,D .una r x→r.length < ts.length→CS aY pb g c T tl .una r x):CS aY pb g c T tl .una ts x:=by
 intro w o h f;show Calls Tryz.prog 180 #[.pointer (some ⟨pb,0,none⟩)] w (Gd aY pb g c T tl x w);have p:=Ab (AQ h Bi);have s:(AM Bi ts=false∧D .prim ts x)∨(∃ t r y,ts=t ::r∧see Bi t=true∧D .una r y∧x=y.pre t.at_ 8):=by
  cases d
  case una_no hs d=>exact .inl ⟨hs,d⟩
  case una_bad t r q hs d=>exact .inr ⟨t,r,.bad q,rfl,hs,d,rfl⟩
  case una t r q e hs d=>exact .inr ⟨t,r,.ok e q,rfl,hs,d,rfl⟩
 clear d;rcases s with ⟨hs,d⟩ | ⟨t,r,y,rfl,hs,d,rfl⟩
 ·have k:=Ab hs;have l:=Ab (fun w' (a:Below w.heap.size w w')=>i _ d w' o (h.below a) (f.below a));clear h f i j hs d;go_enter Tryz.func180,Tryz.ntmps180
  go_wp2_with fail
  refine (Aa p).mono ?_;rintro e m ⟨rfl,a⟩;rw[Aa k];dsimp only;go_wp2_with fail
  refine (Aa l m a).mono ?_;intro r w2 b;obtain ⟨v,e,rfl,u,he⟩:=b.form;have n:=Ab (b.from (Aj.of_below a NLN));clear b;dsimp only;go_wp2_with fail
  go_ret2
  exact Aa n
 ·have k:=Ab (show AM Bi (t ::r)=true from hs);have l:=Ab (fun w' (a:Below w.heap.size w w')=>Rh hp 8 t r y w' o (h.below a) (f.below a) (j r y d (by simp)));clear h f i j hs d;go_enter Tryz.func180,Tryz.ntmps180
  go_wp2_with fail
  refine (Aa p).mono ?_;rintro e m ⟨rfl,a⟩;rw[Aa k];dsimp only;go_wp2_with fail
  refine (Aa l m a).mono ?_;intro r w2 b;obtain ⟨v,e,rfl,u,he⟩:=b.form;have n:=Ab (b.from (Aj.of_below a NLN));clear b;dsimp only;go_wp2_with fail
  go_ret2
  exact Aa n
end Go.Proofs.YtchakjeegneeoaaGreatDoor
namespace Go.Proofs.YtchakjeegneeoaaGreatDoor
set_option maxRecDepth 100000
set_option maxHeartbeats 1600000
open Go.RowKit
set_option linter.unusedVariables false
variable {aY : Addr} {pb g c : Nat} {T : List Af} {tl : Nat}
theorem Li (t:Af)(r:List Af)(y:PR)(h4:t.kind=1∧y= .ok (.int t.at_ t.num) r∨t.kind=2∧y= .ok (.text t.at_ t.text) r∨t.kind=3∧y= .ok (.name t.at_ t.text) r):CS aY pb g c T tl .prim (t ::r) y:=by
 intro w k h i;show Calls Tryz.prog 184 #[.pointer (some ⟨pb,0,none⟩)] w (Gd aY pb g c T tl y w);have m:=Ab (BK h);have j:=Ab h;have p:=Ab i;clear h i;rcases h4 with ⟨hk,rfl⟩ | ⟨hk,rfl⟩ | ⟨hk,rfl⟩
 case' inl=>have e1:(t.kind== 1)=true:=zN.2 hk
 case' inr.inl=>have e2:(t.kind== 2)=true:=zN.2 hk
 case' inr.inr=>
  have e3:(t.kind== 3)=true:=zN.2 hk;have e2:(t.kind== 2)=false:=zB.2 (by omega)
 all_goals
  try have e1:(t.kind== 1)=false:=zB.2 (by omega)
  clear hk;go_enter Tryz.func184,Tryz.ntmps184
  go_wp2_with fail
  refine (Aa m).mono ?_;rintro e l ⟨rfl,d⟩;dsimp only[Dq,DV];have a:=d.alloc d.size (.cells #[.int .i64 t.kind,.int .i64 t.num,.string t.text,.int .i64 (t.at_:Int)] 51);have n:=Al.new l #[.int .i64 t.kind,.int .i64 t.num,.string t.text,.int .i64 (t.at_:Int)] 51;have nz:=(Aa j).row.lt;have q:=d.size;go_wp2_with fail
  generalize l.alloc (.cells #[.int .i64 t.kind,.int .i64 t.num,.string t.text,.int .i64 (t.at_:Int)] 51)=W at *;have o:=Ab (BZ ((Aa j).below a));refine (Aa o).mono ?_;rintro e s ⟨rfl,f,b⟩;obtain ⟨c0,c1,c2,c3,u⟩:=AX (n.touchP b (.inr (by omega)));dsimp only[Dq];go_wp2_with fail
  go_ret2
  first | exact ⟨⟨.int t.at_ t.num,_,rfl,⟨rfl,rfl⟩,trivial,f⟩,(Aj.of_below a NLN).trans b⟩ | exact ⟨⟨.text t.at_ t.text,_,rfl,⟨rfl,rfl⟩,trivial,f⟩,(Aj.of_below a NLN).trans b⟩ | exact ⟨⟨.name t.at_ t.text,_,rfl,⟨rfl,rfl⟩,trivial,f⟩,(Aj.of_below a NLN).trans b⟩
theorem Ip {t:Af}{s:List UInt8}(h:see s t=true):(t.kind== 1)=false∧(t.kind== 2)=false∧(t.kind== 3)=false:=by
 rcases Im h with e | e <;> rw[e] <;> decide
theorem WQ {t:Af}{s:List UInt8}(h:see s t=true)(u:List UInt8):(t.text.toList== u)=decide (s=u):=by
 rw[NJ h,za];show (s== u)=_;by_cases e:s=u
 ·rw[zW e,e];simp
 ·rw[zR e];simpa using e
theorem Z9 (t:Af)(r:List Af)(hk:see Ch t=true):CS aY pb g c T tl .prim (t ::r) (.ok (.bool t.at_ true) r):=by
 intro w k h f;show Calls Tryz.prog 184 #[.pointer (some ⟨pb,0,none⟩)] w (Gd aY pb g c T tl (.ok (.bool t.at_ true) r) w);have o:=Ab (BK h);have i:=Ab h;have y:=Ab f;obtain ⟨e1,e2,e3⟩:=Ip hk;have e4:(t.text.toList== [116,114,117,101])=true:=by rw[WQ hk];decide
 have p:=Ab (fun s w' (q:Below w.heap.size w w')=>AQ (h.below q) s);have u:=Ab (show AM Ch (t ::r)=true from hk);clear h f hk;go_enter Tryz.func184,Tryz.ntmps184
 go_wp2_with fail
 refine (Aa o).mono ?_;rintro e j ⟨rfl,a⟩;dsimp only[Dq,DV];have b:=a.alloc a.size (.cells #[.int .i64 t.kind,.int .i64 t.num,.string t.text,.int .i64 (t.at_:Int)] 51);have l:=Al.new j #[.int .i64 t.kind,.int .i64 t.num,.string t.text,.int .i64 (t.at_:Int)] 51;have nz:=(Aa i).row.lt;have z:=a.size;go_wp2_with fail
 generalize j.alloc (.cells #[.int .i64 t.kind,.int .i64 t.num,.string t.text,.int .i64 (t.at_:Int)] 51)=W at *;refine (Aa p Ch W b).mono ?_;rintro e A ⟨rfl,d⟩;rw[Aa u];have m:=b.trans (d.mono b.size);dsimp only;have v:=Ab (BZ ((Aa i).below m));obtain ⟨B,b1,b2,b3,C⟩:=AX (l.after d NLN);go_wp2_with fail
 refine (Aa v).mono ?_;rintro e E ⟨rfl,x,n⟩;obtain ⟨c0,c1,c2,c3,F⟩:=AX ((l.after d NLN).touchP n (.inr (by omega)));dsimp only[Dq];go_wp2_with fail
 go_ret2
 exact ⟨⟨.bool t.at_ true,_,rfl,⟨rfl,rfl⟩,trivial,x⟩,(Aj.of_below m NLN).trans n⟩
theorem Aaa (t:Af)(r:List Af)(hk:see Bm t=true):CS aY pb g c T tl .prim (t ::r) (.ok (.bool t.at_ false) r):=by
 intro w k h j;show Calls Tryz.prog 184 #[.pointer (some ⟨pb,0,none⟩)] w (Gd aY pb g c T tl (.ok (.bool t.at_ false) r) w);have u:=Ab (BK h);have l:=Ab h;have C:=Ab j;obtain ⟨e1,e2,e3⟩:=Ip hk;have e4:(t.text.toList== [116,114,117,101])=false:=by rw[WQ hk];decide
 have m:=Ab (fun s w' (v:Below w.heap.size w w')=>AQ (h.below v) s);have x:=Ab (show AM Ch (t ::r)=false from Ah hk (by decide));have y:=Ab (show AM Bm (t ::r)=true from hk);clear h j hk;go_enter Tryz.func184,Tryz.ntmps184
 go_wp2_with fail
 refine (Aa u).mono ?_;rintro e n ⟨rfl,b⟩;dsimp only[Dq,DV];have d:=b.alloc b.size (.cells #[.int .i64 t.kind,.int .i64 t.num,.string t.text,.int .i64 (t.at_:Int)] 51);have o:=Al.new n #[.int .i64 t.kind,.int .i64 t.num,.string t.text,.int .i64 (t.at_:Int)] 51;have nz:=(Aa l).row.lt;have E:=b.size;go_wp2_with fail
 generalize n.alloc (.cells #[.int .i64 t.kind,.int .i64 t.num,.string t.text,.int .i64 (t.at_:Int)] 51)=W at *;refine (Aa m Ch W d).mono ?_;rintro e z ⟨rfl,a⟩;rw[Aa x];have f:=d.trans (a.mono d.size);dsimp only;go_wp2_with fail
 refine (Aa m Bm z f).mono ?_;rintro e F ⟨rfl,i⟩;rw[Aa y];have p:=f.trans (i.mono f.size);dsimp only;have A:=Ab (BZ ((Aa l).below p));obtain ⟨H,b1,b2,b3,I⟩:=AX (o.after (a.trans (i.mono a.size)) NLN);go_wp2_with fail
 refine (Aa A).mono ?_;rintro e J ⟨rfl,B,q⟩;obtain ⟨c0,c1,c2,c3,K⟩:=AX ((o.after (a.trans (i.mono a.size)) NLN).touchP q (.inr (by omega)));dsimp only[Dq];go_wp2_with fail
 go_ret2
 exact ⟨⟨.bool t.at_ false,_,rfl,⟨rfl,rfl⟩,trivial,B⟩,(Aj.of_below p NLN).trans q⟩
theorem Qb (hp: 20≤pb)(t:Af)(r:List Af)(x:PR)(hk:see Cf t=true)(n:CS aY pb g c T tl .encl r x):CS aY pb g c T tl .prim (t ::r) (x.pre t.at_ 10):=by
 intro w k h b;show Calls Tryz.prog 184 #[.pointer (some ⟨pb,0,none⟩)] w (Gd aY pb g c T tl (x.pre t.at_ 10) w);have q:=Ab (BK h);have u:=Ab h;have L:=Ab b;obtain ⟨e1,e2,e3⟩:=Ip hk;have y:Hid (∀ w',Below w.heap.size w w'→Calls Tryz.prog 182 #[.pointer (some ⟨pb,0,none⟩),.int .i64 10,.func (.func 189) #[.pointer (some ⟨pb,0,none⟩)] #[]] w' (Gd aY pb g c T tl (x.pre t.at_ 10) w')):=Ab (fun w' a=>Po hp 10 t r x w' k (h.below a) (b.below a) n);have d:=Ab (fun s w' (a:Below w.heap.size w w')=>AQ (h.below a) s);have z:=Ab (show AM Ch (t ::r)=false from Ah hk (by decide));have A:=Ab (show AM Bm (t ::r)=false from Ah hk (by decide));have B:=Ab (show AM Cf (t ::r)=true from hk);clear h b hk n;go_enter Tryz.func184,Tryz.ntmps184
 go_wp2_with fail
 refine (Aa q).mono ?_;rintro e o ⟨rfl,f⟩;dsimp only[Dq,DV];have i:=f.alloc f.size (.cells #[.int .i64 t.kind,.int .i64 t.num,.string t.text,.int .i64 (t.at_:Int)] 51);have M:=Al.new o #[.int .i64 t.kind,.int .i64 t.num,.string t.text,.int .i64 (t.at_:Int)] 51;have nz:=(Aa u).row.lt;have N:=f.size;go_wp2_with fail
 generalize o.alloc (.cells #[.int .i64 t.kind,.int .i64 t.num,.string t.text,.int .i64 (t.at_:Int)] 51)=W at *;refine (Aa d Ch W i).mono ?_;rintro e C ⟨rfl,E⟩;rw[Aa z];have j:=i.trans (E.mono i.size);dsimp only;go_wp2_with fail
 refine (Aa d Bm C j).mono ?_;rintro e F ⟨rfl,H⟩;rw[Aa A];have l:=j.trans (H.mono j.size);dsimp only;go_wp2_with fail
 refine (Aa d Cf F l).mono ?_;rintro e I ⟨rfl,J⟩;rw[Aa B];have p:=l.trans (J.mono l.size);dsimp only;go_wp2_with fail
 refine (Aa y I p).mono ?_;intro O P m;obtain ⟨v,e,rfl,Q,he⟩:=m.form;have K:=Ab (m.from (Aj.of_below p NLN));clear m;dsimp only;go_wp2_with fail
 go_ret2
 exact Aa K
theorem Aab (hp: 20≤pb)(t:Af)(r:List Af)(x:PR)(hk:see AF t=true)(o:CS aY pb g c T tl .encl (t ::r) x):CS aY pb g c T tl .prim (t ::r) (x):=by
 intro w k h d;show Calls Tryz.prog 184 #[.pointer (some ⟨pb,0,none⟩)] w (Gd aY pb g c T tl (x) w);have u:=Ab (BK h);have y:=Ab h;have P:=Ab d;obtain ⟨e1,e2,e3⟩:=Ip hk;have z:Hid (∀ w',Below w.heap.size w w'→Calls Tryz.prog 189 #[.pointer (some ⟨pb,0,none⟩)] w' (Gd aY pb g c T tl (x) w')):=Ab (fun w' a=>o w' k (h.below a) (d.below a));have b:=Ab (fun s w' (a:Below w.heap.size w w')=>AQ (h.below a) s);have A:=Ab (show AM Ch (t ::r)=false from Ah hk (by decide));have B:=Ab (show AM Bm (t ::r)=false from Ah hk (by decide));have C:=Ab (show AM Cf (t ::r)=false from Ah hk (by decide));have E:=Ab (show AM AF (t ::r)=true from hk);clear h d hk o;go_enter Tryz.func184,Tryz.ntmps184
 go_wp2_with fail
 refine (Aa u).mono ?_;rintro e p ⟨rfl,f⟩;dsimp only[Dq,DV];have i:=f.alloc f.size (.cells #[.int .i64 t.kind,.int .i64 t.num,.string t.text,.int .i64 (t.at_:Int)] 51);have Q:=Al.new p #[.int .i64 t.kind,.int .i64 t.num,.string t.text,.int .i64 (t.at_:Int)] 51;have nz:=(Aa y).row.lt;have R:=f.size;go_wp2_with fail
 generalize p.alloc (.cells #[.int .i64 t.kind,.int .i64 t.num,.string t.text,.int .i64 (t.at_:Int)] 51)=W at *;refine (Aa b Ch W i).mono ?_;rintro e F ⟨rfl,H⟩;rw[Aa A];have j:=i.trans (H.mono i.size);dsimp only;go_wp2_with fail
 refine (Aa b Bm F j).mono ?_;rintro e I ⟨rfl,J⟩;rw[Aa B];have l:=j.trans (J.mono j.size);dsimp only;go_wp2_with fail
 refine (Aa b Cf I l).mono ?_;rintro e K ⟨rfl,L⟩;rw[Aa C];have m:=l.trans (L.mono l.size);dsimp only;go_wp2_with fail
 refine (Aa b AF K m).mono ?_;rintro e M ⟨rfl,N⟩;rw[Aa E];have q:=m.trans (N.mono m.size);dsimp only;go_wp2_with fail
 refine (Aa z M q).mono ?_;intro S U n;obtain ⟨v,e,rfl,V,he⟩:=n.form;have O:=Ab (n.from (Aj.of_below q NLN));clear n;dsimp only;go_wp2_with fail
 go_ret2
 exact Aa O
theorem NR (hp: 20≤pb)(t:Af)(r:List Af)(hk:see Cp t=true):CS aY pb g c T tl .prim (t ::r) (Lh t (GT r)):=by
 intro w k h d;show Calls Tryz.prog 184 #[.pointer (some ⟨pb,0,none⟩)] w (Gd aY pb g c T tl (Lh t (GT r)) w);have u:=Ab (BK h);have x:=Ab h;have R:=Ab d;obtain ⟨e1,e2,e3⟩:=Ip hk;have y:Hid (∀ w',Below w.heap.size w w'→Calls Tryz.prog 190 #[.pointer (some ⟨pb,0,none⟩)] w' (Gd aY pb g c T tl (Lh t (GT r)) w')):=Ab (fun w' b=>Z8 hp t r w' k (h.below b) (d.below b));have a:=Ab (fun s w' (b:Below w.heap.size w w')=>AQ (h.below b) s);have z:=Ab (show AM Ch (t ::r)=false from Ah hk (by decide));have A:=Ab (show AM Bm (t ::r)=false from Ah hk (by decide));have B:=Ab (show AM Cf (t ::r)=false from Ah hk (by decide));have C:=Ab (show AM AF (t ::r)=false from Ah hk (by decide));have E:=Ab (show AM Cp (t ::r)=true from hk);clear h d hk;go_enter Tryz.func184,Tryz.ntmps184
 go_wp2_with fail
 refine (Aa u).mono ?_;rintro e p ⟨rfl,f⟩;dsimp only[Dq,DV];have i:=f.alloc f.size (.cells #[.int .i64 t.kind,.int .i64 t.num,.string t.text,.int .i64 (t.at_:Int)] 51);have S:=Al.new p #[.int .i64 t.kind,.int .i64 t.num,.string t.text,.int .i64 (t.at_:Int)] 51;have nz:=(Aa x).row.lt;have U:=f.size;go_wp2_with fail
 generalize p.alloc (.cells #[.int .i64 t.kind,.int .i64 t.num,.string t.text,.int .i64 (t.at_:Int)] 51)=W at *;refine (Aa a Ch W i).mono ?_;rintro e F ⟨rfl,H⟩;rw[Aa z];have j:=i.trans (H.mono i.size);dsimp only;go_wp2_with fail
 refine (Aa a Bm F j).mono ?_;rintro e I ⟨rfl,J⟩;rw[Aa A];have l:=j.trans (J.mono j.size);dsimp only;go_wp2_with fail
 refine (Aa a Cf I l).mono ?_;rintro e K ⟨rfl,L⟩;rw[Aa B];have m:=l.trans (L.mono l.size);dsimp only;go_wp2_with fail
 refine (Aa a AF K m).mono ?_;rintro e M ⟨rfl,N⟩;rw[Aa C];have n:=m.trans (N.mono m.size);dsimp only;go_wp2_with fail
 refine (Aa a Cp M n).mono ?_;rintro e O ⟨rfl,P⟩;rw[Aa E];have q:=n.trans (P.mono n.size);dsimp only;go_wp2_with fail
 refine (Aa y O q).mono ?_;intro V X o;obtain ⟨v,e,rfl,Y,he⟩:=o.form;have Q:=Ab (o.from (Aj.of_below q NLN));clear o;dsimp only;go_wp2_with fail
 go_ret2
 exact Aa Q
theorem Qc (ts:List Af)(h1:(DV tl ts).kind≠1)(h2:(DV tl ts).kind≠2)(h3:(DV tl ts).kind≠3)(h4:AM Ch ts=false)(h5:AM Bm ts=false)(h6:AM Cf ts=false)(h7:AM AF ts=false)(h8:AM Cp ts=false):CS aY pb g c T tl .prim ts (.bad ts):=by
 intro w k h f;show Calls Tryz.prog 184 #[.pointer (some ⟨pb,0,none⟩)] w (Gd aY pb g c T tl (.bad ts) w);have r:=Ab (BK h);have u:=Ab h;have Q:=Ab f;have e1:((DV tl ts).kind== 1)=false:=zB.2 h1;have e2:((DV tl ts).kind== 2)=false:=zB.2 h2;have e3:((DV tl ts).kind== 3)=false:=zB.2 h3;have v:=Ab h4;have x:=Ab h5;have y:=Ab h6;have z:=Ab h7;have A:=Ab h8;have a:=Ab (fun s w' (d:Below w.heap.size w w')=>AQ (h.below d) s);have B:=Ab (fun w' (d:Below w.heap.size w w')=>Fo (h.below d) (f.below d));clear h f h1 h2 h3 h4 h5 h6 h7 h8;go_enter Tryz.func184,Tryz.ntmps184
 go_wp2_with fail
 refine (Aa r).mono ?_;rintro e p ⟨rfl,i⟩;generalize DV tl ts=t at e1 e2 e3;dsimp only[Dq];have j:=i.alloc i.size (.cells #[.int .i64 t.kind,.int .i64 t.num,.string t.text,.int .i64 (t.at_:Int)] 51);have R:=Al.new p #[.int .i64 t.kind,.int .i64 t.num,.string t.text,.int .i64 (t.at_:Int)] 51;have nz:=(Aa u).row.lt;have S:=i.size;go_wp2_with fail
 generalize p.alloc (.cells #[.int .i64 t.kind,.int .i64 t.num,.string t.text,.int .i64 (t.at_:Int)] 51)=W at *;refine (Aa a Ch W j).mono ?_;rintro e C ⟨rfl,E⟩;rw[Aa v];have l:=j.trans (E.mono j.size);dsimp only;go_wp2_with fail
 refine (Aa a Bm C l).mono ?_;rintro e F ⟨rfl,H⟩;rw[Aa x];have m:=l.trans (H.mono l.size);dsimp only;go_wp2_with fail
 refine (Aa a Cf F m).mono ?_;rintro e I ⟨rfl,J⟩;rw[Aa y];have n:=m.trans (J.mono m.size);dsimp only;go_wp2_with fail
 refine (Aa a AF I n).mono ?_;rintro e K ⟨rfl,L⟩;rw[Aa z];have o:=n.trans (L.mono n.size);dsimp only;go_wp2_with fail
 refine (Aa a Cp K o).mono ?_;rintro e M ⟨rfl,N⟩;rw[Aa A];have q:=o.trans (N.mono o.size);dsimp only;go_wp2_with fail
 refine (Aa B M q).mono ?_;rintro e U ⟨b,rfl,O,P⟩;dsimp only[Ci];go_wp2_with fail
 go_ret2
 exact ⟨⟨.nilIface,b,rfl,.inl rfl,O⟩,(Aj.of_below q NLN).allP P⟩
theorem XZ (hp: 20≤pb)(ts:List Af)(x:PR)(d:D .prim ts x)(a:∀ r x,D .encl r x→r.length≤ts.length→CS aY pb g c T tl .encl r x):CS aY pb g c T tl .prim ts x:=by
 cases d with
 |num h=>exact Li _ _ _ (.inl ⟨h,rfl⟩)
 |text h=>exact Li _ _ _ (.inr (.inl ⟨h,rfl⟩))
 |name h=>exact Li _ _ _ (.inr (.inr ⟨h,rfl⟩))
 |tru h=>exact Z9 _ _ h
 |fls h=>exact Aaa _ _ h
 |@size_bad t r q h d=>exact Qb hp t r _ h (a r _ d (by simp))
 |@size t r q e h d=>exact Qb hp t r _ h (a r _ d (by simp))
 |@par t r x h d=>exact Aab hp t r x h (a _ _ d NLN)
 |@set_bad t r q b h hs=>
  have e:Lh t (GT r)= .bad q:=by rw[hs];rfl
  rw[← e];exact NR hp t r h
 |@set_end t r q b h hs hq=>
  have e:Lh t (GT r)= .bad q:=by
   rw[hs,Lh,if_pos rfl];cases q with
   |nil=>rfl
   |cons u q=>exact if_neg (by rw[show see BJ u=false from hq];decide)
  rw[← e];exact NR hp t r h
 |@set t u r q b h hs hq=>
  have e:Lh t (GT r)= .ok (.set t.at_ b) q:=by rw[hs,Lh,if_pos rfl];exact if_pos hq
  rw[← e];exact NR hp t r h
 |prim_nil=>exact Qc [] (show (0 :Int)≠1 by decide) (show (0 :Int)≠2 by decide) (show (0 :Int)≠3 by decide) rfl rfl rfl rfl rfl
 |prim_no h1 h2 h3 h4 h5 h6 h7 h8=>exact Qc _ h1 h2 h3 h4 h5 h6 h7 h8
end Go.Proofs.YtchakjeegneeoaaGreatDoor
namespace Go.Proofs.YtchakjeegneeoaaGreatDoor
open Go.RowKit
set_option linter.unusedVariables false
variable {aY : Addr} {pb g c : Nat} {T : List Af} {tl : Nat}
theorem X8 (hp: 20≤pb):∀ (n:Nat) (nt:NT) (ts:List Af) (x:PR),D nt ts x→nt.good→nt.slow=false→ts.length * 17+nt.rank≤n→CS aY pb g c T tl nt ts x:=by
 intro n
 induction n using Nat.strongRecOn with
 |ind n p=>
  intro nt ts x d l hs t;have f:∀ b r y,D b r y→b.good→b.slow=false→r.length * 17+b.rank < ts.length * 17+nt.rank→CS aY pb g c T tl b r y:=fun b r y a m j o=>p _ (by omega) b r y a m j NLN;have q:∀ b:NT,b.slow=false→b.rank≤15:=fun b h=>by
   cases b with
   |more k e=>cases h
   |opd k=>simp only[NT.rank];split <;> (try split) <;> (try split) <;> (try split) <;> omega
   |chain k=>simp only[NT.rank];split <;> (try split) <;> (try split) <;> omega
   |_=>simp[NT.rank]
  cases nt with
  |more k e=>cases hs
  |beh s=>exact ZT hp s ts x d (fun r x a i=>f _ _ _ a trivial rfl (by simp only[NT.rank];omega))
  |encl=>exact XV hp ts x d (fun x a=>f _ _ _ a trivial rfl (by simp only[NT.rank];omega))
  |prim=>exact XZ hp ts x d (fun r x a i=>f _ _ _ a trivial rfl (by simp only[NT.rank];omega))
  |una=>exact ZW hp ts x d (fun x a=>f _ _ _ a trivial rfl (by simp only[NT.rank];omega)) (fun r x a i=>f _ _ _ a trivial rfl (by simp only[NT.rank];omega))
  |neg=>exact ZV hp ts x d (fun x a=>f _ _ _ a trivial rfl (by simp only[NT.rank];omega)) (fun r x a i=>f _ _ _ a trivial rfl (by simp only[NT.rank];omega))
  |cmp=>exact ZY hp ts x d (fun r x a i=>f _ _ _ a (.inr (.inr (.inl rfl))) rfl (by simp[NT.rank];omega))
  |opd k=>exact ZU k ts x d (fun b x a m o=>by
    cases j:b.slow
    ·exact f _ _ _ a m j (by omega)
    ·cases b with
     |more u e=>exfalso;have:(NT.opd k).rank≤15:=q _ rfl;simp only[NT.rank] at o this;omega
     |_=>cases j)
  |chain k=>
   have v:(NT.opd k).rank+1=(NT.chain k).rank:=by simp[NT.good] at l;rcases l with rfl | rfl | rfl | rfl <;> rfl
   exact Vv hp k ts x d (fun r x a i=>f _ _ _ a (by simp[NT.good] at l ⊢;omega) rfl (by omega))
  |expr=>exact XY hp ts x d (fun x a=>f _ _ _ a (.inl rfl) rfl (by simp[NT.rank])) (fun s r x a i=>f _ _ _ a trivial rfl (by simp only[NT.rank];omega))
theorem Kb (hp: 20≤pb)(s:List UInt8)(ts:List Af)(x:PR)(d:D (.beh s) ts x)(w:World)(k:Nat)(h:Pp w pb g c T tl ts k)(a:Gy w aY):
  Calls Tryz.prog 143 #[.pointer (some ⟨pb,0,none⟩),.string (AB s)] w (Gd aY pb g c T tl x w):=X8 hp _ (.beh s) ts x d trivial rfl NLN w k h a
end Go.Proofs.YtchakjeegneeoaaGreatDoor
