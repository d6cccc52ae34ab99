/-
  JT0, OWX, GRB, As, Is, FOG, TF, GG. Own work.
-/
import Derived.Test.YtchakjeegneeoaaGreatDoorMXAA
import Derived.Test.YtchakjeegneeoaaGreatDoorMXAF
import Derived.Laws.AppendOwn
import Derived.Test.YtchakjeegneeoaaGreatDoorRows
import Derived.WalkKit
import Derived.LaidEql
import Derived.Stop.Asserts
import Derived.RowKitTokens
import Derived.Deep.RegionHeld3
namespace Go.Proofs.YtchakjeegneeoaaGreatDoor
open Go.RowKit
set_option linter.unusedVariables false
def Dk (n:Int):Int:=if n < 2 then 3 else if n < 4 then 2 else 4
def Ct (op:Int):List Int→Int
 | [a]=>if op=8∧a=2 then 2 else if op=9∧a=1 then 1 else if op=10∧a=4 then 2 else 0
 | [a,b]=>if (11≤op∧op≤15)∧a=2∧b=2 then 2 else if (16≤op∧op≤18)∧a=4∧b=4 then 4
  else if (op=19∨op=20)∧a=b then 1 else if (op=21∨op=22)∧a=2∧b=2 then 1 else if op=23∧a=3∧b=4 then 1
  else if op=24∧a=4∧b=4 then 1 else if (op=25∨op=26)∧a=1∧b=1 then 1 else 0
 | [a,b,c]=>if a=1∧b=c then b else 0
 |_=>0
def nz (t:Int):Option Int:=if t=0 then none else some t
theorem Rw {t a:Int}(h:nz t=some a):t=a∧a≠0:=by
 unfold nz at h;split at h
 ·cases h
 ·cases h;exact ⟨rfl,by assumption⟩
theorem PA {w:World}{b:Nat}{e:TypeId}{size:Nat}{x:Option Addr}{n m c:Nat}{d:List Value}(h:w.ownsRow b e size (.slice x n c) n d)(f:m≤n):w.ownsRow b e size (.slice x m c) m (d.take (m * size)):=by
 have j:m * size≤n * size:=Nat.mul_le_mul_right _ f;refine ⟨by rw[List.length_take,h.1];omega, ?_⟩;rcases h.2 with ⟨a,k⟩ | ⟨g,cap,i,a,h1,h2,h3,h4,h5,h6⟩
 ·cases a;exact .inl ⟨by rw[show m=0 by omega],by omega⟩
 ·cases a;refine .inr ⟨g,c,i,rfl,h1,h2,by omega,h4,h5, ?_⟩;rw[← h6,List.take_take]
  congr 1
  omega
theorem Au {w w':World}{a:Nat}{e:TypeId}{size:Nat}{v:Value}{n B:Nat}{b:List Value}(h:w.ownsRow a e size v n b)(c:Below B w w')(hB:w.heap.size≤B):w'.ownsRow a e size v n b:=by
 refine ⟨h.1, ?_⟩;rcases h.2 with d | ⟨g,cap,f,i,h1,h2,h3⟩
 ·exact .inl d
 ·exact .inr ⟨g,cap,f,i,h1,(c.block g (Nat.lt_of_lt_of_le (Array.getElem?_eq_some_iff.1 h2).1 hB)).trans h2,h3⟩
theorem Ad {w:World}{a e size n:Nat}{v:Value}{b:List Value}(h:w.ownsRow a e size v n b):∃ x c,v= .slice x n c∧(0 < n→∃ g,x=some ⟨g,0,none⟩∧a≤g∧∀ j u,b[j]? =some u→w.cell? ⟨g,j,none⟩=some u):=by
 rcases h.2 with ⟨rfl,rfl⟩ | ⟨g,cap,k,rfl,d,_⟩
 ·exact ⟨_,_,rfl,fun h=>absurd h (by omega)⟩
 ·refine ⟨_,_,rfl,fun _=>⟨g,rfl,d,fun j u f=>?_⟩⟩;have:=h.cells (g:=g) rfl j u f;have i:(⟨g,0,none⟩:Addr).add j=⟨g,j,none⟩:=by unfold Addr.add;split <;> simp_all
  rwa[i] at this
theorem At {w w':World}{a:Nat}{e:TypeId}{size n:Nat}{v:Value}{b:List Value}(h:w.ownsRow a e size v n b)(hd:∀ q,v.ownBlock=some q→w'.heap[q]? =w.heap[q]?):w'.ownsRow a e size v n b:=by
 refine ⟨h.1, ?_⟩;rcases h.2 with h2 | ⟨g,cap,d,c,h3,f,h4⟩
 ·exact .inl h2
 ·exact .inr ⟨g,cap,d,c,h3,(hd g (by rw[c];rfl)).trans f,h4⟩
theorem AA {w:World}{a:Nat}{e:TypeId}{size n:Nat}{v:Value}{b:List Value}(h:w.ownsRow a e size v n b)(p:Addr)(u:Value)(hp:∀ q,v.ownBlock=some q→q≠p.block):(w.setCell p u).ownsRow a e size v n b:=
 At h (fun q hq=>heap_setCell_other w p q u (hp q hq))
theorem Ae {w:World}{B a n size:Nat}{e T:TypeId}{v:Value}{c:List Value}{cs:Array Value}(R:Al w a cs T)(h:w.ownsRow B e size v n c)(d:T≠e):v.ownBlock≠some a:=fun hq=>by
 rcases h.2 with ⟨b,_⟩ | ⟨g,cap,i,b,_,f,_⟩
 ·rw[b] at hq;cases hq
 ·rw[b] at hq;obtain rfl:g=a:=by simpa[Value.ownBlock] using hq
  have:=R.out.symm.trans f;simp at this;exact d this.2
theorem Aeh {P:World→Prop}{w:World}{a:Array Value}{t:TypeId}(h:∀ W:World,Below w.heap.size w W→Al W w.heap.size a t→P W):P (w.alloc (.cells a t)):=
 h _ ((Below.refl w.heap.size w).alloc NLN _) (Al.new w _ _)
theorem PO {P:World→Prop}{w:World}{a b:Array Value}{t u:TypeId}(h:∀ W:World,Below w.heap.size w W→Al W w.heap.size a t→Al W (w.heap.size+1) b u→P W):P ((w.alloc (.cells a t)).alloc (.cells b u)):=
 Aeh (P:=P) fun W B R=>by
  have e:(w.alloc (.cells a t)).heap.size=w.heap.size+1:=by simp
  exact h W (((Below.refl w.heap.size w).alloc NLN _).trans (B.mono (by simp))) ((Al.new w _ _).after B NLN) (by rw[← e];exact R)
end Go.Proofs.YtchakjeegneeoaaGreatDoor
namespace Go.Proofs.YtchakjeegneeoaaGreatDoor
set_option maxHeartbeats 4000000
open Go.RowKit Go.Extern.Stop Go.Stop Go.Extern
theorem JP (t:Addr)(w:World):(ReflectliteValue.unpack (.iface 109 (.pointer (some t)))).run Tryz.prog w
  = .ok (.agg #[.pointer (some ⟨20,109,none⟩),.pointer (some ⟨w.heap.size,0,none⟩),.int .u64 150]) (w.alloc (.cells #[.pointer (some t)] 109)):=by kernel_rfl
theorem PJ (a:Addr)(w:World):(ReflectliteValue.methodAny (ReflectliteValue.valueError "reflectlite.Value.Type" 0) (fun t _ _ _=>ReflectliteType.toType t) #[.agg #[.pointer (some ⟨20,109,none⟩),.pointer (some a),.int .u64 150]]).run Tryz.prog w
  = .ok (.iface 193 (.agg #[.pointer (some ⟨20,109,none⟩)])) w:=by kernel_rfl
theorem Jh (h:Value)(w:World):(Go.method 442 193 (.agg #[h]) "Kind").run Tryz.prog w= .ok (234,h) w:=by kernel_rfl
theorem PK (w:World):((ReflectliteType.abiMethod fun t=>(fun a:Nat=>Value.int IntKind.u8 (a:Int)) <$> Rtype.kind t) #[.pointer (some ⟨20,109,none⟩)]).run Tryz.prog w= .ok (.int .u8 22) w:=by kernel_rfl
theorem PL (w:World):((ReflectliteType.abiMethod fun t=>(fun a:Nat=>Value.int IntKind.u8 (a:Int)) <$> Rtype.kind t) #[.pointer (some ⟨20,107,none⟩)]).run Tryz.prog w= .ok (.int .u8 22) w:=by kernel_rfl
theorem Za {a:Array Value→Sort _}(v:Value)(h1:(v:Value)→a #[v])(h2:(x:Array Value)→a x):ReflectliteValue.method.match_2 a #[v] h1 h2=h1 v:=rfl
theorem AcU {a:Array Value→Sort _}(v x:Value)(h1:(v x:Value)→a #[v,x])(h2:(x:Array Value)→a x):ReflectliteValue.set.match_3 a #[v,x] h1 h2=h1 v x:=rfl
theorem MY (a:Addr)(w:World):(ReflectliteValue.parts (.agg #[.pointer (some ⟨20,109,none⟩),.pointer (some a),.int .u64 150])).run Tryz.prog w= .ok (some (109,a,150)) w:=by kernel_rfl
theorem MZ (a p:Addr)(W:World)(b:W.cell? a=some (.pointer (some p))):
  (ReflectliteValue.method (ReflectliteValue.valueError "reflectlite.Value.IsNil" 0) ReflectliteValue.isNil #[.agg #[.pointer (some ⟨20,109,none⟩),.pointer (some a),.int .u64 150]]).run Tryz.prog W= .ok (.bool false) W:=by
 delta ReflectliteValue.method
 rw[Za];simp only[Sem.run_bind,MY,Result.andThen];simp[ReflectliteValue.isNil,loadVar,isAgg,underlying,Tryz.underlying109,b,Result.andThen]
theorem Ji (h:Value)(w:World):(Go.method 442 193 (.agg #[h]) "Elem").run Tryz.prog w= .ok (247,.agg #[h]) w:=by kernel_rfl
theorem E7 (h:Value)(w:World):(Go.method 442 193 (.agg #[h]) "Implements").run Tryz.prog w= .ok (248,.agg #[h]) w:=by kernel_rfl
theorem Eu (h:Value)(w:World):(Go.method 442 193 (.agg #[h]) "AssignableTo").run Tryz.prog w= .ok (245,.agg #[h]) w:=by kernel_rfl
theorem PM (w:World):(ReflectliteType.method ReflectliteType.elem #[.agg #[.pointer (some ⟨20,109,none⟩)]]).run Tryz.prog w= .ok (.iface 193 (.agg #[.pointer (some ⟨20,107,none⟩)])) w:=by kernel_rfl
theorem G5 (w:World):(ReflectliteType.relation "Implements" ReflectliteType.implements_ #[.agg #[.pointer (some ⟨20,107,none⟩)],.iface 193 (.agg #[.pointer (some ⟨20,72,none⟩)])]).run Tryz.prog w= .ok (.bool true) w:=by kernel_rfl
theorem Sq (v:Value)(w:World):(ReflectliteType.typeOf #[.iface 107 v]).run Tryz.prog w= .ok (.iface 193 (.agg #[.pointer (some ⟨20,107,none⟩)])) w:=by kernel_rfl
theorem Mp (w:World):(ReflectliteType.relation "AssignableTo" ReflectliteType.assignableTo #[.agg #[.pointer (some ⟨20,107,none⟩)],.iface 193 (.agg #[.pointer (some ⟨20,107,none⟩)])]).run Tryz.prog w= .ok (.bool true) w:=by kernel_rfl
theorem QH (e:Addr)(w:World):(ReflectliteValue.unpack (.iface 107 (.pointer (some e)))).run Tryz.prog w
  = .ok (.agg #[.pointer (some ⟨20,107,none⟩),.pointer (some ⟨w.heap.size,0,none⟩),.int .u64 150]) (w.alloc (.cells #[.pointer (some e)] 107)):=by kernel_rfl
theorem Sr (w:World):(Rtype.elem? 109).run Tryz.prog w= .ok (some 107) w:=by kernel_rfl
theorem Abs (p:Addr)(w:World):(ReflectliteValue.mk 107 p ReflectliteValue.flagAddr).run Tryz.prog w= .ok (.agg #[.pointer (some ⟨20,107,none⟩),.pointer (some p),.int .u64 406]) w:=by kernel_rfl
theorem UT (a p:Addr)(W:World)(b:W.cell? a=some (.pointer (some p))):
  (ReflectliteValue.method (ReflectliteValue.valueError "reflectlite.Value.Elem" 0) ReflectliteValue.elem #[.agg #[.pointer (some ⟨20,109,none⟩),.pointer (some a),.int .u64 150]]).run Tryz.prog W
   = .ok (.agg #[.pointer (some ⟨20,107,none⟩),.pointer (some p),.int .u64 406]) W:=by
 delta ReflectliteValue.method
 rw[Za];simp only[Sem.run_bind,MY,Result.andThen];simp[ReflectliteValue.elem,loadVar,isAgg,underlying,Tryz.underlying109,b,Result.andThen,Sr,Abs]
theorem Ss (a:Addr)(w:World):(ReflectliteValue.parts (.agg #[.pointer (some ⟨20,107,none⟩),.pointer (some a),.int .u64 406])).run Tryz.prog w= .ok (some (107,a,406)) w:=by kernel_rfl
theorem UU (a:Addr)(w:World):(ReflectliteValue.parts (.agg #[.pointer (some ⟨20,107,none⟩),.pointer (some a),.int .u64 150])).run Tryz.prog w= .ok (some (107,a,150)) w:=by kernel_rfl
theorem Su (w:World):(Rtype.directlyAssignable 107 107).run Tryz.prog w= .ok true w:=by kernel_rfl
theorem Zb (a b e:Addr)(c:Value)(W:World)(d:W.cell? b=some (.pointer (some e)))(ht:W.cell? a=some c)(hf:W.frozen? a=false):
  (ReflectliteValue.set #[.agg #[.pointer (some ⟨20,107,none⟩),.pointer (some a),.int .u64 406],.agg #[.pointer (some ⟨20,107,none⟩),.pointer (some b),.int .u64 150]]).run Tryz.prog W
   = .ok (.tuple #[]) (W.setCell a (.pointer (some e))):=by
 delta ReflectliteValue.set
 rw[AcU];simp only[Sem.run_bind,Ss,UU,Result.andThen];simp[ReflectliteValue.flagAddr,loadVar,isAgg,underlying,Tryz.underlying107,d,Result.andThen,Su,storeVar,Value.cells,storeCells,Addr.add];rw[run_store Tryz.prog W a _ _ (by rfl)];simp[ht,hf]
theorem AcV (e t:Addr)(a:Value)(w:World)(b:w.cell? ⟨4,0,none⟩=some (.iface 193 (.agg #[.pointer (some ⟨20,72,none⟩)])))(c:w.cell? t=some a)(f:w.frozen? t=false):
  Calls Tryz.prog 56 #[.iface 107 (.pointer (some e)),.iface 109 (.pointer (some t))] w fun ev w'=>ev= .returned (.bool true)∧w'=((((w.alloc (.cells #[.pointer (some t)] 109)).alloc (.cells #[.pointer (some ⟨20,109,none⟩),.pointer (some ⟨w.heap.size,0,none⟩),.int .u64 150] 152)).alloc (.cells #[.pointer (some ⟨20,109,none⟩),.pointer (some ⟨w.heap.size,0,none⟩),.int .u64 150] 152)).alloc (.cells #[.pointer (some e)] 107)).setCell t (.pointer (some e)):=by
 have h6:=@run_callFunc_extern Tryz.prog 89 _ (fun args=>ReflectliteValue.unpack (args.getD 0 (.tuple #[]))) Tryz.func89 (by kernel_rfl) (by kernel_rfl) (by kernel_rfl) (by kernel_rfl);have h7:=@run_callFunc_extern Tryz.prog 90 _ (ReflectliteValue.methodAny (ReflectliteValue.valueError "reflectlite.Value.Type" 0) (fun t _ _ _=>ReflectliteType.toType t)) Tryz.func90 (by kernel_rfl) (by kernel_rfl) (by kernel_rfl) (by kernel_rfl);have h8:=@run_callFunc_extern Tryz.prog 91 _ (ReflectliteValue.method (ReflectliteValue.valueError "reflectlite.Value.IsNil" 0) ReflectliteValue.isNil) Tryz.func91 (by kernel_rfl) (by kernel_rfl) (by kernel_rfl) (by kernel_rfl);have i:=@run_callFunc_extern Tryz.prog 234 _ (ReflectliteType.abiMethod fun t=>do pure (.int .u8 (← Rtype.kind t))) Tryz.func234 (by kernel_rfl) (by kernel_rfl) (by kernel_rfl) (by kernel_rfl);have j:=@run_callFunc_extern Tryz.prog 247 _ (ReflectliteType.method ReflectliteType.elem) Tryz.func247 (by kernel_rfl) (by kernel_rfl) (by kernel_rfl) (by kernel_rfl);have k:=@run_callFunc_extern Tryz.prog 248 _ (ReflectliteType.relation "Implements" ReflectliteType.implements_) Tryz.func248 (by kernel_rfl) (by kernel_rfl) (by kernel_rfl) (by kernel_rfl);have h10:=@run_callFunc_extern Tryz.prog 119 _ ReflectliteType.typeOf Tryz.func119 (by kernel_rfl) (by kernel_rfl) (by kernel_rfl) (by kernel_rfl);have l:=@run_callFunc_extern Tryz.prog 245 _ (ReflectliteType.relation "AssignableTo" ReflectliteType.assignableTo) Tryz.func245 (by kernel_rfl) (by kernel_rfl) (by kernel_rfl) (by kernel_rfl);have h11:=@run_callFunc_extern Tryz.prog 120 _ (ReflectliteValue.method (ReflectliteValue.valueError "reflectlite.Value.Elem" 0) ReflectliteValue.elem) Tryz.func120 (by kernel_rfl) (by kernel_rfl) (by kernel_rfl) (by kernel_rfl);have h12:=@run_callFunc_extern Tryz.prog 121 _ ReflectliteValue.set Tryz.func121 (by kernel_rfl) (by kernel_rfl) (by kernel_rfl) (by kernel_rfl);have m:=Sq;have n:=Eu;have o:=Mp;have p:=QH;have q:=JP;have r:=PJ;have s:=Jh;have u:=Ji;have v:=E7;have x:=PK;have y:=PL;have z:=PM;have A:=G5;have B:=MZ ⟨w.heap.size,0,none⟩ t ((w.alloc (.cells #[.pointer (some t)] 109)).alloc (.cells #[.pointer (some ⟨20,109,none⟩),.pointer (some ⟨w.heap.size,0,none⟩),.int .u64 150] 152)) (by simp);have g: 4 < w.heap.size:=by
  rcases Nat.lt_or_ge 4 w.heap.size with h | h
  ·exact h
  ·simp[World.cell?,Array.getElem?_eq_none h] at b
 have C:((w.alloc (.cells #[.pointer (some t)] 109)).alloc (.cells #[.pointer (some ⟨20,109,none⟩),.pointer (some ⟨w.heap.size,0,none⟩),.int .u64 150] 152)).cell? ⟨4,0,none⟩=some (.iface 193 (.agg #[.pointer (some ⟨20,72,none⟩)])):=by
  rw[World.cell?_alloc_lt _ _ ⟨4,0,none⟩ (by simp;omega),World.cell?_alloc_lt _ _ ⟨4,0,none⟩ g];exact b
 have d:t.block < w.heap.size:=by
  rcases Nat.lt_or_ge t.block w.heap.size with h | h
  ·exact h
  ·simp[World.cell?,Array.getElem?_eq_none h] at c
 have E:=UT ⟨w.heap.size,0,none⟩ t (((w.alloc (.cells #[.pointer (some t)] 109)).alloc (.cells #[.pointer (some ⟨20,109,none⟩),.pointer (some ⟨w.heap.size,0,none⟩),.int .u64 150] 152)).alloc (.cells #[.pointer (some ⟨20,109,none⟩),.pointer (some ⟨w.heap.size,0,none⟩),.int .u64 150] 152)) (by rw[World.cell?_alloc_lt _ _ ⟨w.heap.size,0,none⟩ (by simp;omega)];simp);have st:=Zb t ⟨w.heap.size+1+1+1,0,none⟩ e a ((((w.alloc (.cells #[.pointer (some t)] 109)).alloc (.cells #[.pointer (some ⟨20,109,none⟩),.pointer (some ⟨w.heap.size,0,none⟩),.int .u64 150] 152)).alloc (.cells #[.pointer (some ⟨20,109,none⟩),.pointer (some ⟨w.heap.size,0,none⟩),.int .u64 150] 152)).alloc (.cells #[.pointer (some e)] 107))
  (by rw[World.cell?_alloc_at _ _ _ _ (by simp)];rfl)
  (by rw[World.cell?_alloc_lt _ _ t (by simp;omega),World.cell?_alloc_lt _ _ t (by simp;omega),World.cell?_alloc_lt _ _ t (by simp;omega),World.cell?_alloc_lt _ _ t d];exact c)
  (by rw[World.frozen?_alloc_old _ _ t (by simp;omega),World.frozen?_alloc_old _ _ t (by simp;omega),World.frozen?_alloc_old _ _ t (by simp;omega),World.frozen?_alloc_old _ _ t (Nat.ne_of_lt d)];exact f)
 go_enter Tryz.func56,Tryz.ntmps56
 go_wp2
 refine wp_loop_rounds 1 ?_;rw[rounds_succ];go_wp2
 go_ret
 exact ⟨rfl,rfl⟩
theorem Nt (v:Value)(w:World):(Extern.ReflectliteType.typeOf #[.iface 276 v]).run Tryz.prog w= .ok (.iface 193 (.agg #[.pointer (some ⟨20,276,none⟩)])) w:=by kernel_rfl
def AaF:TypeId→Sem Value:=fun t=>do Go.Extern.Rtype.noPackHeld "Comparable" t;pure (.bool (← typeInfo t).comparable)
theorem Ko (w:World):((Extern.ReflectliteType.method AaF) #[.agg #[.pointer (some ⟨20,276,none⟩)]]).run Tryz.prog w= .ok (.bool true) w:=by kernel_rfl
theorem FM (v:Value)(w:World):(Go.method 442 193 v "Comparable").run Tryz.prog w= .ok (246,v) w:=by kernel_rfl
theorem AaG:(Tryz.prog.info? 276).map (·.comparable)=some true:=by kernel_rfl
theorem AaH:(Tryz.prog.info? 278).map (·.size)=some 1:=by kernel_rfl
theorem Aen (v:Value)(a:TypeId)(w:World):(Instr.typeAssert (.iface 276 v) a 237 true).run Tryz.prog w= .ok (.tuple #[.nilIface,.bool false]) w:=run_typeAssert_lacksB Tryz.underlying237 (by kernel_rfl) (by kernel_rfl) v a w
theorem PP (v:Value)(a:TypeId)(w:World):(Instr.typeAssert (.iface 276 v) a 201 true).run Tryz.prog w= .ok (.tuple #[.nilIface,.bool false]) w:=run_typeAssert_lacksB Tryz.underlying201 (by kernel_rfl) (by kernel_rfl) v a w
theorem Nu (v:Value)(a:TypeId)(w:World):(Instr.typeAssert (.iface 276 v) a 202 true).run Tryz.prog w= .ok (.tuple #[.nilIface,.bool false]) w:=run_typeAssert_lacksB Tryz.underlying202 (by kernel_rfl) (by kernel_rfl) v a w
theorem QN (a:Addr)(w:World):
  Calls Tryz.prog 93 #[.iface 276 (.pointer (some a)),.iface 276 (.pointer (some a))] w fun e w'=>e= .returned (.bool true)∧w'=w:=by
 obtain ⟨i,hi,b⟩:=Option.map_eq_some_iff.1 AaG;obtain ⟨j,c,d⟩:=Option.map_eq_some_iff.1 AaH;have h8:=@run_callFunc_extern Tryz.prog 119 _ Extern.ReflectliteType.typeOf Tryz.func119 (by kernel_rfl) (by kernel_rfl) (by kernel_rfl) (by kernel_rfl);have f:=@run_callFunc_extern Tryz.prog 246 _ (Extern.ReflectliteType.method AaF) Tryz.func246 (by kernel_rfl) (by kernel_rfl) (by kernel_rfl) (by kernel_rfl);have g:=Nt;have h:=Ko;have k:=FM;have l:=run_eql_iface_ptr_same (P:=Tryz.prog) w a Tryz.underlying72 Tryz.underlying276 hi b c;go_enter Tryz.func93,Tryz.ntmps93
 go_wp2
 refine wp_loop_rounds 1 ?_;rw[rounds_succ];go_wp2
 go_ret
 exact ⟨rfl,rfl⟩
theorem ZI (a b:Addr)(c d:Array Value)(f g:TypeId)(w:World)(h:a≠b)(k:w.heap[a.block]? =some (.cells c f (0,0)))(l:w.heap[b.block]? =some (.cells d g (0,0))):
  Calls Tryz.prog 93 #[.iface 276 (.pointer (some a)),.iface 276 (.pointer (some b))] w fun e w'=>e= .returned (.bool false)∧w'=w:=by
 obtain ⟨i,hi,m⟩:=Option.map_eq_some_iff.1 AaG;obtain ⟨j,n,o⟩:=Option.map_eq_some_iff.1 AaH;have h8:=@run_callFunc_extern Tryz.prog 119 _ Extern.ReflectliteType.typeOf Tryz.func119 (by kernel_rfl) (by kernel_rfl) (by kernel_rfl) (by kernel_rfl);have p:=@run_callFunc_extern Tryz.prog 246 _ (Extern.ReflectliteType.method AaF) Tryz.func246 (by kernel_rfl) (by kernel_rfl) (by kernel_rfl) (by kernel_rfl);have q:=Nt;have r:=Ko;have s:=FM;have t:=Aen;have u:=PP;have v:=Nu;have x:=run_eql_iface_ptr_other (P:=Tryz.prog) w Tryz.underlying72 Tryz.underlying276 hi m n (by rw[o];decide) h k l;go_enter Tryz.func93,Tryz.ntmps93
 go_wp2
 refine wp_loop_rounds 1 ?_;rw[rounds_succ];go_wp2
 go_ret
 exact ⟨rfl,rfl⟩
end Go.Proofs.YtchakjeegneeoaaGreatDoor
namespace Go.Proofs.YtchakjeegneeoaaGreatDoor
set_option maxHeartbeats 1600000
open Go.RowKit
set_option linter.unusedVariables false
def Wv (w:World) (a:Addr):Prop:=∃ c t,w.heap[a.block]? =some (.cells c t (0,0))
theorem Wv.below {w w':World}{B:Nat}{a:Addr}(h:Wv w a)(b:Below B w w')(hB:w.heap.size≤B):Wv w' a:=by
 obtain ⟨c,t,h⟩:=h;have d:a.block < w.heap.size:=(yC.1 h).1;exact ⟨c,t,(b.block _ (by omega)).trans h⟩
theorem KU {a b:Addr}{w:World}(g:a≠b)(d:Wv w a)(f:Wv w b):
  Calls Tryz.prog 93 #[.iface 276 (.pointer (some a)),.iface 276 (.pointer (some b))] w fun e w'=>e= .returned (.bool false)∧w'=w:=by
 obtain ⟨c,t,d⟩:=d;obtain ⟨h,i,f⟩:=f;exact ZI a b c h t i w g d f
theorem KV {c:Func}{a:Tmp}(h:c.results= #[.cell a 28]){tmps:Array Value}{w:World}{b:Nat}{d f:Value}(g:tmps.getD a undef= .pointer (some ⟨b,0,none⟩))
  (g0:w.cell? ⟨b,0,none⟩=some d)(g1:w.cell? ⟨b,1,none⟩=some f):
  (results c tmps).run Tryz.prog w= .ok (.agg #[d,f]) w:=by
 rw[Z4] at g;simp[results,h,g,go_sem,g0,g1]
theorem L3 (w:World):
  Calls Tryz.prog 35 #[.nilIface] w fun e w'=>e= .returned (.agg #[.int .i64 0,.int .i64 0])∧Below w.heap.size w w':=by
 go_enter Tryz.func35,Tryz.ntmps35
 go_wp2
 have R:=Al.new w #[.int .i64 0,.int .i64 0] 28;have g0:=R.cell 0;have g1:=R.cell 1;refine bodyPost_ret (KV Tryz.results35 rfl g0 g1) rfl ⟨rfl,(Below.refl w.heap.size w).alloc NLN _⟩
theorem Ic (b:Nat)(i c:Int)(ac:Addr)(w:World)(gE:w.cell? ⟨4,0,none⟩=some (.iface 193 (.agg #[.pointer (some ⟨20,72,none⟩)])))(big: 4 < w.heap.size)(a:Al w b #[.int .i64 i,.iface 276 (.pointer (some ac))] 112)(m:∀ W,Below w.heap.size w W→Calls Tryz.prog 57 #[.iface 276 (.pointer (some ac))] W fun e w'=>e= .returned (.int .i64 c)∧w'=W):
  Calls Tryz.prog 35 #[.iface 107 (.pointer (some ⟨b,0,none⟩))] w fun e w'=>e= .returned (.agg #[.int .i64 c,.int .i64 i])∧Below w.heap.size w w':=by
 have m:=Ab m;have L:=a.lt;have n:=Ab (And.intro gE a);clear gE a;go_enter Tryz.func35,Tryz.ntmps35
 go_wp2_with fail
 refine PO (P:=fun W=>Calls _ _ _ W _) ?_;intro W d o f;obtain ⟨gE,a⟩:=Aa n;have q:=a.after d NLN;have r:=f.cell 0;have M:w.heap.size+1 < W.heap.size:=f.lt;refine (AcV ⟨b,0,none⟩ ⟨w.heap.size+1,0,none⟩ (.pointer none) W ((d.cell (p:=⟨4,0,none⟩) big).trans gE) (by simpa using r) (f.frozen 0)).mono ?_;rintro e g ⟨rfl,h⟩;have j:=fun x y z A:Obj=>((((Below.refl W.heap.size W).alloc NLN x).alloc (by simp) y).alloc (by simp;omega) z).alloc (by simp;omega) A;have s:Below w.heap.size w g:=by
  rw[h];exact (d.trans ((j _ _ _ _).mono d.size)).setCell (p:=⟨w.heap.size+1,0,none⟩) (by show w.heap.size≤w.heap.size+1;omega) _
 have l:Al g w.heap.size #[.int .i64 0,.int .i64 0] 28:=by
  rw[h];exact (o.after (j _ _ _ _) NLN).setFar (p:=⟨w.heap.size+1,0,none⟩) (by show w.heap.size≠w.heap.size+1;omega) _
 have B:Al g (w.heap.size+1) #[.pointer (some ⟨b,0,none⟩)] 107:=by
  rw[h];exact (f.after (j _ _ _ _) NLN).set 0 _
 have t:Al g b #[.int .i64 i,.iface 276 (.pointer (some ac))] 112:=by
  rw[h];exact (q.after (j _ _ _ _) NLN).setFar (p:=⟨w.heap.size+1,0,none⟩) (by show b≠w.heap.size+1;omega) _
 clear h d o f q r j gE a n;have C:=B.cell 0;have E:=t.cell 0;have F:=t.cell 1;have N:=fun k=>l.frozen k;have H:=l.cell 0;have I:=l.cell 1;simp only[zu,zi,zc] at C E F H I;have J:b≠w.heap.size:=by omega
 have O:w.heap.size≠b:=by omega
 have Q: ¬ (b=w.heap.size):=J;go_wp2_with fail
 go_region_held3 (fun w'=>w'.cell? ⟨w.heap.size+1,0,none⟩=some (.pointer (some ⟨b,0,none⟩))∧w'.cell? ⟨b,0,none⟩=some (.int .i64 i)∧w'.cell? ⟨b,1,none⟩=some (.iface 276 (.pointer (some ac)))) (go_keep)
  ((go_at_call 57;refine (Aa m g.drew s.drew).mono ?_;rintro e w2 ⟨rfl,u⟩;rw[u];clear u))
 all_goals
  go_wp2_with fail
  have v:=(l.set 0 (.int .i64 c)).set 1 (.int .i64 i);have K:=((s.setCell (p:=⟨w.heap.size,0,none⟩) NLN (.int .i64 c)).setCell (p:=⟨w.heap.size,1,none⟩) NLN (.int .i64 i)).drew;have g0:_=some (Value.int .i64 c):=v.cell 0;have g1:_=some (Value.int .i64 i):=v.cell 1;exact bodyPost_ret (KV Tryz.results35 rfl g0 g1) rfl ⟨rfl,K⟩
end Go.Proofs.YtchakjeegneeoaaGreatDoor
namespace Go.Proofs.YtchakjeegneeoaaGreatDoor
set_option maxHeartbeats 1600000
open Go.RowKit
set_option linter.unusedVariables false
structure WO (w:World) (aS aB aT:Addr):Prop where
 gS:w.cell? ⟨1,0,none⟩=some (.iface 276 (.pointer (some aS)))
 gB:w.cell? ⟨5,0,none⟩=some (.iface 276 (.pointer (some aB)))
 gT:w.cell? ⟨6,0,none⟩=some (.iface 276 (.pointer (some aT)))
 gE:w.cell? ⟨4,0,none⟩=some (.iface 193 (.agg #[.pointer (some ⟨20,72,none⟩)]))
 gR:∃ tp p,w.var? Tryz.prog "strconv.ErrRange" =some #[.iface tp p]
 big: 20≤w.heap.size
 rS:∃ c t,w.heap[aS.block]? =some (.cells c t (0,0))
 rB:∃ c t,w.heap[aB.block]? =some (.cells c t (0,0))
 rT:∃ c t,w.heap[aT.block]? =some (.cells c t (0,0))
 nSB:aS≠aB
 nST:aS≠aT
 nBT:aB≠aT
theorem AdL: Tryz.prog.globalNamed "strconv.ErrRange" =some 15:=by kernel_rfl
theorem WO.below {w w':World}{B:Nat}{b c d:Addr}(h:WO w b c d)(a:Below B w w')(hB:w.heap.size≤B):WO w' b c d where
 gS:=(a.cell (p:=⟨1,0,none⟩) (by have:=h.big;show 1 < B;omega)).trans h.gS
 gB:=(a.cell (p:=⟨5,0,none⟩) (by have:=h.big;show 5 < B;omega)).trans h.gB
 gT:=(a.cell (p:=⟨6,0,none⟩) (by have:=h.big;show 6 < B;omega)).trans h.gT
 gE:=(a.cell (p:=⟨4,0,none⟩) (by have:=h.big;show 4 < B;omega)).trans h.gE
 gR:=by
  obtain ⟨f,p,e⟩:=h.gR;refine ⟨f,p, ?_⟩;rw[← e];unfold World.var?;rw[AdL];simp only[Option.bind_some];rw[a.block 15 (by have:=h.big;omega)]
 big:=zD h.big a.size
 rS:=Wv.below h.rS a hB
 rB:=Wv.below h.rB a hB
 rT:=Wv.below h.rT a hB
 nSB:=h.nSB
 nST:=h.nST
 nBT:=h.nBT
variable {aS aB aT : Addr}
def Ir (aS aB aT:Addr) (c:Int):Value:=if c=1 then .iface 276 (.pointer (some aS)) else if c=2 then .iface 276 (.pointer (some aB)) else .iface 276 (.pointer (some aT))
theorem PF (c:Int)(w:World)(hs:WO w aS aB aT)(hc: 1≤c∧c≤3):
  Calls Tryz.prog 57 #[Ir aS aB aT c] w fun e w'=>e= .returned (.int .i64 c)∧w'=w:=by
 have h:c=1∨c=2∨c=3:=by omega
 obtain ⟨h1,h2,h3,-,-,-,rS,rB,rT,nSB,nST,nBT⟩:=hs;have f:=Ab (And.intro nSB (And.intro nST nBT));have a:=Ab (show Wv w aS from rS);have b:=Ab (show Wv w aB from rB);have d:=Ab (show Wv w aT from rT);clear rS rB rT nSB nST nBT hc;rcases h with rfl | rfl | rfl
 all_goals
  simp only[Ir,if_true,if_false,show (2 :Int)≠1 from by decide,show (3 :Int)≠1 from by decide,show (3 :Int)≠2 from by decide];go_enter Tryz.func57,Tryz.ntmps57
  repeat (go_wp2_with fail;refine (KU (by have:=Aa f;grind) (by first | exact Aa a | exact Aa b | exact Aa d) (by first | exact Aa a | exact Aa b | exact Aa d)).mono ?_;rintro e w' ⟨rfl,rfl⟩)
  go_wp2_with fail
  refine (QN _ _).mono ?_;rintro e w' ⟨rfl,rfl⟩;go_wp2_with fail
  go_ret
  exact ⟨rfl,rfl⟩
theorem ET (i:Int)(t:TypeId)(p:Value)(w:World):
  Calls Tryz.prog 83 #[.int .i64 i,.iface t p] w fun e w'=>e= .returned (.iface 107 (.pointer (some ⟨w.heap.size,0,none⟩)))∧Al w' w.heap.size #[.int .i64 i,.iface t p] 112∧Below w.heap.size w w':=by
 go_enter Tryz.func83,Tryz.ntmps83
 go_wp2
 go_ret
 exact ⟨rfl,Al.new _ _ _,(Below.refl w.heap.size w).alloc NLN _⟩
theorem Kv (b d f:Addr)(c:Int):∃ a,Ir b d f c= .iface 276 (.pointer (some a)):=by
 unfold Ir;split
 ·exact ⟨_,rfl⟩
 ·split
  ·exact ⟨_,rfl⟩
  ·exact ⟨_,rfl⟩
theorem TH (b:Nat)(i c:Int)(w:World)(hs:WO w aS aB aT)(a:Al w b #[.int .i64 i,Ir aS aB aT c] 112)(hc: 1≤c∧c≤3):
  Calls Tryz.prog 35 #[.iface 107 (.pointer (some ⟨b,0,none⟩))] w fun e w'=>e= .returned (.agg #[.int .i64 c,.int .i64 i])∧Below w.heap.size w w':=by
 obtain ⟨ac,d⟩:=Kv aS aB aT c;rw[d] at a;exact Ic b i c ac w hs.gE (by have:=hs.big;omega) a fun W h=>by rw[← d];exact PF c W (hs.below h NLN) hc
end Go.Proofs.YtchakjeegneeoaaGreatDoor
namespace Go.Proofs.YtchakjeegneeoaaGreatDoor
set_option maxHeartbeats 1600000
open Go.RowKit
set_option linter.unusedVariables false
structure S6 (w:World) (a1 a2 a3 a4 a5 a6:Addr):Prop where
 g1:w.cell? ⟨1,0,none⟩=some (.iface 276 (.pointer (some a1)))
 g2:w.cell? ⟨5,0,none⟩=some (.iface 276 (.pointer (some a2)))
 g3:w.cell? ⟨6,0,none⟩=some (.iface 276 (.pointer (some a3)))
 g4:w.cell? ⟨7,0,none⟩=some (.iface 276 (.pointer (some a4)))
 g5:w.cell? ⟨2,0,none⟩=some (.iface 276 (.pointer (some a5)))
 g6:w.cell? ⟨3,0,none⟩=some (.iface 276 (.pointer (some a6)))
 gE:w.cell? ⟨4,0,none⟩=some (.iface 193 (.agg #[.pointer (some ⟨20,72,none⟩)]))
 gR:∃ tp p,w.var? Tryz.prog "strconv.ErrRange" =some #[.iface tp p]
 big: 20≤w.heap.size
 rows:∀ a∈ [a1,a2,a3,a4,a5,a6],∃ c t,w.heap[a.block]? =some (.cells c t (0,0))
 nd:([a1,a2,a3,a4,a5,a6]:List Addr).Nodup
variable {a1 a2 a3 a4 a5 a6 : Addr}
theorem S6.snt {w:World}(h:S6 w a1 a2 a3 a4 a5 a6):WO w a1 a2 a3:=by
 have nd:=h.nd;simp only[List.nodup_cons,zE,not_or] at nd;exact ⟨h.g1,h.g2,h.g3,h.gE,h.gR,h.big,h.rows _ (by simp),h.rows _ (by simp),h.rows _ (by simp),nd.1.1,nd.1.2.1,nd.2.1.1⟩
theorem S6.below {w w':World}{B:Nat}(h:S6 w a1 a2 a3 a4 a5 a6)(b:Below B w w')(hB:w.heap.size≤B):S6 w' a1 a2 a3 a4 a5 a6 where
 g1:=(b.cell (p:=⟨1,0,none⟩) (by have:=h.big;show 1 < B;omega)).trans h.g1
 g2:=(b.cell (p:=⟨5,0,none⟩) (by have:=h.big;show 5 < B;omega)).trans h.g2
 g3:=(b.cell (p:=⟨6,0,none⟩) (by have:=h.big;show 6 < B;omega)).trans h.g3
 g4:=(b.cell (p:=⟨7,0,none⟩) (by have:=h.big;show 7 < B;omega)).trans h.g4
 g5:=(b.cell (p:=⟨2,0,none⟩) (by have:=h.big;show 2 < B;omega)).trans h.g5
 g6:=(b.cell (p:=⟨3,0,none⟩) (by have:=h.big;show 3 < B;omega)).trans h.g6
 gE:=(b.cell (p:=⟨4,0,none⟩) (by have:=h.big;show 4 < B;omega)).trans h.gE
 gR:=(h.snt.below b hB).gR
 big:=zD h.big b.size
 rows:=fun a c=>Wv.below (h.rows a c) b hB
 nd:=h.nd
def ad6 (a4 a5 a6:Addr) (c:Int):Addr:=if c=4 then a4 else if c=5 then a5 else a6
theorem Vt (c:Int)(w:World)(hs:S6 w a1 a2 a3 a4 a5 a6)(hc: 4≤c∧c≤6):
  Calls Tryz.prog 57 #[.iface 276 (.pointer (some (ad6 a4 a5 a6 c)))] w fun e w'=>e= .returned (.int .i64 c)∧w'=w:=by
 have h:c=4∨c=5∨c=6:=by omega
 obtain ⟨h1,h2,h3,h4,h5,h6,-,-,-,rows,nd⟩:=hs;have b:=Ab nd;have a:=Ab rows;clear nd rows hc;rcases h with rfl | rfl | rfl
 all_goals
  simp only[ad6,if_true,if_false,show (5 :Int)≠4 from by decide,show (6 :Int)≠4 from by decide,show (6 :Int)≠5 from by decide];go_enter Tryz.func57,Tryz.ntmps57
  repeat (go_wp2_with fail;refine (KU (by have:=Aa b;simp at this;grind) (by exact Aa a _ (by simp)) (by exact Aa a _ (by simp))).mono ?_;rintro e w' ⟨rfl,rfl⟩)
  go_wp2_with fail
  refine (QN _ _).mono ?_;rintro e w' ⟨rfl,rfl⟩;go_wp2_with fail
  go_ret
  exact ⟨rfl,rfl⟩
def ErP (a4 a5 a6:Addr) (c i:Int) (b:Nat) (w:World):Prop:=Al w b #[.int .i64 i,.iface 276 (.pointer (some (ad6 a4 a5 a6 c)))] 112
theorem ZS (b:Nat)(c i:Int)(w:World)(hs:S6 w a1 a2 a3 a4 a5 a6)(a:ErP a4 a5 a6 c i b w)(hc: 4≤c∧c≤6):
  Calls Tryz.prog 35 #[.iface 107 (.pointer (some ⟨b,0,none⟩))] w fun e w'=>e= .returned (.agg #[.int .i64 c,.int .i64 i])∧Below w.heap.size w w':=
 Ic b i c _ w hs.gE (by have:=hs.big;omega) a fun W h=>Vt c W (hs.below h NLN) hc
end Go.Proofs.YtchakjeegneeoaaGreatDoor
