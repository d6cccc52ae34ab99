/-
  As, Is, TF, GG, WD, KTA, PPA, AQ0. Own work.
-/
import Derived.Test.YtffkofkjpckmpaaGreatDoorRows
import Derived.WalkKit
import Derived.LaidEql
import Derived.Stop.Asserts
import Derived.RowKitTokens
import Derived.Test.YtffkofkjpckmpaaGreatDoorMXAA
import Derived.Test.YtffkofkjpckmpaaGreatDoorMXAC
import Derived.Deep.RegionHeld3
import Derived.Test.YtffkofkjpckmpaaGreatDoorMXAI
import Derived.Lib.ItoaNum
namespace Go.Proofs.YtffkofkjpckmpaaGreatDoor
set_option maxHeartbeats 4000000
open Go.RowKit Go.Extern.Stop Go.Stop Go.Extern
theorem PK (t:Addr)(w:World):(ReflectliteValue.unpack (.iface 106 (.pointer (some t)))).run Tryz.prog w
  = .ok (.agg #[.pointer (some ⟨17,106,none⟩),.pointer (some ⟨w.heap.size,0,none⟩),.int .u64 150]) (w.alloc (.cells #[.pointer (some t)] 106)):=by kernel_rfl
theorem Wk (a:Addr)(w:World):(ReflectliteValue.methodAny (ReflectliteValue.valueError "reflectlite.Value.Type" 0) (fun t _ _ _=>ReflectliteType.toType t) #[.agg #[.pointer (some ⟨17,106,none⟩),.pointer (some a),.int .u64 150]]).run Tryz.prog w
  = .ok (.iface 211 (.agg #[.pointer (some ⟨17,106,none⟩)])) w:=by kernel_rfl
theorem NU (h:Value)(w:World):(Go.method 429 211 (.agg #[h]) "Kind").run Tryz.prog w= .ok (233,h) w:=by kernel_rfl
theorem Wl (w:World):((ReflectliteType.abiMethod fun t=>(fun a:Nat=>Value.int IntKind.u8 (a:Int)) <$> Rtype.kind t) #[.pointer (some ⟨17,106,none⟩)]).run Tryz.prog w= .ok (.int .u8 22) w:=by kernel_rfl
theorem Wm (w:World):((ReflectliteType.abiMethod fun t=>(fun a:Nat=>Value.int IntKind.u8 (a:Int)) <$> Rtype.kind t) #[.pointer (some ⟨17,104,none⟩)]).run Tryz.prog w= .ok (.int .u8 22) w:=by kernel_rfl
theorem XT {a:Array Value→Sort _}(v:Value)(h1:(v:Value)→a #[v])(h2:(x:Array Value)→a x):ReflectliteValue.method.match_2 a #[v] h1 h2=h1 v:=rfl
theorem AbJ {a:Array Value→Sort _}(v x:Value)(h1:(v x:Value)→a #[v,x])(h2:(x:Array Value)→a x):ReflectliteValue.set.match_3 a #[v,x] h1 h2=h1 v x:=rfl
theorem Me (a:Addr)(w:World):(ReflectliteValue.parts (.agg #[.pointer (some ⟨17,106,none⟩),.pointer (some a),.int .u64 150])).run Tryz.prog w= .ok (some (106,a,150)) w:=by kernel_rfl
theorem TI (a p:Addr)(b:World)(c:b.cell? a=some (.pointer (some p))):
  (ReflectliteValue.method (ReflectliteValue.valueError "reflectlite.Value.IsNil" 0) ReflectliteValue.isNil #[.agg #[.pointer (some ⟨17,106,none⟩),.pointer (some a),.int .u64 150]]).run Tryz.prog b= .ok (.bool false) b:=by
 delta ReflectliteValue.method
 rw[XT];simp only[Sem.run_bind,Me,Result.andThen];simp[ReflectliteValue.isNil,loadVar,isAgg,underlying,Tryz.underlying106,c,Result.andThen]
theorem NV (h:Value)(w:World):(Go.method 429 211 (.agg #[h]) "Elem").run Tryz.prog w= .ok (254,.agg #[h]) w:=by kernel_rfl
theorem IK (h:Value)(w:World):(Go.method 429 211 (.agg #[h]) "Implements").run Tryz.prog w= .ok (255,.agg #[h]) w:=by kernel_rfl
theorem GN (h:Value)(w:World):(Go.method 429 211 (.agg #[h]) "AssignableTo").run Tryz.prog w= .ok (252,.agg #[h]) w:=by kernel_rfl
theorem Wn (w:World):(ReflectliteType.method ReflectliteType.elem #[.agg #[.pointer (some ⟨17,106,none⟩)]]).run Tryz.prog w= .ok (.iface 211 (.agg #[.pointer (some ⟨17,104,none⟩)])) w:=by kernel_rfl
theorem LN (w:World):(ReflectliteType.relation "Implements" ReflectliteType.implements_ #[.agg #[.pointer (some ⟨17,104,none⟩)],.iface 211 (.agg #[.pointer (some ⟨17,55,none⟩)])]).run Tryz.prog w= .ok (.bool true) w:=by kernel_rfl
theorem Q6 (v:Value)(w:World):(ReflectliteType.typeOf #[.iface 104 v]).run Tryz.prog w= .ok (.iface 211 (.agg #[.pointer (some ⟨17,104,none⟩)])) w:=by kernel_rfl
theorem LO (w:World):(ReflectliteType.relation "AssignableTo" ReflectliteType.assignableTo #[.agg #[.pointer (some ⟨17,104,none⟩)],.iface 211 (.agg #[.pointer (some ⟨17,104,none⟩)])]).run Tryz.prog w= .ok (.bool true) w:=by kernel_rfl
theorem PL (e:Addr)(w:World):(ReflectliteValue.unpack (.iface 104 (.pointer (some e)))).run Tryz.prog w
  = .ok (.agg #[.pointer (some ⟨17,104,none⟩),.pointer (some ⟨w.heap.size,0,none⟩),.int .u64 150]) (w.alloc (.cells #[.pointer (some e)] 104)):=by kernel_rfl
theorem Q7 (w:World):(Rtype.elem? 106).run Tryz.prog w= .ok (some 104) w:=by kernel_rfl
theorem Aaa (p:Addr)(w:World):(ReflectliteValue.mk 104 p ReflectliteValue.flagAddr).run Tryz.prog w= .ok (.agg #[.pointer (some ⟨17,104,none⟩),.pointer (some p),.int .u64 406]) w:=by kernel_rfl
theorem TJ (a p:Addr)(b:World)(c:b.cell? a=some (.pointer (some p))):
  (ReflectliteValue.method (ReflectliteValue.valueError "reflectlite.Value.Elem" 0) ReflectliteValue.elem #[.agg #[.pointer (some ⟨17,106,none⟩),.pointer (some a),.int .u64 150]]).run Tryz.prog b
   = .ok (.agg #[.pointer (some ⟨17,104,none⟩),.pointer (some p),.int .u64 406]) b:=by
 delta ReflectliteValue.method
 rw[XT];simp only[Sem.run_bind,Me,Result.andThen];simp[ReflectliteValue.elem,loadVar,isAgg,underlying,Tryz.underlying106,c,Result.andThen,Q7,Aaa]
theorem Q8 (a:Addr)(w:World):(ReflectliteValue.parts (.agg #[.pointer (some ⟨17,104,none⟩),.pointer (some a),.int .u64 406])).run Tryz.prog w= .ok (some (104,a,406)) w:=by kernel_rfl
theorem TK (a:Addr)(w:World):(ReflectliteValue.parts (.agg #[.pointer (some ⟨17,104,none⟩),.pointer (some a),.int .u64 150])).run Tryz.prog w= .ok (some (104,a,150)) w:=by kernel_rfl
theorem Q9 (w:World):(Rtype.directlyAssignable 104 104).run Tryz.prog w= .ok true w:=by kernel_rfl
theorem XU (c b e:Addr)(d:Value)(a:World)(f:a.cell? b=some (.pointer (some e)))(ht:a.cell? c=some d)(hf:a.frozen? c=false):
  (ReflectliteValue.set #[.agg #[.pointer (some ⟨17,104,none⟩),.pointer (some c),.int .u64 406],.agg #[.pointer (some ⟨17,104,none⟩),.pointer (some b),.int .u64 150]]).run Tryz.prog a
   = .ok (.tuple #[]) (a.setCell c (.pointer (some e))):=by
 delta ReflectliteValue.set
 rw[AbJ];simp only[Sem.run_bind,Q8,TK,Result.andThen];simp[ReflectliteValue.flagAddr,loadVar,isAgg,underlying,Tryz.underlying104,f,Result.andThen,Q9,storeVar,Value.cells,storeCells,Addr.add];rw[run_store Tryz.prog a c _ _ (by rfl)];simp[ht,hf]
theorem XV (e t:Addr)(a:Value)(w:World)(b:w.cell? ⟨3,0,none⟩=some (.iface 211 (.agg #[.pointer (some ⟨17,55,none⟩)])))(c:w.cell? t=some a)(f:w.frozen? t=false):
  Calls Tryz.prog 45 #[.iface 104 (.pointer (some e)),.iface 106 (.pointer (some t))] w fun g w'=>g= .returned (.bool true)∧w'=((((w.alloc (.cells #[.pointer (some t)] 106)).alloc (.cells #[.pointer (some ⟨17,106,none⟩),.pointer (some ⟨w.heap.size,0,none⟩),.int .u64 150] 159)).alloc (.cells #[.pointer (some ⟨17,106,none⟩),.pointer (some ⟨w.heap.size,0,none⟩),.int .u64 150] 159)).alloc (.cells #[.pointer (some e)] 104)).setCell t (.pointer (some e)):=by
 have h6:=@run_callFunc_extern Tryz.prog 88 _ (fun args=>ReflectliteValue.unpack (args.getD 0 (.tuple #[]))) Tryz.func88 (by kernel_rfl) (by kernel_rfl) (by kernel_rfl) (by kernel_rfl);have h7:=@run_callFunc_extern Tryz.prog 89 _ (ReflectliteValue.methodAny (ReflectliteValue.valueError "reflectlite.Value.Type" 0) (fun t _ _ _=>ReflectliteType.toType t)) Tryz.func89 (by kernel_rfl) (by kernel_rfl) (by kernel_rfl) (by kernel_rfl);have h8:=@run_callFunc_extern Tryz.prog 90 _ (ReflectliteValue.method (ReflectliteValue.valueError "reflectlite.Value.IsNil" 0) ReflectliteValue.isNil) Tryz.func90 (by kernel_rfl) (by kernel_rfl) (by kernel_rfl) (by kernel_rfl);have j:=@run_callFunc_extern Tryz.prog 233 _ (ReflectliteType.abiMethod fun t=>do pure (.int .u8 (← Rtype.kind t))) Tryz.func233 (by kernel_rfl) (by kernel_rfl) (by kernel_rfl) (by kernel_rfl);have k:=@run_callFunc_extern Tryz.prog 254 _ (ReflectliteType.method ReflectliteType.elem) Tryz.func254 (by kernel_rfl) (by kernel_rfl) (by kernel_rfl) (by kernel_rfl);have l:=@run_callFunc_extern Tryz.prog 255 _ (ReflectliteType.relation "Implements" ReflectliteType.implements_) Tryz.func255 (by kernel_rfl) (by kernel_rfl) (by kernel_rfl) (by kernel_rfl);have h10:=@run_callFunc_extern Tryz.prog 129 _ ReflectliteType.typeOf Tryz.func129 (by kernel_rfl) (by kernel_rfl) (by kernel_rfl) (by kernel_rfl);have m:=@run_callFunc_extern Tryz.prog 252 _ (ReflectliteType.relation "AssignableTo" ReflectliteType.assignableTo) Tryz.func252 (by kernel_rfl) (by kernel_rfl) (by kernel_rfl) (by kernel_rfl);have h11:=@run_callFunc_extern Tryz.prog 130 _ (ReflectliteValue.method (ReflectliteValue.valueError "reflectlite.Value.Elem" 0) ReflectliteValue.elem) Tryz.func130 (by kernel_rfl) (by kernel_rfl) (by kernel_rfl) (by kernel_rfl);have h12:=@run_callFunc_extern Tryz.prog 131 _ ReflectliteValue.set Tryz.func131 (by kernel_rfl) (by kernel_rfl) (by kernel_rfl) (by kernel_rfl);have n:=Q6;have o:=GN;have p:=LO;have q:=PL;have r:=PK;have s:=Wk;have u:=NU;have v:=NV;have x:=IK;have y:=Wl;have z:=Wm;have A:=Wn;have B:=LN;have C:=TI ⟨w.heap.size,0,none⟩ t ((w.alloc (.cells #[.pointer (some t)] 106)).alloc (.cells #[.pointer (some ⟨17,106,none⟩),.pointer (some ⟨w.heap.size,0,none⟩),.int .u64 150] 159)) (by simp);have i: 3 < w.heap.size:=by
  rcases Nat.lt_or_ge 3 w.heap.size with h | h
  ·exact h
  ·simp[World.cell?,Array.getElem?_eq_none h] at b
 have E:((w.alloc (.cells #[.pointer (some t)] 106)).alloc (.cells #[.pointer (some ⟨17,106,none⟩),.pointer (some ⟨w.heap.size,0,none⟩),.int .u64 150] 159)).cell? ⟨3,0,none⟩=some (.iface 211 (.agg #[.pointer (some ⟨17,55,none⟩)])):=by
  rw[World.cell?_alloc_lt _ _ ⟨3,0,none⟩ (by simp;omega),World.cell?_alloc_lt _ _ ⟨3,0,none⟩ i];exact b
 have d:t.block < w.heap.size:=by
  rcases Nat.lt_or_ge t.block w.heap.size with h | h
  ·exact h
  ·simp[World.cell?,Array.getElem?_eq_none h] at c
 have F:=TJ ⟨w.heap.size,0,none⟩ t (((w.alloc (.cells #[.pointer (some t)] 106)).alloc (.cells #[.pointer (some ⟨17,106,none⟩),.pointer (some ⟨w.heap.size,0,none⟩),.int .u64 150] 159)).alloc (.cells #[.pointer (some ⟨17,106,none⟩),.pointer (some ⟨w.heap.size,0,none⟩),.int .u64 150] 159)) (by rw[World.cell?_alloc_lt _ _ ⟨w.heap.size,0,none⟩ (by simp;omega)];simp);have st:=XU t ⟨w.heap.size+1+1+1,0,none⟩ e a ((((w.alloc (.cells #[.pointer (some t)] 106)).alloc (.cells #[.pointer (some ⟨17,106,none⟩),.pointer (some ⟨w.heap.size,0,none⟩),.int .u64 150] 159)).alloc (.cells #[.pointer (some ⟨17,106,none⟩),.pointer (some ⟨w.heap.size,0,none⟩),.int .u64 150] 159)).alloc (.cells #[.pointer (some e)] 104))
  (by rw[World.cell?_alloc_at _ _ _ _ (by simp)];rfl)
  (by rw[World.cell?_alloc_lt _ _ t (by simp;omega),World.cell?_alloc_lt _ _ t (by simp;omega),World.cell?_alloc_lt _ _ t (by simp;omega),World.cell?_alloc_lt _ _ t d];exact c)
  (by rw[World.frozen?_alloc_old _ _ t (by simp;omega),World.frozen?_alloc_old _ _ t (by simp;omega),World.frozen?_alloc_old _ _ t (by simp;omega),World.frozen?_alloc_old _ _ t (Nat.ne_of_lt d)];exact f)
 go_enter Tryz.func45,Tryz.ntmps45
 go_wp2
 refine wp_loop_rounds 1 ?_;rw[rounds_succ];go_wp2
 go_ret
 exact ⟨rfl,rfl⟩
theorem Sc (v:Value)(w:World):(Extern.ReflectliteType.typeOf #[.iface 276 v]).run Tryz.prog w= .ok (.iface 211 (.agg #[.pointer (some ⟨17,276,none⟩)])) w:=by kernel_rfl
def YW:TypeId→Sem Value:=fun t=>do Go.Extern.Rtype.noPackHeld "Comparable" t;pure (.bool (← typeInfo t).comparable)
theorem JP (w:World):((Extern.ReflectliteType.method YW) #[.agg #[.pointer (some ⟨17,276,none⟩)]]).run Tryz.prog w= .ok (.bool true) w:=by kernel_rfl
theorem Fi (v:Value)(w:World):(Go.method 429 211 v "Comparable").run Tryz.prog w= .ok (253,v) w:=by kernel_rfl
theorem YX:(Tryz.prog.info? 276).map (·.comparable)=some true:=by kernel_rfl
theorem YY:(Tryz.prog.info? 278).map (·.size)=some 1:=by kernel_rfl
theorem AcN (v:Value)(a:TypeId)(w:World):(Instr.typeAssert (.iface 276 v) a 240 true).run Tryz.prog w= .ok (.tuple #[.nilIface,.bool false]) w:=run_typeAssert_lacksB Tryz.underlying240 (by kernel_rfl) (by kernel_rfl) v a w
theorem WW (v:Value)(a:TypeId)(w:World):(Instr.typeAssert (.iface 276 v) a 219 true).run Tryz.prog w= .ok (.tuple #[.nilIface,.bool false]) w:=run_typeAssert_lacksB Tryz.underlying219 (by kernel_rfl) (by kernel_rfl) v a w
theorem Ux (v:Value)(a:TypeId)(w:World):(Instr.typeAssert (.iface 276 v) a 220 true).run Tryz.prog w= .ok (.tuple #[.nilIface,.bool false]) w:=run_typeAssert_lacksB Tryz.underlying220 (by kernel_rfl) (by kernel_rfl) v a w
theorem Io (a:Addr)(w:World):
  Calls Tryz.prog 92 #[.iface 276 (.pointer (some a)),.iface 276 (.pointer (some a))] w fun e w'=>e= .returned (.bool true)∧w'=w:=by
 obtain ⟨i,hi,b⟩:=Option.map_eq_some_iff.1 YX;obtain ⟨j,c,d⟩:=Option.map_eq_some_iff.1 YY;have h8:=@run_callFunc_extern Tryz.prog 129 _ Extern.ReflectliteType.typeOf Tryz.func129 (by kernel_rfl) (by kernel_rfl) (by kernel_rfl) (by kernel_rfl);have f:=@run_callFunc_extern Tryz.prog 253 _ (Extern.ReflectliteType.method YW) Tryz.func253 (by kernel_rfl) (by kernel_rfl) (by kernel_rfl) (by kernel_rfl);have g:=Sc;have h:=JP;have k:=Fi;have l:=run_eql_iface_ptr_same (P:=Tryz.prog) w a Tryz.underlying55 Tryz.underlying276 hi b c;go_enter Tryz.func92,Tryz.ntmps92
 go_wp2
 refine wp_loop_rounds 1 ?_;rw[rounds_succ];go_wp2
 go_ret
 exact ⟨rfl,rfl⟩
theorem YZ (a b:Addr)(c d:Array Value)(f g:TypeId)(w:World)(h:a≠b)(k:w.heap[a.block]? =some (.cells c f (0,0)))(l:w.heap[b.block]? =some (.cells d g (0,0))):
  Calls Tryz.prog 92 #[.iface 276 (.pointer (some a)),.iface 276 (.pointer (some b))] w fun e w'=>e= .returned (.bool false)∧w'=w:=by
 obtain ⟨i,hi,m⟩:=Option.map_eq_some_iff.1 YX;obtain ⟨j,n,o⟩:=Option.map_eq_some_iff.1 YY;have h8:=@run_callFunc_extern Tryz.prog 129 _ Extern.ReflectliteType.typeOf Tryz.func129 (by kernel_rfl) (by kernel_rfl) (by kernel_rfl) (by kernel_rfl);have p:=@run_callFunc_extern Tryz.prog 253 _ (Extern.ReflectliteType.method YW) Tryz.func253 (by kernel_rfl) (by kernel_rfl) (by kernel_rfl) (by kernel_rfl);have q:=Sc;have r:=JP;have s:=Fi;have t:=AcN;have u:=WW;have v:=Ux;have x:=run_eql_iface_ptr_other (P:=Tryz.prog) w Tryz.underlying55 Tryz.underlying276 hi m n (by rw[o];decide) h k l;go_enter Tryz.func92,Tryz.ntmps92
 go_wp2
 refine wp_loop_rounds 1 ?_;rw[rounds_succ];go_wp2
 go_ret
 exact ⟨rfl,rfl⟩
end Go.Proofs.YtffkofkjpckmpaaGreatDoor
namespace Go.Proofs.YtffkofkjpckmpaaGreatDoor
set_option maxHeartbeats 1600000
open Go.RowKit
set_option linter.unusedVariables false
structure Oc (w:World) (aS aB aT:Addr):Prop where
 gS:w.cell? ⟨0,0,none⟩=some (.iface 276 (.pointer (some aS)))
 gB:w.cell? ⟨4,0,none⟩=some (.iface 276 (.pointer (some aB)))
 gT:w.cell? ⟨5,0,none⟩=some (.iface 276 (.pointer (some aT)))
 gE:w.cell? ⟨3,0,none⟩=some (.iface 211 (.agg #[.pointer (some ⟨17,55,none⟩)]))
 gR:∃ tp p,w.var? Tryz.prog "strconv.ErrRange" =some #[.iface tp p]
 big: 17≤w.heap.size
 rS:∃ c t,w.heap[aS.block]? =some (.cells c t (0,0))
 rB:∃ c t,w.heap[aB.block]? =some (.cells c t (0,0))
 rT:∃ c t,w.heap[aT.block]? =some (.cells c t (0,0))
 nSB:aS≠aB
 nST:aS≠aT
 nBT:aB≠aT
theorem In {w w':World}{B:Nat}{a:Addr}(h:∃ c t,w.heap[a.block]? =some (.cells c t (0,0)))(b:Below B w w')(d:w.heap.size≤B):∃ c t,w'.heap[a.block]? =some (.cells c t (0,0)):=by
 obtain ⟨c,t,h⟩:=h;have f:a.block < w.heap.size:=(yD.1 h).1;exact ⟨c,t,(b.block _ (by omega)).trans h⟩
theorem Acs: Tryz.prog.globalNamed "strconv.ErrRange" =some 13:=by kernel_rfl
theorem Oc.below {w w':World}{B:Nat}{aS aB aT:Addr}(h:Oc w aS aB aT)(a:Below B w w')(b:w.heap.size≤B):Oc w' aS aB aT where
 gS:=(a.cell (p:=⟨0,0,none⟩) (by have:=h.big;show 0 < B;omega)).trans h.gS
 gB:=(a.cell (p:=⟨4,0,none⟩) (by have:=h.big;show 4 < B;omega)).trans h.gB
 gT:=(a.cell (p:=⟨5,0,none⟩) (by have:=h.big;show 5 < B;omega)).trans h.gT
 gE:=(a.cell (p:=⟨3,0,none⟩) (by have:=h.big;show 3 < B;omega)).trans h.gE
 gR:=by
  obtain ⟨c,p,e⟩:=h.gR;refine ⟨c,p, ?_⟩;rw[← e];unfold World.var?;rw[Acs];simp only[Option.bind_some];rw[a.block 13 (by have:=h.big;omega)]
 big:=zL h.big a.size
 rS:=In h.rS a b
 rB:=In h.rB a b
 rT:=In h.rT a b
 nSB:=h.nSB
 nST:=h.nST
 nBT:=h.nBT
theorem Oc.of_heap {w w':World}{aS aB aT:Addr}(h:Oc w aS aB aT)(e:w'.heap=w.heap):Oc w' aS aB aT:=by
 have c:∀ p,w'.cell? p=w.cell? p:=fun p=>by unfold World.cell?;rw[e]
 refine ⟨by rw[c];exact h.gS,by rw[c];exact h.gB,by rw[c];exact h.gT,by rw[c];exact h.gE, ?_,by rw[e];exact h.big,by rw[e];exact h.rS,by rw[e];exact h.rB,by rw[e];exact h.rT,h.nSB,h.nST,h.nBT⟩;obtain ⟨a,p,k⟩:=h.gR;refine ⟨a,p, ?_⟩;rw[← k];unfold World.var?;rw[e]
variable {aS aB aT : Addr}
def Jc (aS aB aT:Addr) (c:Int):Value:=if c=1 then .iface 276 (.pointer (some aS)) else if c=2 then .iface 276 (.pointer (some aB)) else .iface 276 (.pointer (some aT))
theorem Bs {a b:Addr}{w:World}(g:a≠b)(d:∃ c t,w.heap[a.block]? =some (.cells c t (0,0)))(f:∃ c t,w.heap[b.block]? =some (.cells c t (0,0))):
  Calls Tryz.prog 92 #[.iface 276 (.pointer (some a)),.iface 276 (.pointer (some b))] w fun e w'=>e= .returned (.bool false)∧w'=w:=by
 obtain ⟨c,t,d⟩:=d;obtain ⟨h,i,f⟩:=f;exact YZ a b c h t i w g d f
theorem Te (w:World)(hs:Oc w aS aB aT):
  Calls Tryz.prog 46 #[.iface 276 (.pointer (some aS))] w fun e w'=>e= .returned (.int .i64 1)∧w'=w:=by
 have h1:=hs.gS;go_enter Tryz.func46,Tryz.ntmps46
 go_wp2_with fail
 refine (Io aS w).mono ?_;rintro e w' ⟨rfl,rfl⟩;go_wp2_with fail
 go_ret
 exact ⟨rfl,rfl⟩
theorem Tf (w:World)(hs:Oc w aS aB aT):
  Calls Tryz.prog 46 #[.iface 276 (.pointer (some aB))] w fun e w'=>e= .returned (.int .i64 2)∧w'=w:=by
 have h1:=hs.gS;have h2:=hs.gB;go_enter Tryz.func46,Tryz.ntmps46
 go_wp2_with fail
 refine (Bs (fun e=>hs.nSB e.symm) hs.rB hs.rS).mono ?_;rintro e w' ⟨rfl,rfl⟩;go_wp2_with fail
 refine (Io aB _).mono ?_;rintro e w' ⟨rfl,rfl⟩;go_wp2_with fail
 go_ret
 exact ⟨rfl,rfl⟩
theorem Tg (w:World)(hs:Oc w aS aB aT):
  Calls Tryz.prog 46 #[.iface 276 (.pointer (some aT))] w fun e w'=>e= .returned (.int .i64 3)∧w'=w:=by
 have h1:=hs.gS;have h2:=hs.gB;have h3:=hs.gT;go_enter Tryz.func46,Tryz.ntmps46
 go_wp2_with fail
 refine (Bs (fun e=>hs.nST e.symm) hs.rT hs.rS).mono ?_;rintro e w' ⟨rfl,rfl⟩;go_wp2_with fail
 refine (Bs (fun e=>hs.nBT e.symm) hs.rT hs.rB).mono ?_;rintro e w' ⟨rfl,rfl⟩;go_wp2_with fail
 refine (Io aT _).mono ?_;rintro e w' ⟨rfl,rfl⟩;go_wp2_with fail
 go_ret
 exact ⟨rfl,rfl⟩
theorem Ox (c:Int)(w:World)(hs:Oc w aS aB aT)(hc: 1≤c∧c≤3):
  Calls Tryz.prog 46 #[Jc aS aB aT c] w fun e w'=>e= .returned (.int .i64 c)∧w'=w:=by
 have h:c=1∨c=2∨c=3:=by omega
 rcases h with rfl | rfl | rfl
 ·exact Te w hs
 ·exact Tf w hs
 ·exact Tg w hs
theorem Ez (i:Int)(t:TypeId)(p:Value)(w:World):
  Calls Tryz.prog 82 #[.int .i64 i,.iface t p] w fun e w'=>e= .returned (.iface 104 (.pointer (some ⟨w.heap.size,0,none⟩)))∧Am w' w.heap.size #[.int .i64 i,.iface t p] 109∧Below w.heap.size w w':=by
 go_enter Tryz.func82,Tryz.ntmps82
 go_wp2
 go_ret
 exact ⟨rfl,Am.new _ _ _,(Below.refl w.heap.size w).alloc NLN _⟩
theorem Ky {c:Func}{a:Tmp}(h:c.results= #[.cell a 30]){d:Array Value}{w:World}{b:Nat}{f g:Value}(i:d.getD a undef= .pointer (some ⟨b,0,none⟩))
  (j:w.cell? ⟨b,0,none⟩=some f)(g1:w.cell? ⟨b,1,none⟩=some g):
  (results c d).run Tryz.prog w= .ok (.agg #[f,g]) w:=by
 rw[yA] at i;simp[results,h,i,go_sem,j,g1]
theorem RU (w:World):
  Calls Tryz.prog 18 #[.nilIface] w fun e w'=>e= .returned (.agg #[.int .i64 0,.int .i64 0])∧Below w.heap.size w w':=by
 go_enter Tryz.func18,Tryz.ntmps18
 go_wp2
 have R:=Am.new w #[.int .i64 0,.int .i64 0] 30;have a:=R.cell 0;have g1:=R.cell 1;refine bodyPost_ret (Ky Tryz.results18 rfl a g1) rfl ⟨rfl,(Below.refl w.heap.size w).alloc NLN _⟩
theorem J0 (aS aB aT:Addr)(c:Int):∃ a,Jc aS aB aT c= .iface 276 (.pointer (some a)):=by
 unfold Jc;split
 ·exact ⟨_,rfl⟩
 ·split
  ·exact ⟨_,rfl⟩
  ·exact ⟨_,rfl⟩
theorem RW (b:Nat)(i c:Int)(w:World)(hs:Oc w aS aB aT)(h:Am w b #[.int .i64 i,Jc aS aB aT c] 109)(hc: 1≤c∧c≤3):
  Calls Tryz.prog 18 #[.iface 104 (.pointer (some ⟨b,0,none⟩))] w fun e w'=>e= .returned (.agg #[.int .i64 c,.int .i64 i])∧Below w.heap.size w w':=by
 obtain ⟨l,m⟩:=J0 aS aB aT c;have n:=Ab (fun w hs=>Ox (aS:=aS) (aB:=aB) (aT:=aT) c w hs hc);rw[m] at h n;clear m;have a:=((Below.refl w.heap.size w).alloc NLN (.cells #[.int .i64 0,.int .i64 0] 30)).alloc (by simp) (.cells #[.pointer none] 104);have o:=(Am.new w #[.int .i64 0,.int .i64 0] 30).alloc (.cells #[.pointer none] 104);have d:=Am.new (w.alloc (.cells #[.int .i64 0,.int .i64 0] 30)) #[.pointer none] 104;have q:=Ab (hs.below a NLN).gE;have r:=h.after a NLN;have M:=h.lt;have N:((w.alloc (.cells #[.int .i64 0,.int .i64 0] 30)).alloc (.cells #[.pointer none] 104)).heap.size=w.heap.size+2:=by simp
 simp only[World.size_alloc] at d;have y:=Ab hs;clear hs h;go_enter Tryz.func18,Tryz.ntmps18
 go_wp2_with fail
 generalize (w.alloc (.cells #[.int .i64 0,.int .i64 0] 30)).alloc (.cells #[.pointer none] 104)=z at *;have s:=d.cell 0;refine (XV ⟨b,0,none⟩ ⟨w.heap.size+1,0,none⟩ (.pointer none) z (Aa q) (by simpa using s) (d.frozen 0)).mono ?_;rintro e f ⟨rfl,g⟩;have t:Below w.heap.size w f:=by
  rw[g];exact ((((a.alloc a.size _).alloc (by simp;omega) _).alloc (by simp;omega) _).alloc (by simp;omega) _).setCell (p:=⟨w.heap.size+1,0,none⟩) (by show w.heap.size≤w.heap.size+1;omega) _
 have j:Am f w.heap.size #[.int .i64 0,.int .i64 0] 30:=by
  rw[g];exact ((((o.alloc _).alloc _).alloc _).alloc _).setFar (p:=⟨w.heap.size+1,0,none⟩) (by show w.heap.size≠w.heap.size+1;omega) _
 have A:Am f (w.heap.size+1) #[.pointer (some ⟨b,0,none⟩)] 104:=by
  rw[g];exact ((((d.alloc _).alloc _).alloc _).alloc _).set 0 _
 have u:Am f b #[.int .i64 i,.iface 276 (.pointer (some l))] 109:=by
  rw[g];exact ((((r.alloc _).alloc _).alloc _).alloc _).setFar (p:=⟨w.heap.size+1,0,none⟩) (by show b≠w.heap.size+1;omega) _
 have B:=Ab ((Aa y).below t NLN);clear g a o d r q s;have C:=A.cell 0;have E:=u.cell 0;have F:=u.cell 1;have O:=fun k=>j.frozen k;have H:=j.cell 0;have I:=j.cell 1;simp only[zn,zh,zc] at C E F H I;have J:b≠w.heap.size:=by omega
 have P:w.heap.size≠b:=by omega
 have Q: ¬ (b=w.heap.size):=J;go_wp2_with fail
 go_region_held3 (fun w'=>w'.cell? ⟨w.heap.size+1,0,none⟩=some (.pointer (some ⟨b,0,none⟩))∧w'.cell? ⟨b,0,none⟩=some (.int .i64 i)∧w'.cell? ⟨b,1,none⟩=some (.iface 276 (.pointer (some l)))) (go_keep)
  ((go_at_call 46;refine (Aa n f.drew (Oc.of_heap (Aa B) rfl)).mono ?_;rintro e R ⟨rfl,v⟩;rw[v];clear v))
 all_goals
  go_wp2_with fail
  have x:=(j.set 0 (.int .i64 c)).set 1 (.int .i64 i);have K:=((t.setCell (p:=⟨w.heap.size,0,none⟩) NLN (.int .i64 c)).setCell (p:=⟨w.heap.size,1,none⟩) NLN (.int .i64 i)).drew;have L:_=some (Value.int .i64 c):=x.cell 0;have g1:_=some (Value.int .i64 i):=x.cell 1;exact bodyPost_ret (Ky Tryz.results18 rfl L g1) rfl ⟨rfl,K⟩
end Go.Proofs.YtffkofkjpckmpaaGreatDoor
namespace Go.Proofs.YtffkofkjpckmpaaGreatDoor
set_option maxHeartbeats 1600000
open Go.RowKit
set_option linter.unusedVariables false
structure S6 (w:World) (a1 a2 a3 a4 a5 a6:Addr):Prop where
 g1:w.cell? ⟨0,0,none⟩=some (.iface 276 (.pointer (some a1)))
 g2:w.cell? ⟨4,0,none⟩=some (.iface 276 (.pointer (some a2)))
 g3:w.cell? ⟨5,0,none⟩=some (.iface 276 (.pointer (some a3)))
 g4:w.cell? ⟨6,0,none⟩=some (.iface 276 (.pointer (some a4)))
 g5:w.cell? ⟨1,0,none⟩=some (.iface 276 (.pointer (some a5)))
 g6:w.cell? ⟨2,0,none⟩=some (.iface 276 (.pointer (some a6)))
 gE:w.cell? ⟨3,0,none⟩=some (.iface 211 (.agg #[.pointer (some ⟨17,55,none⟩)]))
 gR:∃ tp p,w.var? Tryz.prog "strconv.ErrRange" =some #[.iface tp p]
 big: 17≤w.heap.size
 rows:∀ a∈ [a1,a2,a3,a4,a5,a6],∃ c t,w.heap[a.block]? =some (.cells c t (0,0))
 nd:([a1,a2,a3,a4,a5,a6]:List Addr).Nodup
variable {a1 a2 a3 a4 a5 a6 : Addr}
theorem S6.snt {w:World}(h:S6 w a1 a2 a3 a4 a5 a6):Oc w a1 a2 a3:=by
 have nd:=h.nd;simp only[List.nodup_cons,zG,not_or] at nd;exact ⟨h.g1,h.g2,h.g3,h.gE,h.gR,h.big,h.rows _ (by simp),h.rows _ (by simp),h.rows _ (by simp),nd.1.1,nd.1.2.1,nd.2.1.1⟩
theorem S6.below {w w':World}{B:Nat}(h:S6 w a1 a2 a3 a4 a5 a6)(b:Below B w w')(c:w.heap.size≤B):S6 w' a1 a2 a3 a4 a5 a6 where
 g1:=(b.cell (p:=⟨0,0,none⟩) (by have:=h.big;show 0 < B;omega)).trans h.g1
 g2:=(b.cell (p:=⟨4,0,none⟩) (by have:=h.big;show 4 < B;omega)).trans h.g2
 g3:=(b.cell (p:=⟨5,0,none⟩) (by have:=h.big;show 5 < B;omega)).trans h.g3
 g4:=(b.cell (p:=⟨6,0,none⟩) (by have:=h.big;show 6 < B;omega)).trans h.g4
 g5:=(b.cell (p:=⟨1,0,none⟩) (by have:=h.big;show 1 < B;omega)).trans h.g5
 g6:=(b.cell (p:=⟨2,0,none⟩) (by have:=h.big;show 2 < B;omega)).trans h.g6
 gE:=(b.cell (p:=⟨3,0,none⟩) (by have:=h.big;show 3 < B;omega)).trans h.gE
 gR:=(h.snt.below b c).gR
 big:=zL h.big b.size
 rows:=fun a d=>In (h.rows a d) b c
 nd:=h.nd
theorem S6.drew {w:World}(h:S6 w a1 a2 a3 a4 a5 a6):S6 w.drew a1 a2 a3 a4 a5 a6:=h.below (Below.refl w.heap.size w).drew NLN
theorem PX (w:World)(hs:S6 w a1 a2 a3 a4 a5 a6):
  Calls Tryz.prog 46 #[.iface 276 (.pointer (some a4))] w fun e w'=>e= .returned (.int .i64 4)∧w'=w:=by
 have h1:=hs.g1;have h2:=hs.g2;have h3:=hs.g3;have h4:=hs.g4;have d:=Ab hs.nd;have c:=Ab hs.rows;clear hs;go_enter Tryz.func46,Tryz.ntmps46
 go_wp2_with fail
 refine (Bs (a:=a4) (b:=a1) (by have:=Aa d;simp at this;grind) (Aa c _ (by simp)) (Aa c _ (by simp))).mono ?_;rintro e w' ⟨rfl,rfl⟩;go_wp2_with fail
 refine (Bs (a:=a4) (b:=a2) (by have:=Aa d;simp at this;grind) (Aa c _ (by simp)) (Aa c _ (by simp))).mono ?_;rintro e w' ⟨rfl,rfl⟩;go_wp2_with fail
 refine (Bs (a:=a4) (b:=a3) (by have:=Aa d;simp at this;grind) (Aa c _ (by simp)) (Aa c _ (by simp))).mono ?_;rintro e w' ⟨rfl,rfl⟩;go_wp2_with fail
 refine (Io a4 _).mono ?_;rintro e w' ⟨rfl,rfl⟩;go_wp2_with fail
 go_ret
 exact ⟨rfl,rfl⟩
theorem PY (w:World)(hs:S6 w a1 a2 a3 a4 a5 a6):
  Calls Tryz.prog 46 #[.iface 276 (.pointer (some a5))] w fun e w'=>e= .returned (.int .i64 5)∧w'=w:=by
 have h1:=hs.g1;have h2:=hs.g2;have h3:=hs.g3;have h4:=hs.g4;have h5:=hs.g5;have d:=Ab hs.nd;have c:=Ab hs.rows;clear hs;go_enter Tryz.func46,Tryz.ntmps46
 go_wp2_with fail
 refine (Bs (a:=a5) (b:=a1) (by have:=Aa d;simp at this;grind) (Aa c _ (by simp)) (Aa c _ (by simp))).mono ?_;rintro e w' ⟨rfl,rfl⟩;go_wp2_with fail
 refine (Bs (a:=a5) (b:=a2) (by have:=Aa d;simp at this;grind) (Aa c _ (by simp)) (Aa c _ (by simp))).mono ?_;rintro e w' ⟨rfl,rfl⟩;go_wp2_with fail
 refine (Bs (a:=a5) (b:=a3) (by have:=Aa d;simp at this;grind) (Aa c _ (by simp)) (Aa c _ (by simp))).mono ?_;rintro e w' ⟨rfl,rfl⟩;go_wp2_with fail
 refine (Bs (a:=a5) (b:=a4) (by have:=Aa d;simp at this;grind) (Aa c _ (by simp)) (Aa c _ (by simp))).mono ?_;rintro e w' ⟨rfl,rfl⟩;go_wp2_with fail
 refine (Io a5 _).mono ?_;rintro e w' ⟨rfl,rfl⟩;go_wp2_with fail
 go_ret
 exact ⟨rfl,rfl⟩
theorem PZ (w:World)(hs:S6 w a1 a2 a3 a4 a5 a6):
  Calls Tryz.prog 46 #[.iface 276 (.pointer (some a6))] w fun e w'=>e= .returned (.int .i64 6)∧w'=w:=by
 have h1:=hs.g1;have h2:=hs.g2;have h3:=hs.g3;have h4:=hs.g4;have h5:=hs.g5;have h6:=hs.g6;have d:=Ab hs.nd;have c:=Ab hs.rows;clear hs;go_enter Tryz.func46,Tryz.ntmps46
 go_wp2_with fail
 refine (Bs (a:=a6) (b:=a1) (by have:=Aa d;simp at this;grind) (Aa c _ (by simp)) (Aa c _ (by simp))).mono ?_;rintro e w' ⟨rfl,rfl⟩;go_wp2_with fail
 refine (Bs (a:=a6) (b:=a2) (by have:=Aa d;simp at this;grind) (Aa c _ (by simp)) (Aa c _ (by simp))).mono ?_;rintro e w' ⟨rfl,rfl⟩;go_wp2_with fail
 refine (Bs (a:=a6) (b:=a3) (by have:=Aa d;simp at this;grind) (Aa c _ (by simp)) (Aa c _ (by simp))).mono ?_;rintro e w' ⟨rfl,rfl⟩;go_wp2_with fail
 refine (Bs (a:=a6) (b:=a4) (by have:=Aa d;simp at this;grind) (Aa c _ (by simp)) (Aa c _ (by simp))).mono ?_;rintro e w' ⟨rfl,rfl⟩;go_wp2_with fail
 refine (Bs (a:=a6) (b:=a5) (by have:=Aa d;simp at this;grind) (Aa c _ (by simp)) (Aa c _ (by simp))).mono ?_;rintro e w' ⟨rfl,rfl⟩;go_wp2_with fail
 refine (Io a6 _).mono ?_;rintro e w' ⟨rfl,rfl⟩;go_wp2_with fail
 go_ret
 exact ⟨rfl,rfl⟩
def ad6 (a4 a5 a6:Addr) (c:Int):Addr:=if c=4 then a4 else if c=5 then a5 else a6
theorem Ub (c:Int)(w:World)(hs:S6 w a1 a2 a3 a4 a5 a6)(hc: 4≤c∧c≤6):
  Calls Tryz.prog 46 #[.iface 276 (.pointer (some (ad6 a4 a5 a6 c)))] w fun e w'=>e= .returned (.int .i64 c)∧w'=w:=by
 have h:c=4∨c=5∨c=6:=by omega
 rcases h with rfl | rfl | rfl
 ·exact PX w hs
 ·exact PY w hs
 ·exact PZ w hs
def ErP (a4 a5 a6:Addr) (c i:Int) (b:Nat) (w:World):Prop:=Am w b #[.int .i64 i,.iface 276 (.pointer (some (ad6 a4 a5 a6 c)))] 109
theorem Yh (b:Nat)(c i:Int)(w:World)(hs:S6 w a1 a2 a3 a4 a5 a6)(a:ErP a4 a5 a6 c i b w)(hc: 4≤c∧c≤6):
  Calls Tryz.prog 18 #[.iface 104 (.pointer (some ⟨b,0,none⟩))] w fun e w'=>e= .returned (.agg #[.int .i64 c,.int .i64 i])∧Below w.heap.size w w':=by
 have l:=Ab (fun w hs=>Ub (a1:=a1) (a2:=a2) (a3:=a3) (a4:=a4) (a5:=a5) (a6:=a6) c w hs hc)
 change Am w b #[.int .i64 i,.iface 276 (.pointer (some (ad6 a4 a5 a6 c)))] 109 at a
 clear hc;generalize ad6 a4 a5 a6 c=m at a l;have d:=((Below.refl w.heap.size w).alloc NLN (.cells #[.int .i64 0,.int .i64 0] 30)).alloc (by simp) (.cells #[.pointer none] 104);have n:=(Am.new w #[.int .i64 0,.int .i64 0] 30).alloc (.cells #[.pointer none] 104);have f:=Am.new (w.alloc (.cells #[.int .i64 0,.int .i64 0] 30)) #[.pointer none] 104;have o:=Ab (hs.below d NLN).gE;have q:=a.after d NLN;have L:=a.lt;have M:((w.alloc (.cells #[.int .i64 0,.int .i64 0] 30)).alloc (.cells #[.pointer none] 104)).heap.size=w.heap.size+2:=by simp
 simp only[World.size_alloc] at f;have x:=Ab hs;clear hs a;go_enter Tryz.func18,Tryz.ntmps18
 go_wp2_with fail
 generalize (w.alloc (.cells #[.int .i64 0,.int .i64 0] 30)).alloc (.cells #[.pointer none] 104)=y at *;have r:=f.cell 0;refine (XV ⟨b,0,none⟩ ⟨w.heap.size+1,0,none⟩ (.pointer none) y (Aa o) (by simpa using r) (f.frozen 0)).mono ?_;rintro e g ⟨rfl,h⟩;have s:Below w.heap.size w g:=by
  rw[h];exact ((((d.alloc d.size _).alloc (by simp;omega) _).alloc (by simp;omega) _).alloc (by simp;omega) _).setCell (p:=⟨w.heap.size+1,0,none⟩) (by show w.heap.size≤w.heap.size+1;omega) _
 have j:Am g w.heap.size #[.int .i64 0,.int .i64 0] 30:=by
  rw[h];exact ((((n.alloc _).alloc _).alloc _).alloc _).setFar (p:=⟨w.heap.size+1,0,none⟩) (by show w.heap.size≠w.heap.size+1;omega) _
 have z:Am g (w.heap.size+1) #[.pointer (some ⟨b,0,none⟩)] 104:=by
  rw[h];exact ((((f.alloc _).alloc _).alloc _).alloc _).set 0 _
 have t:Am g b #[.int .i64 i,.iface 276 (.pointer (some m))] 109:=by
  rw[h];exact ((((q.alloc _).alloc _).alloc _).alloc _).setFar (p:=⟨w.heap.size+1,0,none⟩) (by show b≠w.heap.size+1;omega) _
 have A:=Ab ((Aa x).below s NLN);clear h d n f q o r;have B:=z.cell 0;have C:=t.cell 0;have E:=t.cell 1;have N:=fun k=>j.frozen k;have F:=j.cell 0;have H:=j.cell 1;simp only[zn,zh,zc] at B C E F H;have I:b≠w.heap.size:=by omega
 have O:w.heap.size≠b:=by omega
 have P: ¬ (b=w.heap.size):=I;go_wp2_with fail
 go_region_held3 (fun w'=>w'.cell? ⟨w.heap.size+1,0,none⟩=some (.pointer (some ⟨b,0,none⟩))∧w'.cell? ⟨b,0,none⟩=some (.int .i64 i)∧w'.cell? ⟨b,1,none⟩=some (.iface 276 (.pointer (some m)))) (go_keep)
  ((go_at_call 46;refine (Aa l g.drew ((Aa A).drew)).mono ?_;rintro e Q ⟨rfl,u⟩;rw[u];clear u))
 all_goals
  go_wp2_with fail
  have v:=(j.set 0 (.int .i64 c)).set 1 (.int .i64 i);have J:=((s.setCell (p:=⟨w.heap.size,0,none⟩) NLN (.int .i64 c)).setCell (p:=⟨w.heap.size,1,none⟩) NLN (.int .i64 i)).drew;have K:_=some (Value.int .i64 c):=v.cell 0;have g1:_=some (Value.int .i64 i):=v.cell 1;exact bodyPost_ret (Ky Tryz.results18 rfl K g1) rfl ⟨rfl,J⟩
end Go.Proofs.YtffkofkjpckmpaaGreatDoor
namespace Go.Proofs.YtffkofkjpckmpaaGreatDoor
open Go.RowKit
set_option linter.unusedVariables false
theorem JQ:∀ (b:Bool) (l:List UInt8),∃ a,l=a ++Dj b l∧Dj b a= []
 |_, []=>⟨[],by simp[Dj],by simp[Dj]⟩
 |false,c ::r=>by
  rw[Dj];split
  ·rename_i h;obtain ⟨a,h1,h2⟩:=JQ false r;exact ⟨c ::a,by rw[List.cons_append,← h1],by rw[Dj,if_pos h];exact h2⟩
  ·rename_i h;split
   ·rename_i h3;obtain ⟨a,h1,h2⟩:=JQ true r;exact ⟨c ::a,by rw[List.cons_append,← h1],by rw[Dj,if_neg h,if_pos h3];exact h2⟩
   ·exact ⟨[],rfl,by simp[Dj]⟩
 |true,c ::r=>by
  rw[Dj];split
  ·rename_i h;obtain ⟨a,h1,h2⟩:=JQ false r;exact ⟨c ::a,by rw[List.cons_append,← h1],by rw[Dj,if_pos h];exact h2⟩
  ·rename_i h;obtain ⟨a,h1,h2⟩:=JQ true r;exact ⟨c ::a,by rw[List.cons_append,← h1],by rw[Dj,if_neg h];exact h2⟩
inductive Tks (n:Nat):List UInt8→List Ae→List UInt8→Prop
 |nil {l:List UInt8} (h:Dj false l= []):Tks n l [] []
 |cons {pre r:List UInt8} {c:UInt8} {k m:Int} {s:List UInt8} {wd:Nat} {T:List Ae} {A:List UInt8} (hp:Dj false pre= []) (hb:Dj false (c ::r)=c ::r) (ho:BY (c ::r)= .tok k m s wd) (ht:Tks n ((c ::r).drop wd) T A):
   Tks n (pre ++c ::r) (⟨k,m,AB s,n - (r.length+1)⟩ ::T) ((c ::r).take wd ++32 ::A)
theorem Pf (n:Nat):∀ (f:Nat) (l:List UInt8) (out:List Ae),l.length < f→(AE n f l out).code=0→∃ T i,(AE n f l out).toks=out ++T∧Tks n l T i
 | 0,l,out,h,_=>by omega
 |f+1,l,out,h,hc=>by
  obtain ⟨q,h1,h2⟩:=JQ false l;cases b:Dj false l with
  |nil=>
   refine ⟨[], [], ?_,.nil b⟩;rw[AE,b];simp
  |cons c r=>
   have d:Dj false (c ::r)=c ::r:=by rw[← b,Gj]
   have o:=Gv false l;rw[b] at o h1;have e:AE n (f+1) l out=AE n (f+1) (c ::r) out:=by rw[← b,KM]
   rw[e] at hc ⊢;cases a:BY (c ::r) with
   |bad code=>
    rw[KN d a] at hc;exfalso;have p:code=0:=hc;have:code≠0:=by
     rw[BY] at a;split at a
     ·rw[Bz] at a;(split at a <;> cases a) <;> decide
     ·split at a
      ·rw[CX] at a;(split at a <;> cases a) <;> decide
      ·split at a
       ·rw[BP] at a;(split at a <;> cases a) <;> decide
       ·rw[Be] at a;split at a
        ·cases a
        ·(split at a <;> cases a) <;> decide
    exact this p
   |tok k m s g=>
    rw[DJ d a] at hc ⊢;have j:=EJ (c ::r);rw[a] at j;obtain ⟨t,u,_⟩: 1≤g∧g≤(c ::r).length∧s.length≤g:=j;obtain ⟨T,i,e1,e2⟩:=Pf n f _ _ (by rw[zj];omega) hc;exact ⟨⟨k,m,AB s,n - (r.length+1)⟩ ::T,_,by rw[e1,zC];rfl,by rw[h1];exact .cons h2 d a e2⟩
def JS (r:List UInt8):Prop:=∃ c x,r=c ::x∧(c=32∨c=41∨c=59∨c=40)
theorem Fp {c:UInt8}{x:List UInt8}(h:c=32∨c=41∨c=59∨c=40):JS (c ::x):=⟨c,x,rfl,h⟩
theorem KQ {p:UInt8→Bool}{a r:List UInt8}(b:a.all p=true)(d:∀ c x,r=c ::x→p c=false):AR p (a ++r)=a.length:=by
 induction a with
 |nil=>
  cases r with
  |nil=>rfl
  |cons c x=>simp[AR,d c x rfl]
 |cons c a f=>
  simp only[z8,zE] at b;rw[List.cons_append,List.length_cons,← f b.2];simp[AR,b.1]
theorem Qw {r:List UInt8}(h:JS r):∀ c x,r=c ::x→Dk c=false:=by
 obtain ⟨d,y,rfl,a⟩:=h;intro c x e;injection e with e1 e2;subst e1;rcases a with rfl | rfl | rfl | rfl <;> decide
theorem MY {c:UInt8}{r:List UInt8}(h: ¬ (c=32∨c=10∨c=9))(h2:c≠35):Dj false (c ::r)=c ::r:=by
 rw[Dj,if_neg h,if_neg h2]
theorem AbC {c:UInt8}(h:Jt c=true): ¬ (c=32∨c=10∨c=9)∧c≠35:=by
 constructor
 ·rintro (rfl | rfl | rfl) <;> revert h <;> decide
 ·rintro rfl;revert h;decide
theorem AcQ {c:UInt8}(h:CK c=true): ¬ (c=32∨c=10∨c=9)∧c≠35∧Jt c=false:=by
 refine ⟨?_, ?_, ?_⟩
 ·rintro (rfl | rfl | rfl) <;> revert h <;> decide
 ·rintro rfl;revert h;decide
 ·cases hl:Jt c with
  |false=>rfl
  |true=>
   exfalso;simp only[Jt,I2,CK,dgI,zF] at hl h;omega
theorem Ph {n f:Nat}{c:UInt8}{a r:List UInt8}{out:List Ae}(hc:Jt c=true)(b:a.all Dk=true)(hl:a.length≤31)(g:∀ d x,r=d ::x→Dk d=false):
  AE n (f+1) (c ::(a ++r)) out=AE n f r (out ++ [⟨if Fc (c ::a) then 4 else 3,0,AB (c ::a),n - ((a ++r).length+1)⟩]):=by
 have h:Dk c=true:=by rw[Dk,Vr];rw[Jt] at hc;simp[hc]
 have i:AR Dk (c ::(a ++r))=a.length+1:=by
  have:=KQ (p:=Dk) (a:=c ::a) (r:=r) (by simp[h,b]) g;simpa using this
 have ht:(c ::(a ++r)).take (a.length+1)=c ::a:=by simp
 have j:BY (c ::(a ++r))= .tok (if Fc (c ::a) then 4 else 3) 0 (c ::a) (a.length+1):=by
  rw[BY,if_pos hc,Bz,i,ht,if_neg (by omega)]
 rw[DJ (MY (AbC hc).1 (AbC hc).2) j];simp
theorem Ze {n f:Nat}{a r:List UInt8}{out:List Ae}(h0:a≠ [])(b:a.all CK=true)(hl:a.length≤19)(q:DZ a≤9223372036854775807)(g:∀ d x,r=d ::x→Dk d=false):
  AE n (f+1) (a ++r) out=AE n f r (out ++ [⟨1,DZ a,AB [],n - (a ++r).length⟩]):=by
 cases a with
 |nil=>exact absurd rfl h0
 |cons c a=>
  simp only[z8,zE] at b;obtain ⟨h,i,j⟩:=AcQ b.1;have k:∀ d x,r=d ::x→CK d=false:=fun d x e=>by
   have:=g d x e;rw[Dk,Vr] at this;simp only[Bool.or_eq_false_iff] at this;rw[CK];exact this.1.2
  have l:AR CK (c ::(a ++r))=a.length+1:=by
   have:=KQ (p:=CK) (a:=c ::a) (r:=r) (by simp[b]) k;simpa using this
  have ht:(c ::(a ++r)).take (a.length+1)=c ::a:=by simp
  have hf:BH (c ::(a ++r)) (a.length+1)=false:=by
   have e:(c ::(a ++r))[a.length+1]? =r[0]? :=by
    rw[zc,yC NLN,Nat.sub_self]
   rw[BH,e];cases r with
   |nil=>rfl
   |cons d x=>
    have:=g d x rfl;rw[Dk,Vr] at this;simp only[Bool.or_eq_false_iff,yH] at this;show (Jt d || decide (d=95))=false;have m:d≠95:=by rintro rfl;exact this.2 rfl
    rw[Jt,this.1.1];simp[m]
  rw[List.length_cons] at hl;have o:BY (c ::(a ++r))= .tok 1 (DZ (c ::a)) [] (a.length+1):=by
   rw[BY,if_neg (by simp[j]),if_pos b.1,CX,l,ht,hf,if_neg (by rw[not_or,not_or];exact ⟨by omega,by simp,by omega⟩)]
  rw[List.cons_append,DJ (MY h i) o];simp
theorem Xk {n f:Nat}{a r:List UInt8}{out:List Ae}(b:a.all Jo=true)(hl:a.length≤32):
  AE n (f+1) (34 ::(a ++34 ::r)) out=AE n f r (out ++ [⟨2,0,AB a,n - ((a ++34 ::r).length+1)⟩]):=by
 have d:AR Jo (a ++34 ::r)=a.length:=KQ b (fun c x e=>by injection e with e1 e2;subst e1;decide);have g:(a ++34 ::r)[a.length]? =some 34:=by rw[yC NLN];simp
 have h:BY (34 ::(a ++34 ::r))= .tok 2 0 a (a.length+2):=by
  rw[BY,if_neg (by decide),if_neg (by decide),if_pos rfl,BP,d,g,if_neg (by rw[not_or,Decidable.not_not];exact ⟨by omega,rfl⟩)];simp
 rw[DJ (MY (by decide) (by decide)) h];have i:(34 ::(a ++34 ::r)).drop (a.length+2)=r:=by
  rw[List.drop_succ_cons,show a.length+1=(a ++ [34]).length by simp,show a ++34 ::r=(a ++ [34]) ++r by simp,List.drop_left]
 rw[i]
theorem UK {n f:Nat}{c:UInt8}{r:List UInt8}{out:List Ae}(hc:c∈CZ)(a:∀ d x,r=d ::x→d≠61∧d≠62):
  AE n (f+1) (c ::r) out=AE n f r (out ++ [⟨5,0,AB [c],n - (r.length+1)⟩]):=by
 have b:∀ c∈CZ,Jt c=false∧CK c=false∧c≠34∧¬ (c=32∨c=10∨c=9)∧c≠35:=by decide
 obtain ⟨h1,h2,h3,h4,h5⟩:=b c hc;have hs:BQ.contains ((c ::r).take 2)=false:=by
  cases r with
  |nil=>simp[BQ]
  |cons d x=>
   obtain ⟨g,h⟩:=a d x rfl;show BQ.contains [c,d]=false;simp[BQ,g,h]
 have i:BY (c ::r)= .tok 5 0 [c] 1:=by
  rw[BY,if_neg (by simp[h1]),if_neg (by simp[h2]),if_neg h3,Be,hs,if_neg (by simp),if_pos (by simpa using hc)]
 rw[DJ (MY h4 h5) i];simp
theorem UL {n f:Nat}{c d:UInt8}{r:List UInt8}{out:List Ae}(hc: [c,d]∈BQ):
  AE n (f+1) (c ::d ::r) out=AE n f r (out ++ [⟨5,0,AB [c,d],n - ((d ::r).length+1)⟩]):=by
 have a:∀ s∈BQ,Jt (s.headD 0)=false∧CK (s.headD 0)=false∧s.headD 0≠34∧¬ (s.headD 0=32∨s.headD 0=10∨s.headD 0=9)∧s.headD 0≠35:=by decide
 obtain ⟨h1,h2,h3,h4,h5⟩:=a _ hc;simp only[List.headD_cons] at h1 h2 h3 h4 h5;have b:BY (c ::d ::r)= .tok 5 0 [c,d] 2:=by
  rw[BY,if_neg (by simp[h1]),if_neg (by simp[h2]),if_neg h3,Be,if_pos (by simpa using hc)];rfl
 rw[DJ (MY h4 h5) b];rfl
theorem Cn {n f:Nat}{r:List UInt8}{out:List Ae} :AE n f (32 ::r) out=AE n f r out:=
 CI n f (by rw[Dj,if_pos (by decide)]) out
theorem AaP {n f:Nat}{r:List UInt8}{out:List Ae} :AE n f (10 ::r) out=AE n f r out:=
 CI n f (by rw[Dj,if_pos (by decide)]) out
theorem Ii (g:Nat)(h:g < 10):(UInt8.ofNat (48+g)).toNat=48+g:=by
 rw[UInt8.toNat_ofNat'];omega
theorem Abt (g:Nat)(h:g < 10):CK (UInt8.ofNat (48+g))=true:=by
 simp only[CK,dgI,zF,Ii g h];omega
theorem Kr {n:Nat}(h:n < 10):Lib.decDigits n= [UInt8.ofNat (48+n)]:=by rw[Lib.decDigits,dif_pos h]
theorem Vn {n:Nat}(h: 10≤n):Lib.decDigits n=Lib.decDigits (n / 10) ++ [UInt8.ofNat (48+n % 10)]:=by rw[Lib.decDigits,dif_neg (by omega)]
theorem OC (n:Nat):DZ (Lib.decDigits n)=n∧(Lib.decDigits n).all CK=true∧1≤(Lib.decDigits n).length∧(1≤n→(Lib.decDigits n).head?≠some 48)∧(10≤n∨(Lib.decDigits n).length=1):=by
 induction n using Nat.strongRecOn with
 |_ n c=>
  by_cases h:n < 10
  ·rw[Kr h];refine ⟨?_, ?_,by simp, ?_,.inr rfl⟩
   ·simp only[DZ,List.foldl_cons,zy,Ii n h];omega
   ·simp only[z8,List.all_nil,Bool.and_true];exact Abt n h
   ·intro h1 e;simp only[List.head?_cons,Option.some.injEq] at e;have:=congrArg UInt8.toNat e;rw[Ii n h] at this;have k:(48 :UInt8).toNat=48:=rfl;omega
  ·obtain ⟨d,f,b,g,_⟩:=c (n / 10) (by omega);rw[Vn (by omega)];refine ⟨?_, ?_,by simp, ?_,.inl (by omega)⟩
   ·rw[Md,d,Ii _ (by omega)];omega
   ·rw[List.all_append,f];simp only[z8,List.all_nil,Bool.and_true,z2];exact Abt _ (by omega)
   ·intro _;rw[List.head?_append];have:=g (by omega);cases a:(Lib.decDigits (n / 10)).head? with
    |none=>rw[List.head?_eq_none_iff] at a;rw[a] at b;simp at b
    |some x=>rw[a] at this;simpa using this
theorem Vo:∀ (k n:Nat),n < 10 ^ (k+1)→(Lib.decDigits n).length≤k+1
 | 0,n,h=>by rw[Kr (by simpa using h)];simp
 |k+1,n,h=>by
  by_cases h1:n < 10
  ·rw[Kr h1];simp
  ·rw[Vn (by omega),zB];have:=Vo k (n / 10) (by rw[Nat.pow_succ] at h;omega);simp;omega
end Go.Proofs.YtffkofkjpckmpaaGreatDoor
