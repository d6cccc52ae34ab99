/-
  errors.As at the program's own placed error: contracts. After the guide's worked text for errors.As; own numbers.
-/
import Derived.Test.YtcpdodmoheebaaaGreatDoorRows
import Derived.WalkKit
import Derived.LaidEql
import Derived.Stop.Asserts
import Derived.RowKitTokens
namespace Go.Proofs.YtcpdodmoheebaaaGreatDoor
set_option maxHeartbeats 4000000
open Go.RowKit Go.Extern.Stop Go.Stop Go.Extern
theorem Gq (t:Addr)(w:World):(ReflectliteValue.unpack (.iface 62 (.pointer (some t)))).run Tryz.prog w
  = .ok (.agg #[.pointer (some ⟨16,62,none⟩),.pointer (some ⟨w.heap.size,0,none⟩),.int .u64 150]) (w.alloc (.cells #[.pointer (some t)] 62)):=by kernel_rfl
theorem JD (a:Addr)(w:World):(ReflectliteValue.methodAny (ReflectliteValue.valueError "reflectlite.Value.Type" 0) (fun t _ _ _=>ReflectliteType.toType t) #[.agg #[.pointer (some ⟨16,62,none⟩),.pointer (some a),.int .u64 150]]).run Tryz.prog w
  = .ok (.iface 106 (.agg #[.pointer (some ⟨16,62,none⟩)])) w:=by kernel_rfl
theorem FM (h:Value)(w:World):(Go.method 294 106 (.agg #[h]) "Kind").run Tryz.prog w= .ok (121,h) w:=by kernel_rfl
theorem JE (w:World):((ReflectliteType.abiMethod fun t=>(fun a:Nat=>Value.int IntKind.u8 (a:Int)) <$> Rtype.kind t) #[.pointer (some ⟨16,62,none⟩)]).run Tryz.prog w= .ok (.int .u8 22) w:=by kernel_rfl
theorem JF (w:World):((ReflectliteType.abiMethod fun t=>(fun a:Nat=>Value.int IntKind.u8 (a:Int)) <$> Rtype.kind t) #[.pointer (some ⟨16,60,none⟩)]).run Tryz.prog w= .ok (.int .u8 22) w:=by kernel_rfl
theorem Kf {b:Array Value→Sort _}(a:Value)(h1:(a:Value)→b #[a])(h2:(x:Array Value)→b x):ReflectliteValue.method.match_2 b #[a] h1 h2=h1 a:=rfl
theorem L4 {b:Array Value→Sort _}(a x:Value)(h1:(a x:Value)→b #[a,x])(h2:(x:Array Value)→b x):ReflectliteValue.set.match_3 b #[a,x] h1 h2=h1 a x:=rfl
theorem ET (a:Addr)(w:World):(ReflectliteValue.parts (.agg #[.pointer (some ⟨16,62,none⟩),.pointer (some a),.int .u64 150])).run Tryz.prog w= .ok (some (62,a,150)) w:=by kernel_rfl
theorem ID (a p:Addr)(b:World)(c:b.cell? a=some (.pointer (some p))):
  (ReflectliteValue.method (ReflectliteValue.valueError "reflectlite.Value.IsNil" 0) ReflectliteValue.isNil #[.agg #[.pointer (some ⟨16,62,none⟩),.pointer (some a),.int .u64 150]]).run Tryz.prog b= .ok (.bool false) b:=by
 delta ReflectliteValue.method
 rw [Kf]
 simp only [Sem.run_bind,ET,Result.andThen]
 simp [ReflectliteValue.isNil,loadVar,isAgg,underlying,Tryz.underlying62,c,Result.andThen]
theorem FN (h:Value)(w:World):(Go.method 294 106 (.agg #[h]) "Elem").run Tryz.prog w= .ok (132,.agg #[h]) w:=by kernel_rfl
theorem Da (h:Value)(w:World):(Go.method 294 106 (.agg #[h]) "Implements").run Tryz.prog w= .ok (133,.agg #[h]) w:=by kernel_rfl
theorem CL (h:Value)(w:World):(Go.method 294 106 (.agg #[h]) "AssignableTo").run Tryz.prog w= .ok (130,.agg #[h]) w:=by kernel_rfl
theorem JG (w:World):(ReflectliteType.method ReflectliteType.elem #[.agg #[.pointer (some ⟨16,62,none⟩)]]).run Tryz.prog w= .ok (.iface 106 (.agg #[.pointer (some ⟨16,60,none⟩)])) w:=by kernel_rfl
theorem EK (w:World):(ReflectliteType.relation "Implements" ReflectliteType.implements_ #[.agg #[.pointer (some ⟨16,60,none⟩)],.iface 106 (.agg #[.pointer (some ⟨16,38,none⟩)])]).run Tryz.prog w= .ok (.bool true) w:=by kernel_rfl
theorem GM (a:Value)(w:World):(ReflectliteType.typeOf #[.iface 60 a]).run Tryz.prog w= .ok (.iface 106 (.agg #[.pointer (some ⟨16,60,none⟩)])) w:=by kernel_rfl
theorem EL (w:World):(ReflectliteType.relation "AssignableTo" ReflectliteType.assignableTo #[.agg #[.pointer (some ⟨16,60,none⟩)],.iface 106 (.agg #[.pointer (some ⟨16,60,none⟩)])]).run Tryz.prog w= .ok (.bool true) w:=by kernel_rfl
theorem Gr (e:Addr)(w:World):(ReflectliteValue.unpack (.iface 60 (.pointer (some e)))).run Tryz.prog w
  = .ok (.agg #[.pointer (some ⟨16,60,none⟩),.pointer (some ⟨w.heap.size,0,none⟩),.int .u64 150]) (w.alloc (.cells #[.pointer (some e)] 60)):=by kernel_rfl
theorem GN (w:World):(Rtype.elem? 62).run Tryz.prog w= .ok (some 60) w:=by kernel_rfl
theorem Lg (p:Addr)(w:World):(ReflectliteValue.mk 60 p ReflectliteValue.flagAddr).run Tryz.prog w= .ok (.agg #[.pointer (some ⟨16,60,none⟩),.pointer (some p),.int .u64 406]) w:=by kernel_rfl
theorem IE (a p:Addr)(b:World)(c:b.cell? a=some (.pointer (some p))):
  (ReflectliteValue.method (ReflectliteValue.valueError "reflectlite.Value.Elem" 0) ReflectliteValue.elem #[.agg #[.pointer (some ⟨16,62,none⟩),.pointer (some a),.int .u64 150]]).run Tryz.prog b
   = .ok (.agg #[.pointer (some ⟨16,60,none⟩),.pointer (some p),.int .u64 406]) b:=by
 delta ReflectliteValue.method
 rw [Kf]
 simp only [Sem.run_bind,ET,Result.andThen]
 simp [ReflectliteValue.elem,loadVar,isAgg,underlying,Tryz.underlying62,c,Result.andThen,GN,Lg]
theorem GO (a:Addr)(w:World):(ReflectliteValue.parts (.agg #[.pointer (some ⟨16,60,none⟩),.pointer (some a),.int .u64 406])).run Tryz.prog w= .ok (some (60,a,406)) w:=by kernel_rfl
theorem IF (a:Addr)(w:World):(ReflectliteValue.parts (.agg #[.pointer (some ⟨16,60,none⟩),.pointer (some a),.int .u64 150])).run Tryz.prog w= .ok (some (60,a,150)) w:=by kernel_rfl
theorem GP (w:World):(Rtype.directlyAssignable 60 60).run Tryz.prog w= .ok true w:=by kernel_rfl
theorem Kg (c b e:Addr)(d:Value)(a:World)(f:a.cell? b=some (.pointer (some e)))(g:a.cell? c=some d)(h:a.frozen? c=false):
  (ReflectliteValue.set #[.agg #[.pointer (some ⟨16,60,none⟩),.pointer (some c),.int .u64 406],.agg #[.pointer (some ⟨16,60,none⟩),.pointer (some b),.int .u64 150]]).run Tryz.prog a
   = .ok (.tuple #[]) (a.setCell c (.pointer (some e))):=by
 delta ReflectliteValue.set
 rw [L4]
 simp only [Sem.run_bind,GO,IF,Result.andThen]
 simp [ReflectliteValue.flagAddr,loadVar,isAgg,underlying,Tryz.underlying60,f,Result.andThen,GP,storeVar,Value.cells,storeCells,Addr.add]
 rw [run_store Tryz.prog a c _ _ (by rfl)]
 simp [g,h]
theorem L5 (e t:Addr)(a:Value)(w:World)(b:w.cell? ⟨1,0,none⟩=some (.iface 106 (.agg #[.pointer (some ⟨16,38,none⟩)])))(c:w.cell? t=some a)(f:w.frozen? t=false):
  Calls Tryz.prog 28 #[.iface 60 (.pointer (some e)),.iface 62 (.pointer (some t))] w fun g w'=>g= .returned (.bool true)∧w'=((((w.alloc (.cells #[.pointer (some t)] 62)).alloc (.cells #[.pointer (some ⟨16,62,none⟩),.pointer (some ⟨w.heap.size,0,none⟩),.int .u64 150] 83)).alloc (.cells #[.pointer (some ⟨16,62,none⟩),.pointer (some ⟨w.heap.size,0,none⟩),.int .u64 150] 83)).alloc (.cells #[.pointer (some e)] 60)).setCell t (.pointer (some e)):=by
 have h6:=@run_callFunc_extern Tryz.prog 44 _ (fun args=>ReflectliteValue.unpack (args.getD 0 (.tuple #[]))) Tryz.func44 (by kernel_rfl) (by kernel_rfl) (by kernel_rfl) (by kernel_rfl)
 have h7:=@run_callFunc_extern Tryz.prog 45 _ (ReflectliteValue.methodAny (ReflectliteValue.valueError "reflectlite.Value.Type" 0) (fun t _ _ _=>ReflectliteType.toType t)) Tryz.func45 (by kernel_rfl) (by kernel_rfl) (by kernel_rfl) (by kernel_rfl)
 have h8:=@run_callFunc_extern Tryz.prog 46 _ (ReflectliteValue.method (ReflectliteValue.valueError "reflectlite.Value.IsNil" 0) ReflectliteValue.isNil) Tryz.func46 (by kernel_rfl) (by kernel_rfl) (by kernel_rfl) (by kernel_rfl)
 have j:=@run_callFunc_extern Tryz.prog 121 _ (ReflectliteType.abiMethod fun t=>do pure (.int .u8 (← Rtype.kind t))) Tryz.func121 (by kernel_rfl) (by kernel_rfl) (by kernel_rfl) (by kernel_rfl)
 have k:=@run_callFunc_extern Tryz.prog 132 _ (ReflectliteType.method ReflectliteType.elem) Tryz.func132 (by kernel_rfl) (by kernel_rfl) (by kernel_rfl) (by kernel_rfl)
 have l:=@run_callFunc_extern Tryz.prog 133 _ (ReflectliteType.relation "Implements" ReflectliteType.implements_) Tryz.func133 (by kernel_rfl) (by kernel_rfl) (by kernel_rfl) (by kernel_rfl)
 have h10:=@run_callFunc_extern Tryz.prog 61 _ ReflectliteType.typeOf Tryz.func61 (by kernel_rfl) (by kernel_rfl) (by kernel_rfl) (by kernel_rfl)
 have m:=@run_callFunc_extern Tryz.prog 130 _ (ReflectliteType.relation "AssignableTo" ReflectliteType.assignableTo) Tryz.func130 (by kernel_rfl) (by kernel_rfl) (by kernel_rfl) (by kernel_rfl)
 have h11:=@run_callFunc_extern Tryz.prog 62 _ (ReflectliteValue.method (ReflectliteValue.valueError "reflectlite.Value.Elem" 0) ReflectliteValue.elem) Tryz.func62 (by kernel_rfl) (by kernel_rfl) (by kernel_rfl) (by kernel_rfl)
 have h12:=@run_callFunc_extern Tryz.prog 63 _ ReflectliteValue.set Tryz.func63 (by kernel_rfl) (by kernel_rfl) (by kernel_rfl) (by kernel_rfl)
 have n:=GM
 have o:=CL
 have p:=EL
 have q:=Gr
 have r:=Gq
 have s:=JD
 have u:=FM
 have v:=FN
 have x:=Da
 have y:=JE
 have z:=JF
 have A:=JG
 have B:=EK
 have C:=ID ⟨w.heap.size,0,none⟩ t ((w.alloc (.cells #[.pointer (some t)] 62)).alloc (.cells #[.pointer (some ⟨16,62,none⟩),.pointer (some ⟨w.heap.size,0,none⟩),.int .u64 150] 83)) (by simp)
 have i: 1 < w.heap.size:=by
  rcases Nat.lt_or_ge 1 w.heap.size with h | h
  ·exact h
  ·simp [World.cell?,Array.getElem?_eq_none h] at b
 have D:((w.alloc (.cells #[.pointer (some t)] 62)).alloc (.cells #[.pointer (some ⟨16,62,none⟩),.pointer (some ⟨w.heap.size,0,none⟩),.int .u64 150] 83)).cell? ⟨1,0,none⟩=some (.iface 106 (.agg #[.pointer (some ⟨16,38,none⟩)])):=by
  rw [World.cell?_alloc_lt _ _ ⟨1,0,none⟩ (by simp;omega),World.cell?_alloc_lt _ _ ⟨1,0,none⟩ i];exact b
 have d:t.block < w.heap.size:=by
  rcases Nat.lt_or_ge t.block w.heap.size with h | h
  ·exact h
  ·simp [World.cell?,Array.getElem?_eq_none h] at c
 have E:=IE ⟨w.heap.size,0,none⟩ t (((w.alloc (.cells #[.pointer (some t)] 62)).alloc (.cells #[.pointer (some ⟨16,62,none⟩),.pointer (some ⟨w.heap.size,0,none⟩),.int .u64 150] 83)).alloc (.cells #[.pointer (some ⟨16,62,none⟩),.pointer (some ⟨w.heap.size,0,none⟩),.int .u64 150] 83)) (by rw [World.cell?_alloc_lt _ _ ⟨w.heap.size,0,none⟩ (by simp;omega)];simp)
 have st:=Kg t ⟨w.heap.size+1+1+1,0,none⟩ e a ((((w.alloc (.cells #[.pointer (some t)] 62)).alloc (.cells #[.pointer (some ⟨16,62,none⟩),.pointer (some ⟨w.heap.size,0,none⟩),.int .u64 150] 83)).alloc (.cells #[.pointer (some ⟨16,62,none⟩),.pointer (some ⟨w.heap.size,0,none⟩),.int .u64 150] 83)).alloc (.cells #[.pointer (some e)] 60))
  (by rw [World.cell?_alloc_at _ _ _ _ (by simp)];rfl)
  (by rw [World.cell?_alloc_lt _ _ t (by simp;omega),World.cell?_alloc_lt _ _ t (by simp;omega),World.cell?_alloc_lt _ _ t (by simp;omega),World.cell?_alloc_lt _ _ t d];exact c)
  (by rw [World.frozen?_alloc_old _ _ t (by simp;omega),World.frozen?_alloc_old _ _ t (by simp;omega),World.frozen?_alloc_old _ _ t (by simp;omega),World.frozen?_alloc_old _ _ t (Nat.ne_of_lt d)];exact f)
 go_enter Tryz.func28,Tryz.ntmps28
 go_wp2
 refine wp_loop_rounds 1 ?_
 rw [rounds_succ]
 go_wp2
 go_ret
 exact ⟨rfl,rfl⟩
end Go.Proofs.YtcpdodmoheebaaaGreatDoor
