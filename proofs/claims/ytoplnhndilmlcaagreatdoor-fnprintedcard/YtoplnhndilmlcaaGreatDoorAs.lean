/-
  errors.As at the program's own placed error: contracts. After the guide's worked text for errors.As; own numbers.
-/
import Derived.Test.YtoplnhndilmlcaaGreatDoorRows
import Derived.WalkKit
import Derived.LaidEql
import Derived.Stop.Asserts
import Derived.RowKitTokens
namespace Go.Proofs.YtoplnhndilmlcaaGreatDoor
set_option maxHeartbeats 4000000
open Go.RowKit Go.Extern.Stop Go.Stop Go.Extern
theorem OA (t:Addr)(w:World):(ReflectliteValue.unpack (.iface 104 (.pointer (some t)))).run Tryz.prog w
  = .ok (.agg #[.pointer (some ⟨17,104,none⟩),.pointer (some ⟨w.heap.size,0,none⟩),.int .u64 150]) (w.alloc (.cells #[.pointer (some t)] 104)):=by kernel_rfl
theorem UW (a:Addr)(w:World):(ReflectliteValue.methodAny (ReflectliteValue.valueError "reflectlite.Value.Type" 0) (fun t _ _ _=>ReflectliteType.toType t) #[.agg #[.pointer (some ⟨17,104,none⟩),.pointer (some a),.int .u64 150]]).run Tryz.prog w
  = .ok (.iface 195 (.agg #[.pointer (some ⟨17,104,none⟩)])) w:=by kernel_rfl
theorem M0 (h:Value)(w:World):(Go.method 409 195 (.agg #[h]) "Kind").run Tryz.prog w= .ok (212,h) w:=by kernel_rfl
theorem UX (w:World):((ReflectliteType.abiMethod fun t=>(fun a:Nat=>Value.int IntKind.u8 (a:Int)) <$> Rtype.kind t) #[.pointer (some ⟨17,104,none⟩)]).run Tryz.prog w= .ok (.int .u8 22) w:=by kernel_rfl
theorem UY (w:World):((ReflectliteType.abiMethod fun t=>(fun a:Nat=>Value.int IntKind.u8 (a:Int)) <$> Rtype.kind t) #[.pointer (some ⟨17,102,none⟩)]).run Tryz.prog w= .ok (.int .u8 22) w:=by kernel_rfl
theorem WD {a:Array Value→Sort _}(v:Value)(h1:(v:Value)→a #[v])(h2:(x:Array Value)→a x):ReflectliteValue.method.match_2 a #[v] h1 h2=h1 v:=rfl
theorem AaT {a:Array Value→Sort _}(v x:Value)(h1:(v x:Value)→a #[v,x])(h2:(x:Array Value)→a x):ReflectliteValue.set.match_3 a #[v,x] h1 h2=h1 v x:=rfl
theorem Lb (a:Addr)(w:World):(ReflectliteValue.parts (.agg #[.pointer (some ⟨17,104,none⟩),.pointer (some a),.int .u64 150])).run Tryz.prog w= .ok (some (104,a,150)) w:=by kernel_rfl
theorem Sn (a p:Addr)(b:World)(c:b.cell? a=some (.pointer (some p))):
  (ReflectliteValue.method (ReflectliteValue.valueError "reflectlite.Value.IsNil" 0) ReflectliteValue.isNil #[.agg #[.pointer (some ⟨17,104,none⟩),.pointer (some a),.int .u64 150]]).run Tryz.prog b= .ok (.bool false) b:=by
 delta ReflectliteValue.method
 rw[WD];simp only[Sem.run_bind,Lb,Result.andThen];simp[ReflectliteValue.isNil,loadVar,isAgg,underlying,Tryz.underlying104,c,Result.andThen]
theorem M1 (h:Value)(w:World):(Go.method 409 195 (.agg #[h]) "Elem").run Tryz.prog w= .ok (233,.agg #[h]) w:=by kernel_rfl
theorem H5 (h:Value)(w:World):(Go.method 409 195 (.agg #[h]) "Implements").run Tryz.prog w= .ok (234,.agg #[h]) w:=by kernel_rfl
theorem Gl (h:Value)(w:World):(Go.method 409 195 (.agg #[h]) "AssignableTo").run Tryz.prog w= .ok (231,.agg #[h]) w:=by kernel_rfl
theorem UZ (w:World):(ReflectliteType.method ReflectliteType.elem #[.agg #[.pointer (some ⟨17,104,none⟩)]]).run Tryz.prog w= .ok (.iface 195 (.agg #[.pointer (some ⟨17,102,none⟩)])) w:=by kernel_rfl
theorem Kx (w:World):(ReflectliteType.relation "Implements" ReflectliteType.implements_ #[.agg #[.pointer (some ⟨17,102,none⟩)],.iface 195 (.agg #[.pointer (some ⟨17,55,none⟩)])]).run Tryz.prog w= .ok (.bool true) w:=by kernel_rfl
theorem PY (v:Value)(w:World):(ReflectliteType.typeOf #[.iface 102 v]).run Tryz.prog w= .ok (.iface 195 (.agg #[.pointer (some ⟨17,102,none⟩)])) w:=by kernel_rfl
theorem Ky (w:World):(ReflectliteType.relation "AssignableTo" ReflectliteType.assignableTo #[.agg #[.pointer (some ⟨17,102,none⟩)],.iface 195 (.agg #[.pointer (some ⟨17,102,none⟩)])]).run Tryz.prog w= .ok (.bool true) w:=by kernel_rfl
theorem OB (e:Addr)(w:World):(ReflectliteValue.unpack (.iface 102 (.pointer (some e)))).run Tryz.prog w
  = .ok (.agg #[.pointer (some ⟨17,102,none⟩),.pointer (some ⟨w.heap.size,0,none⟩),.int .u64 150]) (w.alloc (.cells #[.pointer (some e)] 102)):=by kernel_rfl
theorem PZ (w:World):(Rtype.elem? 104).run Tryz.prog w= .ok (some 102) w:=by kernel_rfl
theorem Y0 (p:Addr)(w:World):(ReflectliteValue.mk 102 p ReflectliteValue.flagAddr).run Tryz.prog w= .ok (.agg #[.pointer (some ⟨17,102,none⟩),.pointer (some p),.int .u64 406]) w:=by kernel_rfl
theorem So (a p:Addr)(b:World)(c:b.cell? a=some (.pointer (some p))):
  (ReflectliteValue.method (ReflectliteValue.valueError "reflectlite.Value.Elem" 0) ReflectliteValue.elem #[.agg #[.pointer (some ⟨17,104,none⟩),.pointer (some a),.int .u64 150]]).run Tryz.prog b
   = .ok (.agg #[.pointer (some ⟨17,102,none⟩),.pointer (some p),.int .u64 406]) b:=by
 delta ReflectliteValue.method
 rw[WD];simp only[Sem.run_bind,Lb,Result.andThen];simp[ReflectliteValue.elem,loadVar,isAgg,underlying,Tryz.underlying104,c,Result.andThen,PZ,Y0]
theorem Qa (a:Addr)(w:World):(ReflectliteValue.parts (.agg #[.pointer (some ⟨17,102,none⟩),.pointer (some a),.int .u64 406])).run Tryz.prog w= .ok (some (102,a,406)) w:=by kernel_rfl
theorem Sp (a:Addr)(w:World):(ReflectliteValue.parts (.agg #[.pointer (some ⟨17,102,none⟩),.pointer (some a),.int .u64 150])).run Tryz.prog w= .ok (some (102,a,150)) w:=by kernel_rfl
theorem Qb (w:World):(Rtype.directlyAssignable 102 102).run Tryz.prog w= .ok true w:=by kernel_rfl
theorem WE (c b e:Addr)(d:Value)(a:World)(f:a.cell? b=some (.pointer (some e)))(ht:a.cell? c=some d)(hf:a.frozen? c=false):
  (ReflectliteValue.set #[.agg #[.pointer (some ⟨17,102,none⟩),.pointer (some c),.int .u64 406],.agg #[.pointer (some ⟨17,102,none⟩),.pointer (some b),.int .u64 150]]).run Tryz.prog a
   = .ok (.tuple #[]) (a.setCell c (.pointer (some e))):=by
 delta ReflectliteValue.set
 rw[AaT];simp only[Sem.run_bind,Qa,Sp,Result.andThen];simp[ReflectliteValue.flagAddr,loadVar,isAgg,underlying,Tryz.underlying102,f,Result.andThen,Qb,storeVar,Value.cells,storeCells,Addr.add];rw[run_store Tryz.prog a c _ _ (by rfl)];simp[ht,hf]
theorem WF (e t:Addr)(a:Value)(w:World)(b:w.cell? ⟨3,0,none⟩=some (.iface 195 (.agg #[.pointer (some ⟨17,55,none⟩)])))(c:w.cell? t=some a)(f:w.frozen? t=false):
  Calls Tryz.prog 44 #[.iface 102 (.pointer (some e)),.iface 104 (.pointer (some t))] w fun g w'=>g= .returned (.bool true)∧w'=((((w.alloc (.cells #[.pointer (some t)] 104)).alloc (.cells #[.pointer (some ⟨17,104,none⟩),.pointer (some ⟨w.heap.size,0,none⟩),.int .u64 150] 165)).alloc (.cells #[.pointer (some ⟨17,104,none⟩),.pointer (some ⟨w.heap.size,0,none⟩),.int .u64 150] 165)).alloc (.cells #[.pointer (some e)] 102)).setCell t (.pointer (some e)):=by
 have h6:=@run_callFunc_extern Tryz.prog 81 _ (fun args=>ReflectliteValue.unpack (args.getD 0 (.tuple #[]))) Tryz.func81 (by kernel_rfl) (by kernel_rfl) (by kernel_rfl) (by kernel_rfl);have h7:=@run_callFunc_extern Tryz.prog 82 _ (ReflectliteValue.methodAny (ReflectliteValue.valueError "reflectlite.Value.Type" 0) (fun t _ _ _=>ReflectliteType.toType t)) Tryz.func82 (by kernel_rfl) (by kernel_rfl) (by kernel_rfl) (by kernel_rfl);have h8:=@run_callFunc_extern Tryz.prog 83 _ (ReflectliteValue.method (ReflectliteValue.valueError "reflectlite.Value.IsNil" 0) ReflectliteValue.isNil) Tryz.func83 (by kernel_rfl) (by kernel_rfl) (by kernel_rfl) (by kernel_rfl);have j:=@run_callFunc_extern Tryz.prog 212 _ (ReflectliteType.abiMethod fun t=>do pure (.int .u8 (← Rtype.kind t))) Tryz.func212 (by kernel_rfl) (by kernel_rfl) (by kernel_rfl) (by kernel_rfl);have k:=@run_callFunc_extern Tryz.prog 233 _ (ReflectliteType.method ReflectliteType.elem) Tryz.func233 (by kernel_rfl) (by kernel_rfl) (by kernel_rfl) (by kernel_rfl);have l:=@run_callFunc_extern Tryz.prog 234 _ (ReflectliteType.relation "Implements" ReflectliteType.implements_) Tryz.func234 (by kernel_rfl) (by kernel_rfl) (by kernel_rfl) (by kernel_rfl);have h10:=@run_callFunc_extern Tryz.prog 117 _ ReflectliteType.typeOf Tryz.func117 (by kernel_rfl) (by kernel_rfl) (by kernel_rfl) (by kernel_rfl);have m:=@run_callFunc_extern Tryz.prog 231 _ (ReflectliteType.relation "AssignableTo" ReflectliteType.assignableTo) Tryz.func231 (by kernel_rfl) (by kernel_rfl) (by kernel_rfl) (by kernel_rfl);have h11:=@run_callFunc_extern Tryz.prog 118 _ (ReflectliteValue.method (ReflectliteValue.valueError "reflectlite.Value.Elem" 0) ReflectliteValue.elem) Tryz.func118 (by kernel_rfl) (by kernel_rfl) (by kernel_rfl) (by kernel_rfl);have h12:=@run_callFunc_extern Tryz.prog 119 _ ReflectliteValue.set Tryz.func119 (by kernel_rfl) (by kernel_rfl) (by kernel_rfl) (by kernel_rfl);have n:=PY;have o:=Gl;have p:=Ky;have q:=OB;have r:=OA;have s:=UW;have u:=M0;have v:=M1;have x:=H5;have y:=UX;have z:=UY;have A:=UZ;have B:=Kx;have C:=Sn ⟨w.heap.size,0,none⟩ t ((w.alloc (.cells #[.pointer (some t)] 104)).alloc (.cells #[.pointer (some ⟨17,104,none⟩),.pointer (some ⟨w.heap.size,0,none⟩),.int .u64 150] 165)) (by simp);have i: 3 < w.heap.size:=by
  rcases Nat.lt_or_ge 3 w.heap.size with h | h
  ·exact h
  ·simp[World.cell?,Array.getElem?_eq_none h] at b
 have E:((w.alloc (.cells #[.pointer (some t)] 104)).alloc (.cells #[.pointer (some ⟨17,104,none⟩),.pointer (some ⟨w.heap.size,0,none⟩),.int .u64 150] 165)).cell? ⟨3,0,none⟩=some (.iface 195 (.agg #[.pointer (some ⟨17,55,none⟩)])):=by
  rw[World.cell?_alloc_lt _ _ ⟨3,0,none⟩ (by simp;omega),World.cell?_alloc_lt _ _ ⟨3,0,none⟩ i];exact b
 have d:t.block < w.heap.size:=by
  rcases Nat.lt_or_ge t.block w.heap.size with h | h
  ·exact h
  ·simp[World.cell?,Array.getElem?_eq_none h] at c
 have F:=So ⟨w.heap.size,0,none⟩ t (((w.alloc (.cells #[.pointer (some t)] 104)).alloc (.cells #[.pointer (some ⟨17,104,none⟩),.pointer (some ⟨w.heap.size,0,none⟩),.int .u64 150] 165)).alloc (.cells #[.pointer (some ⟨17,104,none⟩),.pointer (some ⟨w.heap.size,0,none⟩),.int .u64 150] 165)) (by rw[World.cell?_alloc_lt _ _ ⟨w.heap.size,0,none⟩ (by simp;omega)];simp);have st:=WE t ⟨w.heap.size+1+1+1,0,none⟩ e a ((((w.alloc (.cells #[.pointer (some t)] 104)).alloc (.cells #[.pointer (some ⟨17,104,none⟩),.pointer (some ⟨w.heap.size,0,none⟩),.int .u64 150] 165)).alloc (.cells #[.pointer (some ⟨17,104,none⟩),.pointer (some ⟨w.heap.size,0,none⟩),.int .u64 150] 165)).alloc (.cells #[.pointer (some e)] 102))
  (by rw[World.cell?_alloc_at _ _ _ _ (by simp)];rfl)
  (by rw[World.cell?_alloc_lt _ _ t (by simp;omega),World.cell?_alloc_lt _ _ t (by simp;omega),World.cell?_alloc_lt _ _ t (by simp;omega),World.cell?_alloc_lt _ _ t d];exact c)
  (by rw[World.frozen?_alloc_old _ _ t (by simp;omega),World.frozen?_alloc_old _ _ t (by simp;omega),World.frozen?_alloc_old _ _ t (by simp;omega),World.frozen?_alloc_old _ _ t (Nat.ne_of_lt d)];exact f)
 go_enter Tryz.func44,Tryz.ntmps44
 go_wp2
 refine wp_loop_rounds 1 ?_;rw[rounds_succ];go_wp2
 go_ret
 exact ⟨rfl,rfl⟩
end Go.Proofs.YtoplnhndilmlcaaGreatDoor
