/-
  errors.As at the program's own placed error: contracts. After the guide's worked text for errors.As; own numbers.
-/
import Derived.Test.YtdldimphcpojoaaGreatDoorRows
import Derived.WalkKit
import Derived.LaidEql
import Derived.Stop.Asserts
import Derived.RowKitTokens
namespace Go.Proofs.YtdldimphcpojoaaGreatDoor
set_option maxHeartbeats 4000000
open Go.RowKit Go.Extern.Stop Go.Stop Go.Extern
theorem ME (t:Addr)(w:World):(ReflectliteValue.unpack (.iface 89 (.pointer (some t)))).run Tryz.prog w
  = .ok (.agg #[.pointer (some ⟨17,89,none⟩),.pointer (some ⟨w.heap.size,0,none⟩),.int .u64 150]) (w.alloc (.cells #[.pointer (some t)] 89)):=by kernel_rfl
theorem SK (a:Addr)(w:World):(ReflectliteValue.methodAny (ReflectliteValue.valueError "reflectlite.Value.Type" 0) (fun t _ _ _=>ReflectliteType.toType t) #[.agg #[.pointer (some ⟨17,89,none⟩),.pointer (some a),.int .u64 150]]).run Tryz.prog w
  = .ok (.iface 155 (.agg #[.pointer (some ⟨17,89,none⟩)])) w:=by kernel_rfl
theorem LI (h:Value)(w:World):(Go.method 394 155 (.agg #[h]) "Kind").run Tryz.prog w= .ok (192,h) w:=by kernel_rfl
theorem SL (w:World):((ReflectliteType.abiMethod fun t=>(fun a:Nat=>Value.int IntKind.u8 (a:Int)) <$> Rtype.kind t) #[.pointer (some ⟨17,89,none⟩)]).run Tryz.prog w= .ok (.int .u8 22) w:=by kernel_rfl
theorem SM (w:World):((ReflectliteType.abiMethod fun t=>(fun a:Nat=>Value.int IntKind.u8 (a:Int)) <$> Rtype.kind t) #[.pointer (some ⟨17,87,none⟩)]).run Tryz.prog w= .ok (.int .u8 22) w:=by kernel_rfl
theorem Uw {a:Array Value→Sort _}(v:Value)(h1:(v:Value)→a #[v])(h2:(x:Array Value)→a x):ReflectliteValue.method.match_2 a #[v] h1 h2=h1 v:=rfl
theorem XJ {a:Array Value→Sort _}(v x:Value)(h1:(v x:Value)→a #[v,x])(h2:(x:Array Value)→a x):ReflectliteValue.set.match_3 a #[v,x] h1 h2=h1 v x:=rfl
theorem Kb (a:Addr)(w:World):(ReflectliteValue.parts (.agg #[.pointer (some ⟨17,89,none⟩),.pointer (some a),.int .u64 150])).run Tryz.prog w= .ok (some (89,a,150)) w:=by kernel_rfl
theorem PX (a p:Addr)(b:World)(c:b.cell? a=some (.pointer (some p))):
  (ReflectliteValue.method (ReflectliteValue.valueError "reflectlite.Value.IsNil" 0) ReflectliteValue.isNil #[.agg #[.pointer (some ⟨17,89,none⟩),.pointer (some a),.int .u64 150]]).run Tryz.prog b= .ok (.bool false) b:=by
 delta ReflectliteValue.method
 rw[Uw];simp only[Sem.run_bind,Kb,Result.andThen];simp[ReflectliteValue.isNil,loadVar,isAgg,underlying,Tryz.underlying89,c,Result.andThen]
theorem LJ (h:Value)(w:World):(Go.method 394 155 (.agg #[h]) "Elem").run Tryz.prog w= .ok (204,.agg #[h]) w:=by kernel_rfl
theorem GD (h:Value)(w:World):(Go.method 394 155 (.agg #[h]) "Implements").run Tryz.prog w= .ok (205,.agg #[h]) w:=by kernel_rfl
theorem FK (h:Value)(w:World):(Go.method 394 155 (.agg #[h]) "AssignableTo").run Tryz.prog w= .ok (202,.agg #[h]) w:=by kernel_rfl
theorem SN (w:World):(ReflectliteType.method ReflectliteType.elem #[.agg #[.pointer (some ⟨17,89,none⟩)]]).run Tryz.prog w= .ok (.iface 155 (.agg #[.pointer (some ⟨17,87,none⟩)])) w:=by kernel_rfl
theorem JT (w:World):(ReflectliteType.relation "Implements" ReflectliteType.implements_ #[.agg #[.pointer (some ⟨17,87,none⟩)],.iface 155 (.agg #[.pointer (some ⟨17,53,none⟩)])]).run Tryz.prog w= .ok (.bool true) w:=by kernel_rfl
theorem ND (v:Value)(w:World):(ReflectliteType.typeOf #[.iface 87 v]).run Tryz.prog w= .ok (.iface 155 (.agg #[.pointer (some ⟨17,87,none⟩)])) w:=by kernel_rfl
theorem JU (w:World):(ReflectliteType.relation "AssignableTo" ReflectliteType.assignableTo #[.agg #[.pointer (some ⟨17,87,none⟩)],.iface 155 (.agg #[.pointer (some ⟨17,87,none⟩)])]).run Tryz.prog w= .ok (.bool true) w:=by kernel_rfl
theorem MF (e:Addr)(w:World):(ReflectliteValue.unpack (.iface 87 (.pointer (some e)))).run Tryz.prog w
  = .ok (.agg #[.pointer (some ⟨17,87,none⟩),.pointer (some ⟨w.heap.size,0,none⟩),.int .u64 150]) (w.alloc (.cells #[.pointer (some e)] 87)):=by kernel_rfl
theorem NE (w:World):(Rtype.elem? 89).run Tryz.prog w= .ok (some 87) w:=by kernel_rfl
theorem Wi (p:Addr)(w:World):(ReflectliteValue.mk 87 p ReflectliteValue.flagAddr).run Tryz.prog w= .ok (.agg #[.pointer (some ⟨17,87,none⟩),.pointer (some p),.int .u64 406]) w:=by kernel_rfl
theorem PY (a p:Addr)(b:World)(c:b.cell? a=some (.pointer (some p))):
  (ReflectliteValue.method (ReflectliteValue.valueError "reflectlite.Value.Elem" 0) ReflectliteValue.elem #[.agg #[.pointer (some ⟨17,89,none⟩),.pointer (some a),.int .u64 150]]).run Tryz.prog b
   = .ok (.agg #[.pointer (some ⟨17,87,none⟩),.pointer (some p),.int .u64 406]) b:=by
 delta ReflectliteValue.method
 rw[Uw];simp only[Sem.run_bind,Kb,Result.andThen];simp[ReflectliteValue.elem,loadVar,isAgg,underlying,Tryz.underlying89,c,Result.andThen,NE,Wi]
theorem NF (a:Addr)(w:World):(ReflectliteValue.parts (.agg #[.pointer (some ⟨17,87,none⟩),.pointer (some a),.int .u64 406])).run Tryz.prog w= .ok (some (87,a,406)) w:=by kernel_rfl
theorem PZ (a:Addr)(w:World):(ReflectliteValue.parts (.agg #[.pointer (some ⟨17,87,none⟩),.pointer (some a),.int .u64 150])).run Tryz.prog w= .ok (some (87,a,150)) w:=by kernel_rfl
theorem NG (w:World):(Rtype.directlyAssignable 87 87).run Tryz.prog w= .ok true w:=by kernel_rfl
theorem Ux (c b e:Addr)(d:Value)(a:World)(f:a.cell? b=some (.pointer (some e)))(ht:a.cell? c=some d)(g:a.frozen? c=false):
  (ReflectliteValue.set #[.agg #[.pointer (some ⟨17,87,none⟩),.pointer (some c),.int .u64 406],.agg #[.pointer (some ⟨17,87,none⟩),.pointer (some b),.int .u64 150]]).run Tryz.prog a
   = .ok (.tuple #[]) (a.setCell c (.pointer (some e))):=by
 delta ReflectliteValue.set
 rw[XJ];simp only[Sem.run_bind,NF,PZ,Result.andThen];simp[ReflectliteValue.flagAddr,loadVar,isAgg,underlying,Tryz.underlying87,f,Result.andThen,NG,storeVar,Value.cells,storeCells,Addr.add];rw[run_store Tryz.prog a c _ _ (by rfl)];simp[ht,g]
theorem Uy (e t:Addr)(a:Value)(w:World)(b:w.cell? ⟨3,0,none⟩=some (.iface 155 (.agg #[.pointer (some ⟨17,53,none⟩)])))(c:w.cell? t=some a)(f:w.frozen? t=false):
  Calls Tryz.prog 36 #[.iface 87 (.pointer (some e)),.iface 89 (.pointer (some t))] w fun g w'=>g= .returned (.bool true)∧w'=((((w.alloc (.cells #[.pointer (some t)] 89)).alloc (.cells #[.pointer (some ⟨17,89,none⟩),.pointer (some ⟨w.heap.size,0,none⟩),.int .u64 150] 132)).alloc (.cells #[.pointer (some ⟨17,89,none⟩),.pointer (some ⟨w.heap.size,0,none⟩),.int .u64 150] 132)).alloc (.cells #[.pointer (some e)] 87)).setCell t (.pointer (some e)):=by
 have h6:=@run_callFunc_extern Tryz.prog 65 _ (fun args=>ReflectliteValue.unpack (args.getD 0 (.tuple #[]))) Tryz.func65 (by kernel_rfl) (by kernel_rfl) (by kernel_rfl) (by kernel_rfl);have h7:=@run_callFunc_extern Tryz.prog 66 _ (ReflectliteValue.methodAny (ReflectliteValue.valueError "reflectlite.Value.Type" 0) (fun t _ _ _=>ReflectliteType.toType t)) Tryz.func66 (by kernel_rfl) (by kernel_rfl) (by kernel_rfl) (by kernel_rfl);have h8:=@run_callFunc_extern Tryz.prog 67 _ (ReflectliteValue.method (ReflectliteValue.valueError "reflectlite.Value.IsNil" 0) ReflectliteValue.isNil) Tryz.func67 (by kernel_rfl) (by kernel_rfl) (by kernel_rfl) (by kernel_rfl);have j:=@run_callFunc_extern Tryz.prog 192 _ (ReflectliteType.abiMethod fun t=>do pure (.int .u8 (← Rtype.kind t))) Tryz.func192 (by kernel_rfl) (by kernel_rfl) (by kernel_rfl) (by kernel_rfl);have k:=@run_callFunc_extern Tryz.prog 204 _ (ReflectliteType.method ReflectliteType.elem) Tryz.func204 (by kernel_rfl) (by kernel_rfl) (by kernel_rfl) (by kernel_rfl);have l:=@run_callFunc_extern Tryz.prog 205 _ (ReflectliteType.relation "Implements" ReflectliteType.implements_) Tryz.func205 (by kernel_rfl) (by kernel_rfl) (by kernel_rfl) (by kernel_rfl);have h10:=@run_callFunc_extern Tryz.prog 90 _ ReflectliteType.typeOf Tryz.func90 (by kernel_rfl) (by kernel_rfl) (by kernel_rfl) (by kernel_rfl);have m:=@run_callFunc_extern Tryz.prog 202 _ (ReflectliteType.relation "AssignableTo" ReflectliteType.assignableTo) Tryz.func202 (by kernel_rfl) (by kernel_rfl) (by kernel_rfl) (by kernel_rfl);have h11:=@run_callFunc_extern Tryz.prog 91 _ (ReflectliteValue.method (ReflectliteValue.valueError "reflectlite.Value.Elem" 0) ReflectliteValue.elem) Tryz.func91 (by kernel_rfl) (by kernel_rfl) (by kernel_rfl) (by kernel_rfl);have h12:=@run_callFunc_extern Tryz.prog 92 _ ReflectliteValue.set Tryz.func92 (by kernel_rfl) (by kernel_rfl) (by kernel_rfl) (by kernel_rfl);have n:=ND;have o:=FK;have p:=JU;have q:=MF;have r:=ME;have s:=SK;have u:=LI;have v:=LJ;have x:=GD;have y:=SL;have z:=SM;have A:=SN;have B:=JT;have C:=PX ⟨w.heap.size,0,none⟩ t ((w.alloc (.cells #[.pointer (some t)] 89)).alloc (.cells #[.pointer (some ⟨17,89,none⟩),.pointer (some ⟨w.heap.size,0,none⟩),.int .u64 150] 132)) (by simp);have i: 3 < w.heap.size:=by
  rcases Nat.lt_or_ge 3 w.heap.size with h | h
  ·exact h
  ·simp[World.cell?,Array.getElem?_eq_none h] at b
 have E:((w.alloc (.cells #[.pointer (some t)] 89)).alloc (.cells #[.pointer (some ⟨17,89,none⟩),.pointer (some ⟨w.heap.size,0,none⟩),.int .u64 150] 132)).cell? ⟨3,0,none⟩=some (.iface 155 (.agg #[.pointer (some ⟨17,53,none⟩)])):=by
  rw[World.cell?_alloc_lt _ _ ⟨3,0,none⟩ (by simp;omega),World.cell?_alloc_lt _ _ ⟨3,0,none⟩ i];exact b
 have d:t.block < w.heap.size:=by
  rcases Nat.lt_or_ge t.block w.heap.size with h | h
  ·exact h
  ·simp[World.cell?,Array.getElem?_eq_none h] at c
 have F:=PY ⟨w.heap.size,0,none⟩ t (((w.alloc (.cells #[.pointer (some t)] 89)).alloc (.cells #[.pointer (some ⟨17,89,none⟩),.pointer (some ⟨w.heap.size,0,none⟩),.int .u64 150] 132)).alloc (.cells #[.pointer (some ⟨17,89,none⟩),.pointer (some ⟨w.heap.size,0,none⟩),.int .u64 150] 132)) (by rw[World.cell?_alloc_lt _ _ ⟨w.heap.size,0,none⟩ (by simp;omega)];simp);have st:=Ux t ⟨w.heap.size+1+1+1,0,none⟩ e a ((((w.alloc (.cells #[.pointer (some t)] 89)).alloc (.cells #[.pointer (some ⟨17,89,none⟩),.pointer (some ⟨w.heap.size,0,none⟩),.int .u64 150] 132)).alloc (.cells #[.pointer (some ⟨17,89,none⟩),.pointer (some ⟨w.heap.size,0,none⟩),.int .u64 150] 132)).alloc (.cells #[.pointer (some e)] 87))
  (by rw[World.cell?_alloc_at _ _ _ _ (by simp)];rfl)
  (by rw[World.cell?_alloc_lt _ _ t (by simp;omega),World.cell?_alloc_lt _ _ t (by simp;omega),World.cell?_alloc_lt _ _ t (by simp;omega),World.cell?_alloc_lt _ _ t d];exact c)
  (by rw[World.frozen?_alloc_old _ _ t (by simp;omega),World.frozen?_alloc_old _ _ t (by simp;omega),World.frozen?_alloc_old _ _ t (by simp;omega),World.frozen?_alloc_old _ _ t (Nat.ne_of_lt d)];exact f)
 go_enter Tryz.func36,Tryz.ntmps36
 go_wp2
 refine wp_loop_rounds 1 ?_;rw[rounds_succ];go_wp2
 go_ret
 exact ⟨rfl,rfl⟩
end Go.Proofs.YtdldimphcpojoaaGreatDoor
