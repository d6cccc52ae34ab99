/-
  errors.Is at the program's own sentinels: contracts. After the guide's worked text for errors.Is; own numbers.
-/
import Derived.Test.YtcpdodmoheebaaaGreatDoorRows
import Derived.WalkKit
import Derived.LaidEql
import Derived.Stop.Asserts
import Derived.RowKitTokens
namespace Go.Proofs.YtcpdodmoheebaaaGreatDoor
open Go.RowKit Go.Extern.Stop Go.Stop Go.Extern
theorem GS (a:Value)(w:World):(Extern.ReflectliteType.typeOf #[.iface 150 a]).run Tryz.prog w= .ok (.iface 106 (.agg #[.pointer (some ⟨16,150,none⟩)])) w:=by kernel_rfl
def Ki:TypeId→Sem Value:=fun t=>do Go.Extern.Rtype.noPackHeld "Comparable" t;pure (.bool (← typeInfo t).comparable)
theorem DC (w:World):((Extern.ReflectliteType.method Ki) #[.agg #[.pointer (some ⟨16,150,none⟩)]]).run Tryz.prog w= .ok (.bool true) w:=by kernel_rfl
theorem Cc (a:Value)(w:World):(Go.method 294 106 a "Comparable").run Tryz.prog w= .ok (131,a) w:=by kernel_rfl
theorem Kj:(Tryz.prog.info? 150).map (·.comparable)=some true:=by kernel_rfl
theorem Kk:(Tryz.prog.info? 152).map (·.size)=some 1:=by kernel_rfl
theorem Mp (a:Value)(b:TypeId)(w:World):(Instr.typeAssert (.iface 150 a) b 129 true).run Tryz.prog w= .ok (.tuple #[.nilIface,.bool false]) w:=run_typeAssert_lacksB Tryz.underlying129 (by kernel_rfl) (by kernel_rfl) a b w
theorem JH (a:Value)(b:TypeId)(w:World):(Instr.typeAssert (.iface 150 a) b 114 true).run Tryz.prog w= .ok (.tuple #[.nilIface,.bool false]) w:=run_typeAssert_lacksB Tryz.underlying114 (by kernel_rfl) (by kernel_rfl) a b w
theorem IH (a:Value)(b:TypeId)(w:World):(Instr.typeAssert (.iface 150 a) b 116 true).run Tryz.prog w= .ok (.tuple #[.nilIface,.bool false]) w:=run_typeAssert_lacksB Tryz.underlying116 (by kernel_rfl) (by kernel_rfl) a b w
theorem Gs (a:Addr)(w:World):
  Calls Tryz.prog 48 #[.iface 150 (.pointer (some a)),.iface 150 (.pointer (some a))] w fun e w'=>e= .returned (.bool true)∧w'=w:=by
 obtain ⟨f,b,c⟩:=Option.map_eq_some_iff.1 Kj
 obtain ⟨j,d,g⟩:=Option.map_eq_some_iff.1 Kk
 have h8:=@run_callFunc_extern Tryz.prog 61 _ Extern.ReflectliteType.typeOf Tryz.func61 (by kernel_rfl) (by kernel_rfl) (by kernel_rfl) (by kernel_rfl)
 have h:=@run_callFunc_extern Tryz.prog 131 _ (Extern.ReflectliteType.method Ki) Tryz.func131 (by kernel_rfl) (by kernel_rfl) (by kernel_rfl) (by kernel_rfl)
 have i:=GS
 have k:=DC
 have l:=Cc
 have m:=run_eql_iface_ptr_same (P:=Tryz.prog) w a Tryz.underlying38 Tryz.underlying150 b c d
 go_enter Tryz.func48,Tryz.ntmps48
 go_wp2
 refine wp_loop_rounds 1 ?_
 rw [rounds_succ]
 go_wp2
 go_ret
 exact ⟨rfl,rfl⟩
theorem Kl (a b:Addr)(c d:Array Value)(f g:TypeId)(w:World)(h:a≠b)(i:w.heap[a.block]? =some (.cells c f (0,0)))(k:w.heap[b.block]? =some (.cells d g (0,0))):
  Calls Tryz.prog 48 #[.iface 150 (.pointer (some a)),.iface 150 (.pointer (some b))] w fun e w'=>e= .returned (.bool false)∧w'=w:=by
 obtain ⟨p,l,m⟩:=Option.map_eq_some_iff.1 Kj
 obtain ⟨j,n,o⟩:=Option.map_eq_some_iff.1 Kk
 have h8:=@run_callFunc_extern Tryz.prog 61 _ Extern.ReflectliteType.typeOf Tryz.func61 (by kernel_rfl) (by kernel_rfl) (by kernel_rfl) (by kernel_rfl)
 have q:=@run_callFunc_extern Tryz.prog 131 _ (Extern.ReflectliteType.method Ki) Tryz.func131 (by kernel_rfl) (by kernel_rfl) (by kernel_rfl) (by kernel_rfl)
 have r:=GS
 have s:=DC
 have t:=Cc
 have u:=Mp
 have v:=JH
 have x:=IH
 have y:=run_eql_iface_ptr_other (P:=Tryz.prog) w Tryz.underlying38 Tryz.underlying150 l m n (by rw [o];decide) h i k
 go_enter Tryz.func48,Tryz.ntmps48
 go_wp2
 refine wp_loop_rounds 1 ?_
 rw [rounds_succ]
 go_wp2
 go_ret
 exact ⟨rfl,rfl⟩
end Go.Proofs.YtcpdodmoheebaaaGreatDoor
