/-
  QE0, TAS, JU. Own work.
-/
import Derived.Test.YtchakjeegneeoaaGreatDoorMXAD
import Derived.Test.YtchakjeegneeoaaGreatDoorVPH
namespace Go.Proofs.YtchakjeegneeoaaGreatDoor
open Go.RowKit
set_option linter.unusedVariables false
theorem Ex.form (e:Ex):∃ t u,e.val= .iface t u:=by cases e <;> exact ⟨_,_,rfl⟩
theorem Ib {T:TypeId}{a:Array Field}(b: Tryz.prog.underlying T=some (.struct a))(c:TypeId)(v:Value)(w:World):(Instr.typeAssert (.iface T v) c T true).run Tryz.prog w= .ok (.tuple #[v,.bool true]) w:=by simp[Instr.typeAssert,run_underlying b]
theorem DU {S T:TypeId}{b:Array Field}{a:Value}(c: Tryz.prog.underlying T=some (.struct b))(d:∀ w,(zeroValue T).run Tryz.prog w= .ok a w)(h:S≠T)(f:TypeId)(v:Value)(w:World):(Instr.typeAssert (.iface S v) f T true).run Tryz.prog w= .ok (.tuple #[a,.bool false]) w:=by simp[Instr.typeAssert,run_underlying c,d,h]
def Sl (S:TypeId) (v:Value) (T:TypeId) (z:Value):Prop:=∀ w,(Instr.typeAssert (.iface S v) 117 T true).run Tryz.prog w= .ok (.tuple (if S=T then #[v,.bool true] else #[z,.bool false])) w
theorem taF {T:TypeId}{c:Array Field}{a:Value}(S:TypeId)(v:Value)(b: Tryz.prog.underlying T=some (.struct c))(d:∀ w,(zeroValue T).run Tryz.prog w= .ok a w):Sl S v T a:=fun w=>by
 by_cases h:S=T
 ·subst h;rw[if_pos rfl];exact Ib b _ v w
 ·rw[if_neg h];exact DU b d h _ v w
theorem tas (S:TypeId)(v:Value):Sl S v 230 (.agg #[.int .i64 0,.int .i64 0])∧Sl S v 232 (.agg #[.int .i64 0,.string ⟨#[]⟩])∧Sl S v 234 (.agg #[.int .i64 0,.bool false])∧Sl S v 236 (.agg #[.int .i64 0,.slice none 0 0])∧Sl S v 176 (.agg #[.int .i64 0,.string ⟨#[]⟩])∧Sl S v 180 (.agg #[.int .i64 0,.int .i64 0])∧Sl S v 179 (.agg #[.int .i64 0,.int .i64 0])∧Sl S v 216 (.agg #[.int .i64 0,.int .i64 0,.nilIface])∧Sl S v 218 (.agg #[.int .i64 0,.int .i64 0,.nilIface,.nilIface])∧Sl S v 220 (.agg #[.int .i64 0,.nilIface,.nilIface,.nilIface]):=
 ⟨taF S v Tryz.underlying230 Tryz.zeroValue230,taF S v Tryz.underlying232 Tryz.zeroValue232,taF S v Tryz.underlying234 Tryz.zeroValue234,taF S v Tryz.underlying236 Tryz.zeroValue236,taF S v Tryz.underlying176 Tryz.zeroValue176,taF S v Tryz.underlying180 Tryz.zeroValue180,taF S v Tryz.underlying179 Tryz.zeroValue179,taF S v Tryz.underlying216 Tryz.zeroValue216,taF S v Tryz.underlying218 Tryz.zeroValue218,taF S v Tryz.underlying220 Tryz.zeroValue220⟩
set_option maxRecDepth 100000
def Mm (T:TypeId) (F G:FuncId) (v x:Value):Prop:=(∀ w,(method 442 T v "loop.example/s01308/impl.kids").run Tryz.prog w= .ok (F,x) w)∧∀ w,(method 442 T v "loop.example/s01308/impl.place").run Tryz.prog w= .ok (G,x) w
theorem Aeo {t:TypeId}(h:t∈ [230,232,234,236,176,180,179])(i:Int)(v:Value):Mm t 242 243 (.agg #[.int .i64 i,v]) (.int .i64 i):=by
 simp only[zE,List.not_mem_nil,or_false] at h;rcases h with rfl | rfl | rfl | rfl | rfl | rfl | rfl <;> exact ⟨fun _=>by kernel_rfl,fun _=>by kernel_rfl⟩
theorem Qi (a:Array Value):Mm 216 255 256 (.agg a) (.agg a)∧Mm 218 257 258 (.agg a) (.agg a)∧Mm 220 259 260 (.agg a) (.agg a):=by
 refine ⟨⟨?_, ?_⟩,⟨?_, ?_⟩, ?_, ?_⟩ <;> intro _ <;> kernel_rfl
theorem Yo (i:Int)(w:World):Calls Tryz.prog 242 #[.int .i64 i] w fun r w'=>r= .returned (.slice none 0 0)∧w'=w:=by
 go_enter Tryz.func242,Tryz.ntmps242
 go_wp2
 go_ret
 exact ⟨rfl,rfl⟩
theorem VL (i:Int)(w:World):Calls Tryz.prog 243 #[.int .i64 i] w fun r w'=>r= .returned (.int .i64 i)∧w'=w:=by
 go_enter Tryz.func243,Tryz.ntmps243
 go_wp2
 go_ret
 exact ⟨rfl,rfl⟩
def Acb (w:World) (vs:List Value) (n:Nat) (r:Ending) (w':World):Prop:=∃ g,r= .returned (.slice (some ⟨g,0,none⟩) n n)∧w.heap.size≤g∧Al w' g vs.toArray 117∧Below w.heap.size w w'
theorem VM (i op:Int)(t:TypeId)(u:Value)(w:World):Calls Tryz.prog 255 #[.agg #[.int .i64 i,.int .i64 op,.iface t u]] w (Acb w [.iface t u] 1):=by
 have a:=(Below.refl w.heap.size w).alloc NLN (.cells #[.int .i64 i,.int .i64 op,.iface t u] 216);have b:=Al.new (w.alloc (.cells #[.int .i64 i,.int .i64 op,.iface t u] 216)) #[.iface t u] 117;simp only[World.size_alloc] at b;go_enter Tryz.func255,Tryz.ntmps255
 go_wp2
 go_ret
 exact ⟨w.heap.size+1,rfl,zJ _,b,a.alloc a.size _⟩
theorem TO (i op:Int)(t:TypeId)(u:Value)(w:World):Calls Tryz.prog 256 #[.agg #[.int .i64 i,.int .i64 op,.iface t u]] w fun r w'=>r= .returned (.int .i64 i)∧Below w.heap.size w w':=by
 have a:=(Below.refl w.heap.size w).alloc NLN (.cells #[.int .i64 i,.int .i64 op,.iface t u] 216);go_enter Tryz.func256,Tryz.ntmps256
 go_wp2
 go_ret
 exact ⟨rfl,a⟩
theorem TP (i op:Int)(t:TypeId)(u:Value)(a:TypeId)(b:Value)(w:World):Calls Tryz.prog 257 #[.agg #[.int .i64 i,.int .i64 op,.iface t u,.iface a b]] w (Acb w [.iface t u,.iface a b] 2):=by
 have c:=(Below.refl w.heap.size w).alloc NLN (.cells #[.int .i64 i,.int .i64 op,.iface t u,.iface a b] 218);have d:=Al.new (w.alloc (.cells #[.int .i64 i,.int .i64 op,.iface t u,.iface a b] 218)) #[.iface t u,.iface a b] 117;simp only[World.size_alloc] at d;go_enter Tryz.func257,Tryz.ntmps257
 go_wp2
 go_ret
 exact ⟨w.heap.size+1,rfl,zJ _,d,c.alloc c.size _⟩
theorem Ry (i op:Int)(t:TypeId)(u:Value)(a:TypeId)(b:Value)(w:World):Calls Tryz.prog 258 #[.agg #[.int .i64 i,.int .i64 op,.iface t u,.iface a b]] w fun r w'=>r= .returned (.int .i64 i)∧Below w.heap.size w w':=by
 have c:=(Below.refl w.heap.size w).alloc NLN (.cells #[.int .i64 i,.int .i64 op,.iface t u,.iface a b] 218);go_enter Tryz.func258,Tryz.ntmps258
 go_wp2
 go_ret
 exact ⟨rfl,c⟩
theorem TQ (i:Int)(t:TypeId)(u:Value)(a:TypeId)(b:Value)(c:TypeId)(d:Value)(w:World):Calls Tryz.prog 259 #[.agg #[.int .i64 i,.iface t u,.iface a b,.iface c d]] w (Acb w [.iface t u,.iface a b,.iface c d] 3):=by
 have f:=(Below.refl w.heap.size w).alloc NLN (.cells #[.int .i64 i,.iface t u,.iface a b,.iface c d] 220);have g:=Al.new (w.alloc (.cells #[.int .i64 i,.iface t u,.iface a b,.iface c d] 220)) #[.iface t u,.iface a b,.iface c d] 117;simp only[World.size_alloc] at g;go_enter Tryz.func259,Tryz.ntmps259
 go_wp2
 go_ret
 exact ⟨w.heap.size+1,rfl,zJ _,g,f.alloc f.size _⟩
theorem RA (i:Int)(t:TypeId)(u:Value)(a:TypeId)(b:Value)(c:TypeId)(d:Value)(w:World):Calls Tryz.prog 260 #[.agg #[.int .i64 i,.iface t u,.iface a b,.iface c d]] w fun r w'=>r= .returned (.int .i64 i)∧Below w.heap.size w w':=by
 have f:=(Below.refl w.heap.size w).alloc NLN (.cells #[.int .i64 i,.iface t u,.iface a b,.iface c d] 220);go_enter Tryz.func260,Tryz.ntmps260
 go_wp2
 go_ret
 exact ⟨rfl,f⟩
end Go.Proofs.YtchakjeegneeoaaGreatDoor
