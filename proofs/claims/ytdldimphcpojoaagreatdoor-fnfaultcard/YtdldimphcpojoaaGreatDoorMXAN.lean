/-
  JU, NUA, ONC, OND, QE, QF, VPJ, VPU, GL. Own work.
-/
import Derived.Test.YtdldimphcpojoaaGreatDoorMXAF
import Derived.Test.YtdldimphcpojoaaGreatDoorMXAM
import Derived.Test.YtdldimphcpojoaaGreatDoorMXAD
import Derived.Test.YtdldimphcpojoaaGreatDoorMXAI
import Derived.Test.YtdldimphcpojoaaGreatDoorMXAR
namespace Go.Proofs.YtdldimphcpojoaaGreatDoor
set_option maxRecDepth 100000
open Go.RowKit
set_option linter.unusedVariables false
theorem Om (i n:Int):∀ w,(method 394 182 (.agg #[.int .i64 i,.int .i64 n]) "loop.example/s01308/impl.kids").run Tryz.prog w= .ok (212,.int .i64 i) w:=fun _=>by kernel_rfl
theorem TJ (i n:Int):∀ w,(method 394 182 (.agg #[.int .i64 i,.int .i64 n]) "loop.example/s01308/impl.place").run Tryz.prog w= .ok (213,.int .i64 i) w:=fun _=>by kernel_rfl
theorem Me (i:Int)(s:ByteArray):∀ w,(method 394 184 (.agg #[.int .i64 i,.string s]) "loop.example/s01308/impl.kids").run Tryz.prog w= .ok (212,.int .i64 i) w:=fun _=>by kernel_rfl
theorem QU (i:Int)(s:ByteArray):∀ w,(method 394 184 (.agg #[.int .i64 i,.string s]) "loop.example/s01308/impl.place").run Tryz.prog w= .ok (213,.int .i64 i) w:=fun _=>by kernel_rfl
theorem Mf (i:Int)(b:Bool):∀ w,(method 394 186 (.agg #[.int .i64 i,.bool b]) "loop.example/s01308/impl.kids").run Tryz.prog w= .ok (212,.int .i64 i) w:=fun _=>by kernel_rfl
theorem QV (i:Int)(b:Bool):∀ w,(method 394 186 (.agg #[.int .i64 i,.bool b]) "loop.example/s01308/impl.place").run Tryz.prog w= .ok (213,.int .i64 i) w:=fun _=>by kernel_rfl
theorem On (i:Int)(a:Option Addr)(n c:Nat):∀ w,(method 394 188 (.agg #[.int .i64 i,.slice a n c]) "loop.example/s01308/impl.kids").run Tryz.prog w= .ok (212,.int .i64 i) w:=fun _=>by kernel_rfl
theorem TK (i:Int)(a:Option Addr)(n c:Nat):∀ w,(method 394 188 (.agg #[.int .i64 i,.slice a n c]) "loop.example/s01308/impl.place").run Tryz.prog w= .ok (213,.int .i64 i) w:=fun _=>by kernel_rfl
theorem Mg (i:Int)(s:ByteArray):∀ w,(method 394 190 (.agg #[.int .i64 i,.string s]) "loop.example/s01308/impl.kids").run Tryz.prog w= .ok (212,.int .i64 i) w:=fun _=>by kernel_rfl
theorem QW (i:Int)(s:ByteArray):∀ w,(method 394 190 (.agg #[.int .i64 i,.string s]) "loop.example/s01308/impl.place").run Tryz.prog w= .ok (213,.int .i64 i) w:=fun _=>by kernel_rfl
theorem Mh (i n:Int):∀ w,(method 394 191 (.agg #[.int .i64 i,.int .i64 n]) "loop.example/s01308/impl.kids").run Tryz.prog w= .ok (212,.int .i64 i) w:=fun _=>by kernel_rfl
theorem QX (i n:Int):∀ w,(method 394 191 (.agg #[.int .i64 i,.int .i64 n]) "loop.example/s01308/impl.place").run Tryz.prog w= .ok (213,.int .i64 i) w:=fun _=>by kernel_rfl
theorem Mi (i n:Int):∀ w,(method 394 192 (.agg #[.int .i64 i,.int .i64 n]) "loop.example/s01308/impl.kids").run Tryz.prog w= .ok (212,.int .i64 i) w:=fun _=>by kernel_rfl
theorem QY (i n:Int):∀ w,(method 394 192 (.agg #[.int .i64 i,.int .i64 n]) "loop.example/s01308/impl.place").run Tryz.prog w= .ok (213,.int .i64 i) w:=fun _=>by kernel_rfl
theorem Sj (i op:Int)(t:TypeId)(u:Value):∀ w,(method 394 194 (.agg #[.int .i64 i,.int .i64 op,.iface t u]) "loop.example/s01308/impl.kids").run Tryz.prog w= .ok (214,.agg #[.int .i64 i,.int .i64 op,.iface t u]) w:=fun _=>by kernel_rfl
theorem Vv (i op:Int)(t:TypeId)(u:Value):∀ w,(method 394 194 (.agg #[.int .i64 i,.int .i64 op,.iface t u]) "loop.example/s01308/impl.place").run Tryz.prog w= .ok (215,.agg #[.int .i64 i,.int .i64 op,.iface t u]) w:=fun _=>by kernel_rfl
theorem Oo (i op:Int)(t:TypeId)(u:Value)(a:TypeId)(b:Value):∀ w,(method 394 196 (.agg #[.int .i64 i,.int .i64 op,.iface t u,.iface a b]) "loop.example/s01308/impl.kids").run Tryz.prog w= .ok (216,.agg #[.int .i64 i,.int .i64 op,.iface t u,.iface a b]) w:=fun _=>by kernel_rfl
theorem TL (i op:Int)(t:TypeId)(u:Value)(a:TypeId)(b:Value):∀ w,(method 394 196 (.agg #[.int .i64 i,.int .i64 op,.iface t u,.iface a b]) "loop.example/s01308/impl.place").run Tryz.prog w= .ok (217,.agg #[.int .i64 i,.int .i64 op,.iface t u,.iface a b]) w:=fun _=>by kernel_rfl
theorem Oq (i:Int)(t:TypeId)(u:Value)(a:TypeId)(b:Value)(c:TypeId)(d:Value):∀ w,(method 394 198 (.agg #[.int .i64 i,.iface t u,.iface a b,.iface c d]) "loop.example/s01308/impl.kids").run Tryz.prog w= .ok (218,.agg #[.int .i64 i,.iface t u,.iface a b,.iface c d]) w:=fun _=>by kernel_rfl
theorem TM (i:Int)(t:TypeId)(u:Value)(a:TypeId)(b:Value)(c:TypeId)(d:Value):∀ w,(method 394 198 (.agg #[.int .i64 i,.iface t u,.iface a b,.iface c d]) "loop.example/s01308/impl.place").run Tryz.prog w= .ok (219,.agg #[.int .i64 i,.iface t u,.iface a b,.iface c d]) w:=fun _=>by kernel_rfl
theorem Dl (i:Int)(w:World):Calls Tryz.prog 212 #[.int .i64 i] w fun r w'=>r= .returned (.slice none 0 0)∧w'=w:=by
 go_enter Tryz.func212,Tryz.ntmps212
 go_wp2
 go_ret
 exact ⟨rfl,rfl⟩
theorem Q4 (i:Int)(w:World):Calls Tryz.prog 213 #[.int .i64 i] w fun r w'=>r= .returned (.int .i64 i)∧w'=w:=by
 go_enter Tryz.func213,Tryz.ntmps213
 go_wp2
 go_ret
 exact ⟨rfl,rfl⟩
def X6 (w:World) (vs:List Value) (n:Nat) (r:Ending) (w':World):Prop:=∃ g,r= .returned (.slice (some ⟨g,0,none⟩) n n)∧w.heap.size≤g∧An w' g vs.toArray 120∧Below w.heap.size w w'
theorem KI (i op:Int)(t:TypeId)(u:Value)(w:World):Calls Tryz.prog 214 #[.agg #[.int .i64 i,.int .i64 op,.iface t u]] w (X6 w [.iface t u] 1):=by
 have a:=(Below.refl w.heap.size w).alloc NLN (.cells #[.int .i64 i,.int .i64 op,.iface t u] 194);have b:=An.new (w.alloc (.cells #[.int .i64 i,.int .i64 op,.iface t u] 194)) #[.iface t u] 120;simp only[World.size_alloc] at b;go_enter Tryz.func214,Tryz.ntmps214
 go_wp2
 go_ret
 exact ⟨w.heap.size+1,rfl,Nat.le_succ _,b,a.alloc a.size _⟩
theorem OV (i op:Int)(t:TypeId)(u:Value)(w:World):Calls Tryz.prog 215 #[.agg #[.int .i64 i,.int .i64 op,.iface t u]] w fun r w'=>r= .returned (.int .i64 i)∧Below w.heap.size w w':=by
 have a:=(Below.refl w.heap.size w).alloc NLN (.cells #[.int .i64 i,.int .i64 op,.iface t u] 194);go_enter Tryz.func215,Tryz.ntmps215
 go_wp2
 go_ret
 exact ⟨rfl,a⟩
theorem JC (i op:Int)(t:TypeId)(u:Value)(a:TypeId)(b:Value)(w:World):Calls Tryz.prog 216 #[.agg #[.int .i64 i,.int .i64 op,.iface t u,.iface a b]] w (X6 w [.iface t u,.iface a b] 2):=by
 have c:=(Below.refl w.heap.size w).alloc NLN (.cells #[.int .i64 i,.int .i64 op,.iface t u,.iface a b] 196);have d:=An.new (w.alloc (.cells #[.int .i64 i,.int .i64 op,.iface t u,.iface a b] 196)) #[.iface t u,.iface a b] 120;simp only[World.size_alloc] at d;go_enter Tryz.func216,Tryz.ntmps216
 go_wp2
 go_ret
 exact ⟨w.heap.size+1,rfl,Nat.le_succ _,d,c.alloc c.size _⟩
theorem Nl (i op:Int)(t:TypeId)(u:Value)(a:TypeId)(b:Value)(w:World):Calls Tryz.prog 217 #[.agg #[.int .i64 i,.int .i64 op,.iface t u,.iface a b]] w fun r w'=>r= .returned (.int .i64 i)∧Below w.heap.size w w':=by
 have c:=(Below.refl w.heap.size w).alloc NLN (.cells #[.int .i64 i,.int .i64 op,.iface t u,.iface a b] 196);go_enter Tryz.func217,Tryz.ntmps217
 go_wp2
 go_ret
 exact ⟨rfl,c⟩
theorem JD (i:Int)(t:TypeId)(u:Value)(a:TypeId)(b:Value)(c:TypeId)(d:Value)(w:World):Calls Tryz.prog 218 #[.agg #[.int .i64 i,.iface t u,.iface a b,.iface c d]] w (X6 w [.iface t u,.iface a b,.iface c d] 3):=by
 have f:=(Below.refl w.heap.size w).alloc NLN (.cells #[.int .i64 i,.iface t u,.iface a b,.iface c d] 198);have g:=An.new (w.alloc (.cells #[.int .i64 i,.iface t u,.iface a b,.iface c d] 198)) #[.iface t u,.iface a b,.iface c d] 120;simp only[World.size_alloc] at g;go_enter Tryz.func218,Tryz.ntmps218
 go_wp2
 go_ret
 exact ⟨w.heap.size+1,rfl,Nat.le_succ _,g,f.alloc f.size _⟩
theorem Nm (i:Int)(t:TypeId)(u:Value)(a:TypeId)(b:Value)(c:TypeId)(d:Value)(w:World):Calls Tryz.prog 219 #[.agg #[.int .i64 i,.iface t u,.iface a b,.iface c d]] w fun r w'=>r= .returned (.int .i64 i)∧Below w.heap.size w w':=by
 have f:=(Below.refl w.heap.size w).alloc NLN (.cells #[.int .i64 i,.iface t u,.iface a b,.iface c d] 198);go_enter Tryz.func219,Tryz.ntmps219
 go_wp2
 go_ret
 exact ⟨rfl,f⟩
set_option maxHeartbeats 1600000
def So:Ex→Nd
 | .int _ n=>⟨1,n,⟨#[]⟩, [], []⟩
 | .text _ s=>⟨2,0,s, [], []⟩
 | .bool _ b=>⟨3,if b then 1 else 0,⟨#[]⟩, [], []⟩
 | .set _ _ _ _ ss=>⟨4,0,⟨#[]⟩,ss, []⟩
 | .name _ s=>⟨5,0,s, [], []⟩
 | .attr _ n=>⟨6,n,⟨#[]⟩, [], []⟩
 | .lett _ n=>⟨7,n,⟨#[]⟩, [], []⟩
 | .un _ op _=>⟨op,0,⟨#[]⟩, [], []⟩
 | .bin _ op _ _=>⟨op,0,⟨#[]⟩, [], []⟩
 | .ite .. =>⟨27,0,⟨#[]⟩, [], []⟩
def Pe (x:Nd) (w:World) (r:Ending) (w':World):Prop:=(∃ u cu,r= .returned (.agg #[.int .i64 x.op,.int .i64 x.num,.string x.text,.slice u x.names.length cu,.slice none 0 0])∧w'.ownsRow w.heap.size 9 1 (.slice u x.names.length cu) x.names.length (x.names.map Value.string))∧Below w.heap.size w w'
theorem JI {w:World}{b:Nat}{a c d f g:Value}{t:TypeId}(R:An w b #[a,c,d,f,g] t):w.cell? ⟨b,0,none⟩=some a∧w.cell? ⟨b,1,none⟩=some c∧w.cell? ⟨b,2,none⟩=some d∧w.cell? ⟨b,3,none⟩=some f∧w.cell? ⟨b,4,none⟩=some g:=⟨R.cell 0,R.cell 1,R.cell 2,R.cell 3,R.cell 4⟩
theorem Vz (i n:Int)(w:World):Calls Tryz.prog 89 #[.iface 182 (.agg #[.int .i64 i,.int .i64 n])] w (Pe (So (.int i n)) w):=by
 have a:=Fb (T:=182) Tryz.underlying182 120;go_enter Tryz.func89,Tryz.ntmps89
 go_wp2_with fail
 refine bodyPost_ret (v:= .agg #[.int .i64 1,.int .i64 n,.string ⟨#[]⟩,.slice none 0 0,.slice none 0 0]) (by simp[results,Tryz.results89,go_sem]) rfl ⟨⟨none,0,rfl,World.ownsRow_nil _ _ _ _⟩, ?_⟩
 exact ((Below.refl w.heap.size w).alloc NLN _).alloc (by simp) _
theorem TV (i:Int)(s:ByteArray)(w:World):Calls Tryz.prog 89 #[.iface 184 (.agg #[.int .i64 i,.string s])] w (Pe (So (.text i s)) w):=by
 have a:=AA (S:=184) (T:=182) Tryz.underlying182 Tryz.zeroValue182 (by decide) 120;have b:=Fb (T:=184) Tryz.underlying184 120;go_enter Tryz.func89,Tryz.ntmps89
 go_wp2_with fail
 refine bodyPost_ret (v:= .agg #[.int .i64 2,.int .i64 0,.string s,.slice none 0 0,.slice none 0 0]) (by simp[results,Tryz.results89,go_sem]) rfl ⟨⟨none,0,rfl,World.ownsRow_nil _ _ _ _⟩, ?_⟩
 exact ((Below.refl w.heap.size w).alloc NLN _).alloc (by simp) _
theorem TW (i:Int)(s:ByteArray)(w:World):Calls Tryz.prog 89 #[.iface 190 (.agg #[.int .i64 i,.string s])] w (Pe (So (.name i s)) w):=by
 have a:=AA (S:=190) (T:=182) Tryz.underlying182 Tryz.zeroValue182 (by decide) 120;have a1:=AA (S:=190) (T:=184) Tryz.underlying184 Tryz.zeroValue184 (by decide) 120;have a2:=AA (S:=190) (T:=186) Tryz.underlying186 Tryz.zeroValue186 (by decide) 120;have a3:=AA (S:=190) (T:=188) Tryz.underlying188 Tryz.zeroValue188 (by decide) 120;have b:=Fb (T:=190) Tryz.underlying190 120;go_enter Tryz.func89,Tryz.ntmps89
 go_wp2_with fail
 refine bodyPost_ret (v:= .agg #[.int .i64 5,.int .i64 0,.string s,.slice none 0 0,.slice none 0 0]) (by simp[results,Tryz.results89,go_sem]) rfl ⟨⟨none,0,rfl,World.ownsRow_nil _ _ _ _⟩, ?_⟩
 exact ((Below.refl w.heap.size w).alloc NLN _).alloc (by simp) _
theorem TX (i n:Int)(w:World):Calls Tryz.prog 89 #[.iface 191 (.agg #[.int .i64 i,.int .i64 n])] w (Pe (So (.attr i n)) w):=by
 have a:=AA (S:=191) (T:=182) Tryz.underlying182 Tryz.zeroValue182 (by decide) 120;have a1:=AA (S:=191) (T:=184) Tryz.underlying184 Tryz.zeroValue184 (by decide) 120;have a2:=AA (S:=191) (T:=186) Tryz.underlying186 Tryz.zeroValue186 (by decide) 120;have a3:=AA (S:=191) (T:=188) Tryz.underlying188 Tryz.zeroValue188 (by decide) 120;have a4:=AA (S:=191) (T:=190) Tryz.underlying190 Tryz.zeroValue190 (by decide) 120;have b:=Fb (T:=191) Tryz.underlying191 120;go_enter Tryz.func89,Tryz.ntmps89
 go_wp2_with fail
 refine bodyPost_ret (v:= .agg #[.int .i64 6,.int .i64 n,.string ⟨#[]⟩,.slice none 0 0,.slice none 0 0]) (by simp[results,Tryz.results89,go_sem]) rfl ⟨⟨none,0,rfl,World.ownsRow_nil _ _ _ _⟩, ?_⟩
 exact ((Below.refl w.heap.size w).alloc NLN _).alloc (by simp) _
theorem TY (i n:Int)(w:World):Calls Tryz.prog 89 #[.iface 192 (.agg #[.int .i64 i,.int .i64 n])] w (Pe (So (.lett i n)) w):=by
 have a:=AA (S:=192) (T:=182) Tryz.underlying182 Tryz.zeroValue182 (by decide) 120;have a1:=AA (S:=192) (T:=184) Tryz.underlying184 Tryz.zeroValue184 (by decide) 120;have a2:=AA (S:=192) (T:=186) Tryz.underlying186 Tryz.zeroValue186 (by decide) 120;have a3:=AA (S:=192) (T:=188) Tryz.underlying188 Tryz.zeroValue188 (by decide) 120;have a4:=AA (S:=192) (T:=190) Tryz.underlying190 Tryz.zeroValue190 (by decide) 120;have a5:=AA (S:=192) (T:=191) Tryz.underlying191 Tryz.zeroValue191 (by decide) 120;have b:=Fb (T:=192) Tryz.underlying192 120;go_enter Tryz.func89,Tryz.ntmps89
 go_wp2_with fail
 refine bodyPost_ret (v:= .agg #[.int .i64 7,.int .i64 n,.string ⟨#[]⟩,.slice none 0 0,.slice none 0 0]) (by simp[results,Tryz.results89,go_sem]) rfl ⟨⟨none,0,rfl,World.ownsRow_nil _ _ _ _⟩, ?_⟩
 exact ((Below.refl w.heap.size w).alloc NLN _).alloc (by simp) _
theorem TZ (i:Int)(b:Bool)(w:World):Calls Tryz.prog 89 #[.iface 186 (.agg #[.int .i64 i,.bool b])] w (Pe (So (.bool i b)) w):=by
 have a:=AA (S:=186) (T:=182) Tryz.underlying182 Tryz.zeroValue182 (by decide) 120;have a1:=AA (S:=186) (T:=184) Tryz.underlying184 Tryz.zeroValue184 (by decide) 120;have c:=Fb (T:=186) Tryz.underlying186 120;cases b
 ·go_enter Tryz.func89,Tryz.ntmps89
  go_wp2_with fail
  refine bodyPost_ret (v:= .agg #[.int .i64 3,.int .i64 0,.string ⟨#[]⟩,.slice none 0 0,.slice none 0 0]) (by simp[results,Tryz.results89,go_sem]) rfl ⟨⟨none,0,rfl,World.ownsRow_nil _ _ _ _⟩, ?_⟩
  exact ((Below.refl w.heap.size w).alloc NLN _).alloc (by simp) _
 ·go_enter Tryz.func89,Tryz.ntmps89
  go_wp2_with fail
  refine bodyPost_ret (v:= .agg #[.int .i64 3,.int .i64 1,.string ⟨#[]⟩,.slice none 0 0,.slice none 0 0]) (by simp[results,Tryz.results89,go_sem]) rfl ⟨⟨none,0,rfl,World.ownsRow_nil _ _ _ _⟩, ?_⟩
  exact ((Below.refl w.heap.size w).alloc NLN _).alloc (by simp) _
theorem WS (i op:Int)(a:TypeId)(b:Value)(k:Ex)(w:World):Calls Tryz.prog 89 #[.iface 194 (.agg #[.int .i64 i,.int .i64 op,.iface a b])] w (Pe (So (.un i op k)) w):=by
 have c:=AA (S:=194) (T:=182) Tryz.underlying182 Tryz.zeroValue182 (by decide) 120;have a1:=AA (S:=194) (T:=184) Tryz.underlying184 Tryz.zeroValue184 (by decide) 120;have a2:=AA (S:=194) (T:=186) Tryz.underlying186 Tryz.zeroValue186 (by decide) 120;have a3:=AA (S:=194) (T:=188) Tryz.underlying188 Tryz.zeroValue188 (by decide) 120;have a4:=AA (S:=194) (T:=190) Tryz.underlying190 Tryz.zeroValue190 (by decide) 120;have a5:=AA (S:=194) (T:=191) Tryz.underlying191 Tryz.zeroValue191 (by decide) 120;have a6:=AA (S:=194) (T:=192) Tryz.underlying192 Tryz.zeroValue192 (by decide) 120;have d:=Fb (T:=194) Tryz.underlying194 120;go_enter Tryz.func89,Tryz.ntmps89
 go_wp2_with fail
 refine bodyPost_ret (v:= .agg #[.int .i64 op,.int .i64 0,.string ⟨#[]⟩,.slice none 0 0,.slice none 0 0]) (by simp[results,Tryz.results89,go_sem]) rfl ⟨⟨none,0,rfl,World.ownsRow_nil _ _ _ _⟩, ?_⟩
 exact ((Below.refl w.heap.size w).alloc NLN _).alloc (by simp) _
theorem VA (i op:Int)(a:TypeId)(b:Value)(c:TypeId)(d:Value)(k l:Ex)(w:World):Calls Tryz.prog 89 #[.iface 196 (.agg #[.int .i64 i,.int .i64 op,.iface a b,.iface c d])] w (Pe (So (.bin i op k l)) w):=by
 have f:=AA (S:=196) (T:=182) Tryz.underlying182 Tryz.zeroValue182 (by decide) 120;have a1:=AA (S:=196) (T:=184) Tryz.underlying184 Tryz.zeroValue184 (by decide) 120;have a2:=AA (S:=196) (T:=186) Tryz.underlying186 Tryz.zeroValue186 (by decide) 120;have a3:=AA (S:=196) (T:=188) Tryz.underlying188 Tryz.zeroValue188 (by decide) 120;have a4:=AA (S:=196) (T:=190) Tryz.underlying190 Tryz.zeroValue190 (by decide) 120;have a5:=AA (S:=196) (T:=191) Tryz.underlying191 Tryz.zeroValue191 (by decide) 120;have a6:=AA (S:=196) (T:=192) Tryz.underlying192 Tryz.zeroValue192 (by decide) 120;have g:=AA (S:=196) (T:=194) Tryz.underlying194 Tryz.zeroValue194 (by decide) 120;have h:=Fb (T:=196) Tryz.underlying196 120;go_enter Tryz.func89,Tryz.ntmps89
 go_wp2_with fail
 refine bodyPost_ret (v:= .agg #[.int .i64 op,.int .i64 0,.string ⟨#[]⟩,.slice none 0 0,.slice none 0 0]) (by simp[results,Tryz.results89,go_sem]) rfl ⟨⟨none,0,rfl,World.ownsRow_nil _ _ _ _⟩, ?_⟩
 exact ((Below.refl w.heap.size w).alloc NLN _).alloc (by simp) _
theorem VB (i:Int)(a:TypeId)(b:Value)(c:TypeId)(d:Value)(f:TypeId)(g:Value)(k l m:Ex)(w:World):Calls Tryz.prog 89 #[.iface 198 (.agg #[.int .i64 i,.iface a b,.iface c d,.iface f g])] w (Pe (So (.ite i k l m)) w):=by
 have h:=AA (S:=198) (T:=182) Tryz.underlying182 Tryz.zeroValue182 (by decide) 120;have a1:=AA (S:=198) (T:=184) Tryz.underlying184 Tryz.zeroValue184 (by decide) 120;have a2:=AA (S:=198) (T:=186) Tryz.underlying186 Tryz.zeroValue186 (by decide) 120;have a3:=AA (S:=198) (T:=188) Tryz.underlying188 Tryz.zeroValue188 (by decide) 120;have a4:=AA (S:=198) (T:=190) Tryz.underlying190 Tryz.zeroValue190 (by decide) 120;have a5:=AA (S:=198) (T:=191) Tryz.underlying191 Tryz.zeroValue191 (by decide) 120;have a6:=AA (S:=198) (T:=192) Tryz.underlying192 Tryz.zeroValue192 (by decide) 120;have j:=AA (S:=198) (T:=194) Tryz.underlying194 Tryz.zeroValue194 (by decide) 120;have n:=AA (S:=198) (T:=196) Tryz.underlying196 Tryz.zeroValue196 (by decide) 120;have o:=Fb (T:=198) Tryz.underlying198 120;go_enter Tryz.func89,Tryz.ntmps89
 go_wp2_with fail
 refine bodyPost_ret (v:= .agg #[.int .i64 27,.int .i64 0,.string ⟨#[]⟩,.slice none 0 0,.slice none 0 0]) (by simp[results,Tryz.results89,go_sem]) rfl ⟨⟨none,0,rfl,World.ownsRow_nil _ _ _ _⟩, ?_⟩
 exact ((Below.refl w.heap.size w).alloc NLN _).alloc (by simp) _
theorem VC (i:Int)(a:Option Addr)(n c:Nat)(b:List ByteArray)(w:World)(o:Bg w a n c b)(hl:b.length≤1048576):Calls Tryz.prog 89 #[.iface 188 (.agg #[.int .i64 i,.slice a n c])] w (Pe (So (.set i a n c b)) w):=by
 have H:=AA (S:=188) (T:=182) Tryz.underlying182 Tryz.zeroValue182 (by decide) 120;have a1:=AA (S:=188) (T:=184) Tryz.underlying184 Tryz.zeroValue184 (by decide) 120;have a2:=AA (S:=188) (T:=186) Tryz.underlying186 Tryz.zeroValue186 (by decide) 120;have I:=Fb (T:=188) Tryz.underlying188 120;have k:=((Below.refl w.heap.size w).alloc NLN (.cells #[.int .i64 0,.int .i64 0,.string ⟨#[]⟩,.slice none 0 0,.slice none 0 0] 114)).alloc (by simp) (.cells #[.int .i64 i,.slice a n c] 188);have s:=(An.new w #[.int .i64 0,.int .i64 0,.string ⟨#[]⟩,.slice none 0 0,.slice none 0 0] 114).alloc (.cells #[.int .i64 i,.slice a n c] 188);have t:=Ab (P8 a n c b _ (o.below k NLN) hl);clear o;go_enter Tryz.func89,Tryz.ntmps89
 go_wp2_with fail
 refine (Aa t).mono ?_;rintro r J ⟨⟨x,d,rfl,l⟩,m⟩;have g:=s.after m NLN;obtain ⟨K,L,M,N,O⟩:=JI g;have P:=fun j=>g.frozen j;obtain ⟨y,z,A,B,C⟩:=JI ((((((g).set 0 (.int .i64 4)).set 1 (.int .i64 0)).set 2 (.string ⟨#[]⟩)).set 3 (.slice x b.length d)).set 4 (.slice none 0 0));have u:=k.trans (m.mono (by simp;omega));have f:∀ q,(Value.slice x b.length d).ownBlock=some q→q≠w.heap.size:=fun q hq h=>by have:=(l.lt q hq).1;simp at this;omega
 have E:=Ab ((((((u).setCell (p:=⟨w.heap.size,0,none⟩) NLN (.int .i64 4)).setCell (p:=⟨w.heap.size,1,none⟩) NLN (.int .i64 0)).setCell (p:=⟨w.heap.size,2,none⟩) NLN (.string ⟨#[]⟩)).setCell (p:=⟨w.heap.size,3,none⟩) NLN (.slice x b.length d)).setCell (p:=⟨w.heap.size,4,none⟩) NLN (.slice none 0 0));have F:=Ab ((Gc (Gc (Gc (Gc (Gc (Ch (base':=w.heap.size) l (by simp;omega)) ⟨w.heap.size,0,none⟩ (.int .i64 4) f) ⟨w.heap.size,1,none⟩ (.int .i64 0) f) ⟨w.heap.size,2,none⟩ (.string ⟨#[]⟩) f) ⟨w.heap.size,3,none⟩ (.slice x b.length d) f) ⟨w.heap.size,4,none⟩ (.slice none 0 0) f));clear s g k u m t l f;dsimp only;go_wp2_with fail
 refine bodyPost_ret (v:= .agg #[.int .i64 4,.int .i64 0,.string ⟨#[]⟩,.slice x b.length d,.slice none 0 0]) (by simp[results,Tryz.results89,go_sem,y,z,A,B,C]) rfl ?_
 exact ⟨⟨x,d,rfl,Aa F⟩,Aa E⟩
theorem Ix {w:World}{lo n c:Nat}{a:Option Addr}{L:List Int}(h:w.ownsRow lo 3 1 (.slice a n c) n (AN L))(hl:L.length=n)(b:n≤1048576):Jj w a n c L:=by
 refine ⟨hl,b,fun j d=>?_⟩;obtain ⟨x,f,e,hx⟩:=Ah h;cases e;obtain ⟨g,rfl,i,hc⟩:=hx (by omega);refine ⟨g,0,rfl,(h.lt g rfl).2, ?_⟩;rw[Nat.zero_add];exact hc j _ (by rw[AN,List.getElem?_map,List.getElem?_eq_getElem d];rfl)
set_option linter.unusedSimpArgs false
structure SI (w:World) (a:Option Addr) (n c:Nat) (L:List Int):Prop where
 len:L.length=n
 cap:n≤c
 small:c≤maxLen
 cells:∀ j,(h:j < L.length)→∃ b off,a=some ⟨b,off,none⟩∧b < w.heap.size∧w.cell? ⟨b,off+j,none⟩=some (.int .i64 L[j])
def SJ (w:World) (b o:Nat) (x:Nd):Prop:=∃ an nn cn ak nk ck,w.cell? ⟨b,o,none⟩=some (.int .i64 x.op)∧w.cell? ⟨b,o+1,none⟩=some (.int .i64 x.num)∧w.cell? ⟨b,o+2,none⟩=some (.string x.text)∧w.cell? ⟨b,o+3,none⟩=some (.slice an nn cn)∧w.cell? ⟨b,o+4,none⟩=some (.slice ak nk ck)∧Bg w an nn cn x.names∧SI w ak nk ck x.kids
structure Yh (w:World) (a:Option Addr) (n c:Nat) (L:List Nd):Prop where
 len:L.length=n
 cap:n≤c
 small:c≤maxLen
 sizes:∀ x∈L,x.text.size≤maxLen
 cells:∀ j,(h:j < L.length)→∃ b off,a=some ⟨b,off,none⟩∧b < w.heap.size∧SJ w b (off+j * 5) L[j]
structure Yi (w:World) (a:Option Addr) (n c:Nat) (L:List St):Prop where
 len:L.length=n
 cap:n≤c
 small:c≤maxLen
 sizes:∀ s∈L,s.name.size≤maxLen
 cells:∀ j,(h:j < L.length)→∃ b off,a=some ⟨b,off,none⟩∧b < w.heap.size∧w.cell? ⟨b,off+j * 4,none⟩=some (.int .i64 L[j].kind)∧w.cell? ⟨b,off+j * 4+1,none⟩=some (.string L[j].name)∧w.cell? ⟨b,off+j * 4+2,none⟩=some (.int .i64 L[j].cond)∧w.cell? ⟨b,off+j * 4+3,none⟩=some (.int .i64 L[j].grant)
theorem SI.below {w w':World}{B:Nat}{a:Option Addr}{n c:Nat}{L:List Int}(h:SI w a n c L)(d:Below B w w')(l:w.heap.size≤B):SI w' a n c L:=
 ⟨h.len,h.cap,h.small,fun j g=>by
  obtain ⟨b,f,i,hl,k⟩:=h.cells j g;exact ⟨b,f,i,Nat.lt_of_lt_of_le hl d.size,(d.cell (p:=⟨b,f+j,none⟩) (by show b < B;omega)).trans k⟩⟩
theorem SJ.below {w w':World}{B b a:Nat}{x:Nd}(h:SJ w b a x)(hl:b < w.heap.size)(c:Below B w w')(f:w.heap.size≤B):SJ w' b a x:=by
 obtain ⟨an,nn,g,i,j,k,l,c1,c2,c3,c4,m,n⟩:=h;have d:b < B:=by omega
 exact ⟨an,nn,g,i,j,k,(c.cell (p:=⟨b,a,none⟩) d).trans l,(c.cell (p:=⟨b,a+1,none⟩) d).trans c1,(c.cell (p:=⟨b,a+2,none⟩) d).trans c2,(c.cell (p:=⟨b,a+3,none⟩) d).trans c3,(c.cell (p:=⟨b,a+4,none⟩) d).trans c4,m.below c f,n.below c f⟩
theorem Yh.below {w w':World}{B:Nat}{a:Option Addr}{n c:Nat}{L:List Nd}(h:Yh w a n c L)(d:Below B w w')(f:w.heap.size≤B):Yh w' a n c L:=
 ⟨h.len,h.cap,h.small,h.sizes,fun j g=>by
  obtain ⟨b,i,k,hl,hc⟩:=h.cells j g;exact ⟨b,i,k,Nat.lt_of_lt_of_le hl d.size,hc.below hl d f⟩⟩
theorem Yi.below {w w':World}{B:Nat}{a:Option Addr}{n c:Nat}{L:List St}(h:Yi w a n c L)(d:Below B w w')(m:w.heap.size≤B):Yi w' a n c L:=
 ⟨h.len,h.cap,h.small,h.sizes,fun j i=>by
  obtain ⟨b,f,k,hl,l,c1,c2,c3⟩:=h.cells j i;have g:b < B:=by omega
  exact ⟨b,f,k,Nat.lt_of_lt_of_le hl d.size,(d.cell (p:=⟨b,f+j * 4,none⟩) g).trans l,(d.cell (p:=⟨b,f+j * 4+1,none⟩) g).trans c1,(d.cell (p:=⟨b,f+j * 4+2,none⟩) g).trans c2,(d.cell (p:=⟨b,f+j * 4+3,none⟩) g).trans c3⟩⟩
def Xt (x:Nd):Prop:=x.text.size≤1048576∧x.names.length≤1048576∧Zl x.names≤1048576∧x.kids.length≤1048576
end Go.Proofs.YtdldimphcpojoaaGreatDoor
namespace Go.Proofs.YtdldimphcpojoaaGreatDoor
set_option maxRecDepth 100000
set_option maxHeartbeats 1600000
open Go.RowKit
set_option linter.unusedVariables false
variable {aY : Addr} {pb g c : Nat} {T : List Af} {tl : Nat}
theorem An.touchP {w w':World}{b lo hi:Nat}{cs:Array Value}{t:TypeId}(h:An w b cs t)(T:Ai lo hi w w')(a:b < lo∨hi≤b):An w' b cs t:=⟨(T.block b h.lt a).trans h.out⟩
def PR.two (i:Nat) (op:Int) (p:Pt):PR→PR
 | .ok f q=> .ok (.bin i op p f) q
 | .bad q=> .bad q
theorem Ky (M: 17≤pb)(lv:Nat)(op:Int)(f:ByteArray)(a:Ex)(s:Pt)(t:Af)(r:List Af)(x:PR)(w:World)(k:Nat)(h:Pp w pb g c T tl (t ::r) k)(u:Gy w aY)(h0:Er a s)(y:a.own (pb+1) w)(z:CS aY pb g c T tl (.opd lv) r x):
  Calls Tryz.prog 135 #[.pointer (some ⟨pb,0,none⟩),.agg #[.int .i64 op,.int .i64 (lv:Int),.string f],a.val] w (EQ aY pb g c T tl (x.two t.at_ op s) w):=by
 have N:Hid (∀ w' i,Pp w' pb g c T tl r i→Gy w' aY→Calls Tryz.prog 133 #[.pointer (some ⟨pb,0,none⟩),.int .i64 (lv:Int)] w' (EQ aY pb g c T tl x w')):=Ab (fun w' i O=>z w' i O);have ab:=Cz (.int .i64 t.kind) (.int .i64 t.num) (.string t.text) (.int .i64 (t.at_:Int));obtain ⟨ac,ad,j⟩:=a.form;rw[j];have l:=(Below.refl w.heap.size w).alloc NLN (.cells #[.int .i64 op,.int .i64 (lv:Int),.string f] 220);have P:=An.new w #[.int .i64 op,.int .i64 (lv:Int),.string f] 220;have Q:=Ab (BD (h.below l));have R:=Ab (u.below l);have S:=Ab j;have A:=Ab (And.intro h0 y);have nz:=h.row.lt;clear h u z h0 y j;go_enter Tryz.func135,Tryz.ntmps135
 go_wp2_with fail
 generalize U:w.alloc (.cells #[.int .i64 op,.int .i64 (lv:Int),.string f] 220)=ae at *;clear U;refine (Aa Q).mono ?_;rintro e V ⟨rfl,B,m⟩;have C:=P.touchP m (.inr nz);have n:=(Ai.of_below (lo:=pb) (hi:=pb+1) l NLN).trans m;obtain ⟨E,F,H,I⟩:=Qq C;dsimp only[Cw];go_wp2_with fail
 refine (Aa N V _ B ((Aa R).touch m M)).mono ?_;intro af ag J;clear B E F H I;cases x with
 | bad q=>
  obtain ⟨⟨v,b,rfl,W,X⟩,d⟩:=J;rcases W with rfl | ⟨ah,ai,rfl⟩
  all_goals
   dsimp only[BS];go_wp2_with fail
   go_ret2
   exact ⟨⟨.nilIface,b,rfl,.inl rfl,X⟩,n.trans d⟩
 | ok p q=>
  obtain ⟨⟨e,Y,rfl,he,K,Z⟩,d⟩:=J;obtain ⟨aj,ak,o⟩:=e.form;have L:=Ab (And.intro he K);rw[o];have aa:=Ab o;clear he K o;obtain ⟨E,F,H,I⟩:=Qq (C.touchP d (.inr nz));dsimp only;go_wp2_with fail
  go_ret2
  exact ⟨⟨.bin t.at_ op a e,Y,by rw[Ex.val,Aa aa,Aa S];rfl,⟨rfl,rfl,(Aa A).1,(Aa L).1⟩,⟨a.own_touch (n.trans d) (Aa A).2,(Aa L).2⟩,Z⟩,n.trans d⟩
end Go.Proofs.YtdldimphcpojoaaGreatDoor
