/-
  JU, NUA, NUB, NUD, NUC, NUH. Own work.
-/
import Derived.Test.YtffkofkjpckmpaaGreatDoorMXAG
import Derived.Test.YtffkofkjpckmpaaGreatDoorMXAP
import Derived.Test.YtffkofkjpckmpaaGreatDoorMXAB
import Derived.Deep.AppendLies
import Derived.Deep.RegionLaw
import Derived.Test.YtffkofkjpckmpaaGreatDoorMXAA
namespace Go.Proofs.YtffkofkjpckmpaaGreatDoor
set_option maxRecDepth 100000
open Go.RowKit
set_option linter.unusedVariables false
theorem RK (i n:Int):∀ w,(method 429 175 (.agg #[.int .i64 i,.int .i64 n]) "loop.example/s01308/impl.kids").run Tryz.prog w= .ok (243,.int .i64 i) w:=fun _=>by kernel_rfl
theorem WX (i n:Int):∀ w,(method 429 175 (.agg #[.int .i64 i,.int .i64 n]) "loop.example/s01308/impl.place").run Tryz.prog w= .ok (244,.int .i64 i) w:=fun _=>by kernel_rfl
theorem OX (i:Int)(s:ByteArray):∀ w,(method 429 178 (.agg #[.int .i64 i,.string s]) "loop.example/s01308/impl.kids").run Tryz.prog w= .ok (243,.int .i64 i) w:=fun _=>by kernel_rfl
theorem Uy (i:Int)(s:ByteArray):∀ w,(method 429 178 (.agg #[.int .i64 i,.string s]) "loop.example/s01308/impl.place").run Tryz.prog w= .ok (244,.int .i64 i) w:=fun _=>by kernel_rfl
theorem OY (i:Int)(b:Bool):∀ w,(method 429 180 (.agg #[.int .i64 i,.bool b]) "loop.example/s01308/impl.kids").run Tryz.prog w= .ok (243,.int .i64 i) w:=fun _=>by kernel_rfl
theorem Uz (i:Int)(b:Bool):∀ w,(method 429 180 (.agg #[.int .i64 i,.bool b]) "loop.example/s01308/impl.place").run Tryz.prog w= .ok (244,.int .i64 i) w:=fun _=>by kernel_rfl
theorem RL (i:Int)(a:Option Addr)(n c:Nat):∀ w,(method 429 183 (.agg #[.int .i64 i,.slice a n c]) "loop.example/s01308/impl.kids").run Tryz.prog w= .ok (243,.int .i64 i) w:=fun _=>by kernel_rfl
theorem WY (i:Int)(a:Option Addr)(n c:Nat):∀ w,(method 429 183 (.agg #[.int .i64 i,.slice a n c]) "loop.example/s01308/impl.place").run Tryz.prog w= .ok (244,.int .i64 i) w:=fun _=>by kernel_rfl
theorem OZ (i:Int)(s:ByteArray):∀ w,(method 429 186 (.agg #[.int .i64 i,.string s]) "loop.example/s01308/impl.kids").run Tryz.prog w= .ok (243,.int .i64 i) w:=fun _=>by kernel_rfl
theorem UA (i:Int)(s:ByteArray):∀ w,(method 429 186 (.agg #[.int .i64 i,.string s]) "loop.example/s01308/impl.place").run Tryz.prog w= .ok (244,.int .i64 i) w:=fun _=>by kernel_rfl
theorem O0 (i n:Int):∀ w,(method 429 224 (.agg #[.int .i64 i,.int .i64 n]) "loop.example/s01308/impl.kids").run Tryz.prog w= .ok (243,.int .i64 i) w:=fun _=>by kernel_rfl
theorem UB (i n:Int):∀ w,(method 429 224 (.agg #[.int .i64 i,.int .i64 n]) "loop.example/s01308/impl.place").run Tryz.prog w= .ok (244,.int .i64 i) w:=fun _=>by kernel_rfl
theorem Pa (i n:Int):∀ w,(method 429 225 (.agg #[.int .i64 i,.int .i64 n]) "loop.example/s01308/impl.kids").run Tryz.prog w= .ok (243,.int .i64 i) w:=fun _=>by kernel_rfl
theorem UC (i n:Int):∀ w,(method 429 225 (.agg #[.int .i64 i,.int .i64 n]) "loop.example/s01308/impl.place").run Tryz.prog w= .ok (244,.int .i64 i) w:=fun _=>by kernel_rfl
theorem VF (i op:Int)(t:TypeId)(u:Value):∀ w,(method 429 188 (.agg #[.int .i64 i,.int .i64 op,.iface t u]) "loop.example/s01308/impl.kids").run Tryz.prog w= .ok (245,.agg #[.int .i64 i,.int .i64 op,.iface t u]) w:=fun _=>by kernel_rfl
theorem Y0 (i op:Int)(t:TypeId)(u:Value):∀ w,(method 429 188 (.agg #[.int .i64 i,.int .i64 op,.iface t u]) "loop.example/s01308/impl.place").run Tryz.prog w= .ok (246,.agg #[.int .i64 i,.int .i64 op,.iface t u]) w:=fun _=>by kernel_rfl
theorem RM (i op:Int)(t:TypeId)(u:Value)(a:TypeId)(b:Value):∀ w,(method 429 191 (.agg #[.int .i64 i,.int .i64 op,.iface t u,.iface a b]) "loop.example/s01308/impl.kids").run Tryz.prog w= .ok (247,.agg #[.int .i64 i,.int .i64 op,.iface t u,.iface a b]) w:=fun _=>by kernel_rfl
theorem WZ (i op:Int)(t:TypeId)(u:Value)(a:TypeId)(b:Value):∀ w,(method 429 191 (.agg #[.int .i64 i,.int .i64 op,.iface t u,.iface a b]) "loop.example/s01308/impl.place").run Tryz.prog w= .ok (248,.agg #[.int .i64 i,.int .i64 op,.iface t u,.iface a b]) w:=fun _=>by kernel_rfl
theorem RR (i:Int)(t:TypeId)(u:Value)(a:TypeId)(b:Value)(c:TypeId)(d:Value):∀ w,(method 429 194 (.agg #[.int .i64 i,.iface t u,.iface a b,.iface c d]) "loop.example/s01308/impl.kids").run Tryz.prog w= .ok (249,.agg #[.int .i64 i,.iface t u,.iface a b,.iface c d]) w:=fun _=>by kernel_rfl
theorem W6 (i:Int)(t:TypeId)(u:Value)(a:TypeId)(b:Value)(c:TypeId)(d:Value):∀ w,(method 429 194 (.agg #[.int .i64 i,.iface t u,.iface a b,.iface c d]) "loop.example/s01308/impl.place").run Tryz.prog w= .ok (250,.agg #[.int .i64 i,.iface t u,.iface a b,.iface c d]) w:=fun _=>by kernel_rfl
theorem DI (i:Int)(w:World):Calls Tryz.prog 243 #[.int .i64 i] w fun r w'=>r= .returned (.slice none 0 0)∧w'=w:=by
 go_enter Tryz.func243,Tryz.ntmps243
 go_wp2
 go_ret
 exact ⟨rfl,rfl⟩
theorem UD (i:Int)(w:World):Calls Tryz.prog 244 #[.int .i64 i] w fun r w'=>r= .returned (.int .i64 i)∧w'=w:=by
 go_enter Tryz.func244,Tryz.ntmps244
 go_wp2
 go_ret
 exact ⟨rfl,rfl⟩
def Aca (w:World) (vs:List Value) (n:Nat) (r:Ending) (w':World):Prop:=∃ g,r= .returned (.slice (some ⟨g,0,none⟩) n n)∧w.heap.size≤g∧Am w' g vs.toArray 67∧Below w.heap.size w w'
theorem MH (i op:Int)(t:TypeId)(u:Value)(w:World):Calls Tryz.prog 245 #[.agg #[.int .i64 i,.int .i64 op,.iface t u]] w (Aca w [.iface t u] 1):=by
 have a:=(Below.refl w.heap.size w).alloc NLN (.cells #[.int .i64 i,.int .i64 op,.iface t u] 188);have b:=Am.new (w.alloc (.cells #[.int .i64 i,.int .i64 op,.iface t u] 188)) #[.iface t u] 67;simp only[World.size_alloc] at b;go_enter Tryz.func245,Tryz.ntmps245
 go_wp2
 go_ret
 exact ⟨w.heap.size+1,rfl,z5 _,b,a.alloc a.size _⟩
theorem Sd (i op:Int)(t:TypeId)(u:Value)(w:World):Calls Tryz.prog 246 #[.agg #[.int .i64 i,.int .i64 op,.iface t u]] w fun r w'=>r= .returned (.int .i64 i)∧Below w.heap.size w w':=by
 have a:=(Below.refl w.heap.size w).alloc NLN (.cells #[.int .i64 i,.int .i64 op,.iface t u] 188);go_enter Tryz.func246,Tryz.ntmps246
 go_wp2
 go_ret
 exact ⟨rfl,a⟩
theorem Lq (i op:Int)(t:TypeId)(u:Value)(a:TypeId)(b:Value)(w:World):Calls Tryz.prog 247 #[.agg #[.int .i64 i,.int .i64 op,.iface t u,.iface a b]] w (Aca w [.iface t u,.iface a b] 2):=by
 have c:=(Below.refl w.heap.size w).alloc NLN (.cells #[.int .i64 i,.int .i64 op,.iface t u,.iface a b] 191);have d:=Am.new (w.alloc (.cells #[.int .i64 i,.int .i64 op,.iface t u,.iface a b] 191)) #[.iface t u,.iface a b] 67;simp only[World.size_alloc] at d;go_enter Tryz.func247,Tryz.ntmps247
 go_wp2
 go_ret
 exact ⟨w.heap.size+1,rfl,z5 _,d,c.alloc c.size _⟩
theorem Qq (i op:Int)(t:TypeId)(u:Value)(a:TypeId)(b:Value)(w:World):Calls Tryz.prog 248 #[.agg #[.int .i64 i,.int .i64 op,.iface t u,.iface a b]] w fun r w'=>r= .returned (.int .i64 i)∧Below w.heap.size w w':=by
 have c:=(Below.refl w.heap.size w).alloc NLN (.cells #[.int .i64 i,.int .i64 op,.iface t u,.iface a b] 191);go_enter Tryz.func248,Tryz.ntmps248
 go_wp2
 go_ret
 exact ⟨rfl,c⟩
theorem Lr (i:Int)(t:TypeId)(u:Value)(a:TypeId)(b:Value)(c:TypeId)(d:Value)(w:World):Calls Tryz.prog 249 #[.agg #[.int .i64 i,.iface t u,.iface a b,.iface c d]] w (Aca w [.iface t u,.iface a b,.iface c d] 3):=by
 have f:=(Below.refl w.heap.size w).alloc NLN (.cells #[.int .i64 i,.iface t u,.iface a b,.iface c d] 194);have g:=Am.new (w.alloc (.cells #[.int .i64 i,.iface t u,.iface a b,.iface c d] 194)) #[.iface t u,.iface a b,.iface c d] 67;simp only[World.size_alloc] at g;go_enter Tryz.func249,Tryz.ntmps249
 go_wp2
 go_ret
 exact ⟨w.heap.size+1,rfl,z5 _,g,f.alloc f.size _⟩
theorem Qr (i:Int)(t:TypeId)(u:Value)(a:TypeId)(b:Value)(c:TypeId)(d:Value)(w:World):Calls Tryz.prog 250 #[.agg #[.int .i64 i,.iface t u,.iface a b,.iface c d]] w fun r w'=>r= .returned (.int .i64 i)∧Below w.heap.size w w':=by
 have f:=(Below.refl w.heap.size w).alloc NLN (.cells #[.int .i64 i,.iface t u,.iface a b,.iface c d] 194);go_enter Tryz.func250,Tryz.ntmps250
 go_wp2
 go_ret
 exact ⟨rfl,f⟩
set_option maxHeartbeats 1600000
def TD:Ex→Nd
 | .int _ n=>⟨1,n,⟨#[]⟩, [], []⟩
 | .text _ s=>⟨2,0,s, [], []⟩
 | .bool _ b=>⟨3,if b then 1 else 0,⟨#[]⟩, [], []⟩
 | .set _ _ _ _ ss=>⟨4,0,⟨#[]⟩,ss, []⟩
 | .name _ s=>⟨5,0,s, [], []⟩
 | .attr _ n=>⟨6,n,⟨#[]⟩, [], []⟩
 | .lett _ n=>⟨7,n,⟨#[]⟩, [], []⟩
 | .un _ op _=>⟨op,0,⟨#[]⟩, [], []⟩
 | .bin _ op _ _=>⟨op,0,⟨#[]⟩, [], []⟩
 | .ite .. =>⟨27,0,⟨#[]⟩, [], []⟩
def Sm (x:Nd) (w:World) (r:Ending) (w':World):Prop:=(∃ u cu,r= .returned (.agg #[.int .i64 x.op,.int .i64 x.num,.string x.text,.slice u x.names.length cu,.slice none 0 0])∧w'.ownsRow w.heap.size 9 1 (.slice u x.names.length cu) x.names.length (x.names.map Value.string))∧Below w.heap.size w w'
theorem Lu {w:World}{b:Nat}{a c d f g:Value}{t:TypeId}(R:Am w b #[a,c,d,f,g] t):w.cell? ⟨b,0,none⟩=some a∧w.cell? ⟨b,1,none⟩=some c∧w.cell? ⟨b,2,none⟩=some d∧w.cell? ⟨b,3,none⟩=some f∧w.cell? ⟨b,4,none⟩=some g:=⟨R.cell 0,R.cell 1,R.cell 2,R.cell 3,R.cell 4⟩
theorem Y9 (i n:Int)(w:World):Calls Tryz.prog 128 #[.iface 175 (.agg #[.int .i64 i,.int .i64 n])] w (Sm (TD (.int i n)) w):=by
 have a:=Cs (T:=175) Tryz.underlying175 67;go_enter Tryz.func128,Tryz.ntmps128
 go_wp2_with fail
 refine bodyPost_ret (v:= .agg #[.int .i64 1,.int .i64 n,.string ⟨#[]⟩,.slice none 0 0,.slice none 0 0]) (by simp[results,Tryz.results128,go_sem]) rfl ⟨⟨none,0,rfl,World.ownsRow_nil _ _ _ _⟩, ?_⟩
 exact ((Below.refl w.heap.size w).alloc NLN _).alloc (by simp) _
theorem Xf (i:Int)(s:ByteArray)(w:World):Calls Tryz.prog 128 #[.iface 178 (.agg #[.int .i64 i,.string s])] w (Sm (TD (.text i s)) w):=by
 have a:=Ai (S:=178) (T:=175) Tryz.underlying175 Tryz.zeroValue175 (by decide) 67;have b:=Cs (T:=178) Tryz.underlying178 67;go_enter Tryz.func128,Tryz.ntmps128
 go_wp2_with fail
 refine bodyPost_ret (v:= .agg #[.int .i64 2,.int .i64 0,.string s,.slice none 0 0,.slice none 0 0]) (by simp[results,Tryz.results128,go_sem]) rfl ⟨⟨none,0,rfl,World.ownsRow_nil _ _ _ _⟩, ?_⟩
 exact ((Below.refl w.heap.size w).alloc NLN _).alloc (by simp) _
theorem Xg (i:Int)(s:ByteArray)(w:World):Calls Tryz.prog 128 #[.iface 186 (.agg #[.int .i64 i,.string s])] w (Sm (TD (.name i s)) w):=by
 have a:=Ai (S:=186) (T:=175) Tryz.underlying175 Tryz.zeroValue175 (by decide) 67;have a1:=Ai (S:=186) (T:=178) Tryz.underlying178 Tryz.zeroValue178 (by decide) 67;have a2:=Ai (S:=186) (T:=180) Tryz.underlying180 Tryz.zeroValue180 (by decide) 67;have a3:=Ai (S:=186) (T:=183) Tryz.underlying183 Tryz.zeroValue183 (by decide) 67;have b:=Cs (T:=186) Tryz.underlying186 67;go_enter Tryz.func128,Tryz.ntmps128
 go_wp2_with fail
 refine bodyPost_ret (v:= .agg #[.int .i64 5,.int .i64 0,.string s,.slice none 0 0,.slice none 0 0]) (by simp[results,Tryz.results128,go_sem]) rfl ⟨⟨none,0,rfl,World.ownsRow_nil _ _ _ _⟩, ?_⟩
 exact ((Below.refl w.heap.size w).alloc NLN _).alloc (by simp) _
theorem Xh (i n:Int)(w:World):Calls Tryz.prog 128 #[.iface 224 (.agg #[.int .i64 i,.int .i64 n])] w (Sm (TD (.attr i n)) w):=by
 have a:=Ai (S:=224) (T:=175) Tryz.underlying175 Tryz.zeroValue175 (by decide) 67;have a1:=Ai (S:=224) (T:=178) Tryz.underlying178 Tryz.zeroValue178 (by decide) 67;have a2:=Ai (S:=224) (T:=180) Tryz.underlying180 Tryz.zeroValue180 (by decide) 67;have a3:=Ai (S:=224) (T:=183) Tryz.underlying183 Tryz.zeroValue183 (by decide) 67;have a4:=Ai (S:=224) (T:=186) Tryz.underlying186 Tryz.zeroValue186 (by decide) 67;have b:=Cs (T:=224) Tryz.underlying224 67;go_enter Tryz.func128,Tryz.ntmps128
 go_wp2_with fail
 refine bodyPost_ret (v:= .agg #[.int .i64 6,.int .i64 n,.string ⟨#[]⟩,.slice none 0 0,.slice none 0 0]) (by simp[results,Tryz.results128,go_sem]) rfl ⟨⟨none,0,rfl,World.ownsRow_nil _ _ _ _⟩, ?_⟩
 exact ((Below.refl w.heap.size w).alloc NLN _).alloc (by simp) _
theorem Xi (i n:Int)(w:World):Calls Tryz.prog 128 #[.iface 225 (.agg #[.int .i64 i,.int .i64 n])] w (Sm (TD (.lett i n)) w):=by
 have a:=Ai (S:=225) (T:=175) Tryz.underlying175 Tryz.zeroValue175 (by decide) 67;have a1:=Ai (S:=225) (T:=178) Tryz.underlying178 Tryz.zeroValue178 (by decide) 67;have a2:=Ai (S:=225) (T:=180) Tryz.underlying180 Tryz.zeroValue180 (by decide) 67;have a3:=Ai (S:=225) (T:=183) Tryz.underlying183 Tryz.zeroValue183 (by decide) 67;have a4:=Ai (S:=225) (T:=186) Tryz.underlying186 Tryz.zeroValue186 (by decide) 67;have a5:=Ai (S:=225) (T:=224) Tryz.underlying224 Tryz.zeroValue224 (by decide) 67;have b:=Cs (T:=225) Tryz.underlying225 67;go_enter Tryz.func128,Tryz.ntmps128
 go_wp2_with fail
 refine bodyPost_ret (v:= .agg #[.int .i64 7,.int .i64 n,.string ⟨#[]⟩,.slice none 0 0,.slice none 0 0]) (by simp[results,Tryz.results128,go_sem]) rfl ⟨⟨none,0,rfl,World.ownsRow_nil _ _ _ _⟩, ?_⟩
 exact ((Below.refl w.heap.size w).alloc NLN _).alloc (by simp) _
theorem Xj (i:Int)(b:Bool)(w:World):Calls Tryz.prog 128 #[.iface 180 (.agg #[.int .i64 i,.bool b])] w (Sm (TD (.bool i b)) w):=by
 have a:=Ai (S:=180) (T:=175) Tryz.underlying175 Tryz.zeroValue175 (by decide) 67;have a1:=Ai (S:=180) (T:=178) Tryz.underlying178 Tryz.zeroValue178 (by decide) 67;have c:=Cs (T:=180) Tryz.underlying180 67;cases b
 ·go_enter Tryz.func128,Tryz.ntmps128
  go_wp2_with fail
  refine bodyPost_ret (v:= .agg #[.int .i64 3,.int .i64 0,.string ⟨#[]⟩,.slice none 0 0,.slice none 0 0]) (by simp[results,Tryz.results128,go_sem]) rfl ⟨⟨none,0,rfl,World.ownsRow_nil _ _ _ _⟩, ?_⟩
  exact ((Below.refl w.heap.size w).alloc NLN _).alloc (by simp) _
 ·go_enter Tryz.func128,Tryz.ntmps128
  go_wp2_with fail
  refine bodyPost_ret (v:= .agg #[.int .i64 3,.int .i64 1,.string ⟨#[]⟩,.slice none 0 0,.slice none 0 0]) (by simp[results,Tryz.results128,go_sem]) rfl ⟨⟨none,0,rfl,World.ownsRow_nil _ _ _ _⟩, ?_⟩
  exact ((Below.refl w.heap.size w).alloc NLN _).alloc (by simp) _
theorem AaK (i op:Int)(a:TypeId)(b:Value)(k:Ex)(w:World):Calls Tryz.prog 128 #[.iface 188 (.agg #[.int .i64 i,.int .i64 op,.iface a b])] w (Sm (TD (.un i op k)) w):=by
 have c:=Ai (S:=188) (T:=175) Tryz.underlying175 Tryz.zeroValue175 (by decide) 67;have a1:=Ai (S:=188) (T:=178) Tryz.underlying178 Tryz.zeroValue178 (by decide) 67;have a2:=Ai (S:=188) (T:=180) Tryz.underlying180 Tryz.zeroValue180 (by decide) 67;have a3:=Ai (S:=188) (T:=183) Tryz.underlying183 Tryz.zeroValue183 (by decide) 67;have a4:=Ai (S:=188) (T:=186) Tryz.underlying186 Tryz.zeroValue186 (by decide) 67;have a5:=Ai (S:=188) (T:=224) Tryz.underlying224 Tryz.zeroValue224 (by decide) 67;have a6:=Ai (S:=188) (T:=225) Tryz.underlying225 Tryz.zeroValue225 (by decide) 67;have d:=Cs (T:=188) Tryz.underlying188 67;go_enter Tryz.func128,Tryz.ntmps128
 go_wp2_with fail
 refine bodyPost_ret (v:= .agg #[.int .i64 op,.int .i64 0,.string ⟨#[]⟩,.slice none 0 0,.slice none 0 0]) (by simp[results,Tryz.results128,go_sem]) rfl ⟨⟨none,0,rfl,World.ownsRow_nil _ _ _ _⟩, ?_⟩
 exact ((Below.refl w.heap.size w).alloc NLN _).alloc (by simp) _
theorem Za (i op:Int)(a:TypeId)(b:Value)(c:TypeId)(d:Value)(k l:Ex)(w:World):Calls Tryz.prog 128 #[.iface 191 (.agg #[.int .i64 i,.int .i64 op,.iface a b,.iface c d])] w (Sm (TD (.bin i op k l)) w):=by
 have f:=Ai (S:=191) (T:=175) Tryz.underlying175 Tryz.zeroValue175 (by decide) 67;have a1:=Ai (S:=191) (T:=178) Tryz.underlying178 Tryz.zeroValue178 (by decide) 67;have a2:=Ai (S:=191) (T:=180) Tryz.underlying180 Tryz.zeroValue180 (by decide) 67;have a3:=Ai (S:=191) (T:=183) Tryz.underlying183 Tryz.zeroValue183 (by decide) 67;have a4:=Ai (S:=191) (T:=186) Tryz.underlying186 Tryz.zeroValue186 (by decide) 67;have a5:=Ai (S:=191) (T:=224) Tryz.underlying224 Tryz.zeroValue224 (by decide) 67;have a6:=Ai (S:=191) (T:=225) Tryz.underlying225 Tryz.zeroValue225 (by decide) 67;have g:=Ai (S:=191) (T:=188) Tryz.underlying188 Tryz.zeroValue188 (by decide) 67;have h:=Cs (T:=191) Tryz.underlying191 67;go_enter Tryz.func128,Tryz.ntmps128
 go_wp2_with fail
 refine bodyPost_ret (v:= .agg #[.int .i64 op,.int .i64 0,.string ⟨#[]⟩,.slice none 0 0,.slice none 0 0]) (by simp[results,Tryz.results128,go_sem]) rfl ⟨⟨none,0,rfl,World.ownsRow_nil _ _ _ _⟩, ?_⟩
 exact ((Below.refl w.heap.size w).alloc NLN _).alloc (by simp) _
theorem Zb (i:Int)(a:TypeId)(b:Value)(c:TypeId)(d:Value)(f:TypeId)(g:Value)(k l m:Ex)(w:World):Calls Tryz.prog 128 #[.iface 194 (.agg #[.int .i64 i,.iface a b,.iface c d,.iface f g])] w (Sm (TD (.ite i k l m)) w):=by
 have h:=Ai (S:=194) (T:=175) Tryz.underlying175 Tryz.zeroValue175 (by decide) 67;have a1:=Ai (S:=194) (T:=178) Tryz.underlying178 Tryz.zeroValue178 (by decide) 67;have a2:=Ai (S:=194) (T:=180) Tryz.underlying180 Tryz.zeroValue180 (by decide) 67;have a3:=Ai (S:=194) (T:=183) Tryz.underlying183 Tryz.zeroValue183 (by decide) 67;have a4:=Ai (S:=194) (T:=186) Tryz.underlying186 Tryz.zeroValue186 (by decide) 67;have a5:=Ai (S:=194) (T:=224) Tryz.underlying224 Tryz.zeroValue224 (by decide) 67;have a6:=Ai (S:=194) (T:=225) Tryz.underlying225 Tryz.zeroValue225 (by decide) 67;have j:=Ai (S:=194) (T:=188) Tryz.underlying188 Tryz.zeroValue188 (by decide) 67;have n:=Ai (S:=194) (T:=191) Tryz.underlying191 Tryz.zeroValue191 (by decide) 67;have o:=Cs (T:=194) Tryz.underlying194 67;go_enter Tryz.func128,Tryz.ntmps128
 go_wp2_with fail
 refine bodyPost_ret (v:= .agg #[.int .i64 27,.int .i64 0,.string ⟨#[]⟩,.slice none 0 0,.slice none 0 0]) (by simp[results,Tryz.results128,go_sem]) rfl ⟨⟨none,0,rfl,World.ownsRow_nil _ _ _ _⟩, ?_⟩
 exact ((Below.refl w.heap.size w).alloc NLN _).alloc (by simp) _
theorem Zc (i:Int)(a:Option Addr)(n c:Nat)(b:List ByteArray)(w:World)(o:BL w a n c b)(hl:b.length≤1048576):Calls Tryz.prog 128 #[.iface 183 (.agg #[.int .i64 i,.slice a n c])] w (Sm (TD (.set i a n c b)) w):=by
 have H:=Ai (S:=183) (T:=175) Tryz.underlying175 Tryz.zeroValue175 (by decide) 67;have a1:=Ai (S:=183) (T:=178) Tryz.underlying178 Tryz.zeroValue178 (by decide) 67;have a2:=Ai (S:=183) (T:=180) Tryz.underlying180 Tryz.zeroValue180 (by decide) 67;have I:=Cs (T:=183) Tryz.underlying183 67;have k:=((Below.refl w.heap.size w).alloc NLN (.cells #[.int .i64 0,.int .i64 0,.string ⟨#[]⟩,.slice none 0 0,.slice none 0 0] 124)).alloc (by simp) (.cells #[.int .i64 i,.slice a n c] 183);have s:=(Am.new w #[.int .i64 0,.int .i64 0,.string ⟨#[]⟩,.slice none 0 0,.slice none 0 0] 124).alloc (.cells #[.int .i64 i,.slice a n c] 183);have t:=Ab (TM a n c b _ (o.below k NLN) hl);clear o;go_enter Tryz.func128,Tryz.ntmps128
 go_wp2_with fail
 refine (Aa t).mono ?_;rintro r J ⟨⟨x,d,rfl,l⟩,m⟩;have g:=s.after m NLN;obtain ⟨K,L,M,N,O⟩:=Lu g;have P:=fun j=>g.frozen j;obtain ⟨y,z,A,B,C⟩:=Lu ((((((g).set 0 (.int .i64 4)).set 1 (.int .i64 0)).set 2 (.string ⟨#[]⟩)).set 3 (.slice x b.length d)).set 4 (.slice none 0 0));have u:=k.trans (m.mono (by simp;omega));have f:∀ q,(Value.slice x b.length d).ownBlock=some q→q≠w.heap.size:=fun q hq h=>by have:=(l.lt q hq).1;simp at this;omega
 have E:=Ab ((((((u).setCell (p:=⟨w.heap.size,0,none⟩) NLN (.int .i64 4)).setCell (p:=⟨w.heap.size,1,none⟩) NLN (.int .i64 0)).setCell (p:=⟨w.heap.size,2,none⟩) NLN (.string ⟨#[]⟩)).setCell (p:=⟨w.heap.size,3,none⟩) NLN (.slice x b.length d)).setCell (p:=⟨w.heap.size,4,none⟩) NLN (.slice none 0 0));have F:=Ab ((H8 (H8 (H8 (H8 (H8 (Cx (base':=w.heap.size) l (by simp;omega)) ⟨w.heap.size,0,none⟩ (.int .i64 4) f) ⟨w.heap.size,1,none⟩ (.int .i64 0) f) ⟨w.heap.size,2,none⟩ (.string ⟨#[]⟩) f) ⟨w.heap.size,3,none⟩ (.slice x b.length d) f) ⟨w.heap.size,4,none⟩ (.slice none 0 0) f));clear s g k u m t l f;dsimp only;go_wp2_with fail
 refine bodyPost_ret (v:= .agg #[.int .i64 4,.int .i64 0,.string ⟨#[]⟩,.slice x b.length d,.slice none 0 0]) (by simp[results,Tryz.results128,go_sem,y,z,A,B,C]) rfl ?_
 exact ⟨⟨x,d,rfl,Aa F⟩,Aa E⟩
theorem Cj.snoc {l m:World}{lo:Nat}{v s u k:Value}{N:List Nd}{a b:List Value}{x:Nd}(h:Cj l lo v N a b)
  (hu:l.ownsRow lo 9 1 u x.names.length (x.names.map Value.string))(hk:l.ownsRow lo 3 1 k x.kids.length (AF x.kids))(A:∀ j,(d:j < a.length)→∀ q,a[j].ownBlock=some q→u.ownBlock≠some q)(B:∀ j,(d:j < b.length)→∀ q,b[j].ownBlock=some q→k.ownBlock≠some q)
  (C:m.ownsRow lo 124 5 s (N.length+1) (JM N a b ++MI x u k))(t:l.grownBy m v.ownBlock):Cj m lo s (N ++ [x]) (a ++ [u]) (b ++ [k]):=by
 have hl:=h.len;have r:=h.lenk;have w:∀ {n:Nat} {y:Value} {o:List Value},l.ownsRow lo 9 1 y n o→m.ownsRow lo 9 1 y n o:=fun f=>Ac f (fun q hq=>t.block q (f.lt q hq).2 (fun e=>Ap f h.own (by decide) q hq e.symm));have z:∀ {n:Nat} {y:Value} {o:List Value},l.ownsRow lo 3 1 y n o→m.ownsRow lo 3 1 y n o:=fun f=>Ac f (fun q hq=>t.block q (f.lt q hq).2 (fun e=>Ap f h.own (by decide) q hq e.symm));refine ⟨by simp[hl],by simp[r],by rw[zB,z9,Sn _ _ _ _ _ _ hl r];exact C,fun j d p=>?_,fun j d p=>?_,fun i j g d q hq=>?_,fun i j g d q hq=>?_⟩
 ·by_cases c:j < a.length
  ·have a1:(a ++ [u])[j]=a[j]:=zu c;have a2:(N ++ [x])[j]=N[j]'(by omega):=zu (by omega);rw[a1,a2];exact w (h.names j (by omega) c)
  ·have e:j=a.length:=by simp at p;omega
   subst e;have a1:(a ++ [u])[a.length]'p=u:=by simp
   have a2:(N ++ [x])[a.length]'d=x:=by simp[hl]
   rw[a1,a2];exact w hu
 ·by_cases c:j < b.length
  ·have a1:(b ++ [k])[j]=b[j]:=zu c;have a2:(N ++ [x])[j]=N[j]'(by omega):=zu (by omega);rw[a1,a2];exact z (h.kids j (by omega) c)
  ·have e:j=b.length:=by simp at p;omega
   subst e;have a1:(b ++ [k])[b.length]'p=k:=by simp
   have a2:(N ++ [x])[b.length]'d=x:=by simp[r]
   rw[a1,a2];exact z hk
 ·by_cases c:j < a.length
  ·rw[zu c];rw[zu (by omega)] at hq;exact h.apart i j g c q hq
  ·have e:j=a.length:=by simp at d;omega
   subst e;rw[zu g] at hq;simp;exact A i g q hq
 ·by_cases c:j < b.length
  ·rw[zu c];rw[zu (by omega)] at hq;exact h.apartk i j g c q hq
  ·have e:j=b.length:=by simp at d;omega
   subst e;rw[zu g] at hq;simp;exact B i g q hq
structure LV (w:World) (B nb:Nat) (N:List Nd) (P:List Int) (nd pl:Value) (nv kv:List Value):Prop where
 row:Am w nb #[nd,pl] 154
 nodes:Cj w B nd N nv kv
 places:w.ownsRow B 3 1 pl P.length (AF P)
 apart:∀ q,pl.ownBlock=some q→∀ j,(hj:j < kv.length)→kv[j].ownBlock≠some q
 low:B≤nb
structure Nk (B nb:Nat) (nd pl:Value) (w:World) (nd' pl':Value) (w':World):Prop where
 low:Below B w w'
 block:∀ k,k < w.heap.size→k≠nb→nd.ownBlock≠some k→pl.ownBlock≠some k→w'.heap[k]? =w.heap[k]?
 newN:∀ q,nd'.ownBlock=some q→nd.ownBlock=some q∨w.heap.size≤q
 newP:∀ q,pl'.ownBlock=some q→pl.ownBlock=some q∨w.heap.size≤q
theorem Nk.refl (B b:Nat)(nd a:Value)(w:World):Nk B b nd a w nd a w:=⟨BRN,fun _ _ _ _ _=>rfl,fun q h=> .inl h,fun q h=> .inl h⟩
theorem Nk.trans {B a:Nat}{nd b c d f g:Value}{w i j:World}(h:Nk B a nd b w c d i)(k:Nk B a c d i f g j):Nk B a nd b w f g j:=by
 have l:=h.low.size;refine ⟨h.low.trans k.low,fun q h1 h2 h3 h4=>?_,fun q hq=>?_,fun q hq=>?_⟩
 ·refine (k.block q (zY h1 l) h2 (fun e=>?_) (fun e=>?_)).trans (h.block q h1 h2 h3 h4)
  ·rcases h.newN q e with e | e
   ·exact h3 e
   ·omega
  ·rcases h.newP q e with e | e
   ·exact h4 e
   ·omega
 ·rcases k.newN q hq with e | e
  ·exact h.newN q e
  ·exact .inr (by omega)
 ·rcases k.newP q hq with e | e
  ·exact h.newP q e
  ·exact .inr (by omega)
theorem Nk.of_all {B b:Nat}{nd a:Value}{w w':World}(h:Below w.heap.size w w')(c:B≤w.heap.size):Nk B b nd a w nd a w':=
 ⟨h.mono c,fun k h1 _ _ _=>h.block k h1,fun q hq=> .inl hq,fun q hq=> .inl hq⟩
theorem LV.below {w w':World}{B b:Nat}{N:List Nd}{P:List Int}{nd c:Value}{d f:List Value}(h:LV w B b N P nd c d f)(a:Below w.heap.size w w'):LV w' B b N P nd c d f:=
 ⟨h.row.after a NLN,h.nodes.blocks (fun k _ hk=>a.block k hk),Ac h.places (fun q hq=>a.block q (h.places.lt q hq).2),h.apart,h.low⟩
theorem Nk.row {B b:Nat}{nd c f i:Value}{w w':World}{N:List Nd}{P:List Int}{j k:List Value}(h:Nk B b nd c w f i w')(C:LV w B b N P nd c j k){g:Nat}{cs:Array Value}{t:TypeId}(R:Am w g cs t)(h1:t≠154)(h2:t≠124)(h3:t≠3):Am w' g cs t:=
 ⟨(h.block g R.lt (fun e=>by
  have d:=R.out;have a:=C.row.out;rw[e] at d;rw[d] at a;injection a with a;injection a with _ a;exact h1 a) (Ad R C.nodes.own h2) (Ad R C.places h3)).trans R.out⟩
structure Kn (B nb g:Nat) (w:World) (nd pl:Value) (N:List Nd) (P:List Int) (nd1 pl1:Value) (nv kv:List Value) (kw:Value) (ks:List Int) (vs:Array Value) (w2:World):Prop where
 C:LV w2 B nb N P nd1 pl1 nv kv
 K:Nk B nb nd pl w nd1 pl1 w2
 R:Am w2 g vs 67
 O:w2.ownsRow w.heap.size 3 1 kw ks.length (AF ks)
 ap:∀ q,kw.ownBlock=some q→pl1.ownBlock≠some q∧∀ j,(hj:j < kv.length)→kv[j].ownBlock≠some q
theorem Kn.call {B a g:Nat}{w i b:World}{nd o p r k l m:Value}{N M:List Nd}{P s:List Int}{n c t d:List Value}{ks:List Int}{u:Array Value}(h:Kn B a g w nd o N P p r n c m ks u i)(y:LV b B a (N ++M) (P ++s) k l (n ++t) (c ++d))(f:Nk B a p r i k l b)(z:∀ j,(v:j < d.length)→∀ q,d[j].ownBlock=some q→i.heap.size≤q):
  Kn B a g w nd o (N ++M) (P ++s) k l (n ++t) (c ++d) m ks u b:=by
 have E:=h.K.low.size;have A:b.ownsRow w.heap.size 3 1 m ks.length (AF ks):=Ac h.O (fun q hq=>f.block q (h.O.lt q hq).2 (fun e=>Ad h.C.row h.O (by decide) (by rw[hq,e])) (fun e=>Ap h.O h.C.nodes.own (by decide) q hq e) (h.ap q hq).1);refine ⟨y,h.K.trans f,f.row h.C h.R (by decide) (by decide) (by decide),A,fun q hq=>⟨fun e=>?_,fun j v e=>?_⟩⟩
 ·rcases f.newP q e with e | e
  ·exact (h.ap q hq).1 e
  ·have:=(h.O.lt q hq).2;omega
 ·by_cases x:j < c.length
  ·rw[zu x] at e;exact (h.ap q hq).2 j x e
  ·rw[List.getElem_append_right (by omega)] at e;have:=z _ (by simp at v;omega) q e;have:=(h.O.lt q hq).2;omega
theorem Kn.app {B i g:Nat}{w b k:World}{nd l m n d:Value}{N:List Nd}{P:List Int}{o p:List Value}{ks:List Int}{r:Array Value}{f:Obj}{a:Int}{gk cap:Nat}(h:Kn B i g w nd l N P m n o p d ks r b)(v:B≤w.heap.size)
  (x:k.ownsRow w.heap.size 3 1 (.slice (some ⟨gk,0,none⟩) (ks.length+1) cap) (ks.length+1) (AF ks ++ [.int .i64 a]))(s:(b.alloc f).grownBy k d.ownBlock)(y:d.ownBlock=some gk∨gk=b.heap.size+1):
  Kn B i g w nd l N P m n o p (.slice (some ⟨gk,0,none⟩) (ks.length+1) cap) (ks ++ [a]) r k:=by
 have t:=h.K.low.size;have E:=(Below.refl b.heap.size b).alloc NLN f;have u:(b.alloc f).heap.size=b.heap.size+1:=by simp
 have hk:∀ q,q < b.heap.size→d.ownBlock≠some q→k.heap[q]? =b.heap[q]? :=fun q h1 h2=>(s.block q (by rw[u];omega) (fun e=>h2 e.symm)).trans (Below.heap_alloc b f q h1);have C:=h.C;have z:d.ownBlock≠some i:=Ad C.row h.O (by decide);refine ⟨⟨⟨(hk i C.row.lt z).trans C.row.out⟩, ?_, ?_,C.apart,C.low⟩,⟨?_,fun q h1 h2 h3 h4=>?_,h.K.newN,h.K.newP⟩,⟨(hk g h.R.lt (Ad h.R h.O (by decide))).trans h.R.out⟩,by rw[zB];simpa[AF] using x,fun q hq=>?_⟩
 ·exact C.nodes.upto (fun q hq=>hk q (C.nodes.lts.1 q hq).2 (fun e=>Ap h.O C.nodes.own (by decide) q e hq)) (fun j c q hq=>hk q (C.nodes.lts.2.1 j c q hq).2 (fun e=>Ap h.O (C.nodes.names j (by rw[← C.nodes.len];exact c) c) (by decide) q e hq)) (fun j c q hq=>hk q (C.nodes.lts.2.2 j c q hq).2 (fun e=>(h.ap q e).2 j c hq))
 ·exact Ac C.places (fun q hq=>hk q (C.places.lt q hq).2 (fun e=>(h.ap q e).1 hq))
 ·exact (h.K.low.alloc (zL v t) f).grown s (by rw[u];omega) (fun q hq=>by have:=(h.O.lt q hq).1;omega)
 ·have A:=zY h1 t;refine (hk q A (fun e=>by have:=(h.O.lt q e).1;omega)).trans (h.K.block q h1 h2 h3 h4)
 ·have e:gk=q:=by simpa[Value.ownBlock] using hq
  subst e;rcases y with e | e
  ·exact h.ap gk e
  ·refine ⟨fun e'=>?_,fun j c e'=>?_⟩
   ·have:=(C.places.lt gk e').2;omega
   ·have:=(C.nodes.lts.2.2 j c gk e').2;omega
theorem Ax {a b:World}{c:Obj}{row:Option Nat}(d:(a.alloc c).grownBy b row):∀ q,q < a.heap.size→row≠some q→b.heap[q]? =a.heap[q]? :=fun q h1 h2=>(d.block q (by simp;omega) (fun e=>h2 e.symm)).trans (Below.heap_alloc a c q h1)
theorem LV.pushN {b c:World}{B a g7 c7:Nat}{N:List Nd}{P:List Int}{nd f u k:Value}{i g:List Value}{x:Nd}(C:LV b B a N P nd f i g)(o:Obj)(v:B≤b.heap.size)(hu:b.ownsRow B 9 1 u x.names.length (x.names.map Value.string))(hk:b.ownsRow B 3 1 k x.kids.length (AF x.kids))
  (w:∀ j,(d:j < i.length)→∀ q,i[j].ownBlock=some q→u.ownBlock≠some q)(y:∀ j,(d:j < g.length)→∀ q,g[j].ownBlock=some q→k.ownBlock≠some q)(z:∀ q,k.ownBlock=some q→f.ownBlock≠some q)
  (l:(b.alloc o).grownBy c nd.ownBlock)(A:c.ownsRow B 124 5 (.slice (some ⟨g7,0,none⟩) (N.length+1) c7) (N.length+1) (JM N i g ++MI x u k))(E:nd.ownBlock=some g7∨g7=b.heap.size+1):
  LV (c.setCell ⟨a,0,none⟩ (.slice (some ⟨g7,0,none⟩) (N.length+1) c7)) B a (N ++ [x]) P (.slice (some ⟨g7,0,none⟩) (N.length+1) c7) f (i ++ [u]) (g ++ [k])∧Nk B a nd f b (.slice (some ⟨g7,0,none⟩) (N.length+1) c7) f (c.setCell ⟨a,0,none⟩ (.slice (some ⟨g7,0,none⟩) (N.length+1) c7)):=by
 have r:=(Below.refl b.heap.size b).alloc NLN o;have F:=C.below r;have H:=Ac (w':=b.alloc o) hu (fun q hq=>r.block q (hu.lt q hq).2);have I:=Ac (w':=b.alloc o) hk (fun q hq=>r.block q (hk.lt q hq).2);have J:nd.ownBlock≠some a:=Ad C.row C.nodes.own (by decide);have m:Am c a #[nd,f] 154:=⟨(Ax l a C.row.lt J).trans C.row.out⟩
 have h:=F.nodes.snoc H I w y A l;have s:c.ownsRow B 3 1 f P.length (AF P):=Ac C.places (fun q hq=>Ax l q (C.places.lt q hq).2 (fun e=>Ap C.places C.nodes.own (by decide) q hq e));have n:∀ q,q≠a→(c.setCell ⟨a,0,none⟩ (.slice (some ⟨g7,0,none⟩) (N.length+1) c7)).heap[q]? =c.heap[q]? :=fun q hq=>heap_setCell_other c ⟨a,0,none⟩ q _ hq;refine ⟨⟨m.set 0 _,h.upto (fun q hq=>n q (fun e=>Ad m h.own (by decide) (by rw[hq,e]))) (fun j d q hq=>n q (fun e=>Ad m (h.names j (by rw[← h.len];exact d) d) (by decide) (by rw[hq,e]))) (fun j d q hq=>n q (fun e=>Ad m (h.kids j (by rw[← h.lenk];exact d) d) (by decide) (by rw[hq,e]))),Ac s (fun q hq=>n q (fun e=>Ad m s (by decide) (by rw[hq,e]))),fun q hq j d e=>?_,C.low⟩,⟨?_,fun q h1 h2 h3 h4=>(n q h2).trans (Ax l q h1 h3),fun q hq=>?_,fun q hq=> .inl hq⟩⟩
 ·by_cases t:j < g.length
  ·rw[zu t] at e;exact C.apart q hq j t e
  ·have K:j=g.length:=by simp at d;omega
   subst K;simp at e;exact z q e hq
 ·exact ((r.mono v).grown l (by simp;omega) (fun q hq=>(C.nodes.lts.1 q hq).1)).setCell (p:=⟨a,0,none⟩) C.low _
 ·have e:g7=q:=by simpa[Value.ownBlock] using hq
  subst e;exact E.imp id (fun e=>by omega)
theorem LV.pushP {f d:World}{B c g7 c7:Nat}{N:List Nd}{P:List Int}{nd g:Value}{m n:List Value}(C:LV f B c N P nd g m n)(o:Obj)(a:Int)(t:B≤f.heap.size)
  (h:(f.alloc o).grownBy d g.ownBlock)(r:d.ownsRow B 3 1 (.slice (some ⟨g7,0,none⟩) (P.length+1) c7) (P.length+1) (AF P ++ [.int .i64 a]))(s:g.ownBlock=some g7∨g7=f.heap.size+1):
  LV (d.setCell ⟨c,1,none⟩ (.slice (some ⟨g7,0,none⟩) (P.length+1) c7)) B c N (P ++ [a]) nd (.slice (some ⟨g7,0,none⟩) (P.length+1) c7) m n∧Nk B c nd g f nd (.slice (some ⟨g7,0,none⟩) (P.length+1) c7) (d.setCell ⟨c,1,none⟩ (.slice (some ⟨g7,0,none⟩) (P.length+1) c7)):=by
 have u:=(Below.refl f.heap.size f).alloc NLN o;have v:g.ownBlock≠some c:=Ad C.row C.places (by decide);have k:Am d c #[nd,g] 154:=⟨(Ax h c C.row.lt v).trans C.row.out⟩
 have l:∀ q,q≠c→(d.setCell ⟨c,1,none⟩ (.slice (some ⟨g7,0,none⟩) (P.length+1) c7)).heap[q]? =d.heap[q]? :=fun q hq=>heap_setCell_other d ⟨c,1,none⟩ q _ hq;have i:Cj d B nd N m n:=C.nodes.upto (fun q hq=>Ax h q (C.nodes.lts.1 q hq).2 (fun e=>Ap C.places C.nodes.own (by decide) q e hq)) (fun j b q hq=>Ax h q (C.nodes.lts.2.1 j b q hq).2 (fun e=>Ap C.places (C.nodes.names j (by rw[← C.nodes.len];exact b) b) (by decide) q e hq)) (fun j b q hq=>Ax h q (C.nodes.lts.2.2 j b q hq).2 (fun e=>C.apart q e j b hq));refine ⟨⟨k.set 1 _,i.upto (fun q hq=>l q (fun e=>Ad k i.own (by decide) (by rw[hq,e]))) (fun j b q hq=>l q (fun e=>Ad k (i.names j (by rw[← i.len];exact b) b) (by decide) (by rw[hq,e]))) (fun j b q hq=>l q (fun e=>Ad k (i.kids j (by rw[← i.lenk];exact b) b) (by decide) (by rw[hq,e]))), ?_,fun q hq j b e=>?_,C.low⟩,⟨?_,fun q h1 h2 h3 h4=>(l q h2).trans (Ax h q h1 h4),fun q hq=> .inl hq,fun q hq=>?_⟩⟩
 ·have:=Ac (w':=d.setCell ⟨c,1,none⟩ (.slice (some ⟨g7,0,none⟩) (P.length+1) c7)) r (fun q hq=>l q (fun e=>Ad k r (by decide) (by rw[hq,e])));simpa[AF] using this
 ·have w:g7=q:=by simpa[Value.ownBlock] using hq
  subst w;rcases s with h1 | h1
  ·exact C.apart g7 h1 j b e
  ·have:=(C.nodes.lts.2.2 j b g7 e).2;omega
 ·exact ((u.mono t).grown h (by simp;omega) (fun q hq=>(C.places.lt q hq).1)).setCell (p:=⟨c,1,none⟩) C.low _
 ·have e:g7=q:=by simpa[Value.ownBlock] using hq
  subst e;exact s.imp id (fun e=>by omega)
def Bw:Ex→Nat→List Nd
 | .un i op k,b=>Bw k b ++ [⟨op,0,⟨#[]⟩, [], [((b+k.cnt - 1 :Nat):Int)]⟩]
 | .bin i op l r,b=>Bw l b ++Bw r (b+l.cnt) ++ [⟨op,0,⟨#[]⟩, [], [((b+l.cnt - 1 :Nat):Int),((b+l.cnt+r.cnt - 1 :Nat):Int)]⟩]
 | .ite i c t e,b=>Bw c b ++Bw t (b+c.cnt) ++Bw e (b+c.cnt+t.cnt) ++ [⟨27,0,⟨#[]⟩, [], [((b+c.cnt - 1 :Nat):Int),((b+c.cnt+t.cnt - 1 :Nat):Int),((b+c.cnt+t.cnt+e.cnt - 1 :Nat):Int)]⟩]
 |e,_=> [TD e]
def E7:Ex→List Int
 | .int i _=> [i] | .text i _=> [i] | .bool i _=> [i] | .set i .. => [i] | .name i _=> [i] | .attr i _=> [i] | .lett i _=> [i]
 | .un i _ k=>E7 k ++ [i]
 | .bin i _ l r=>E7 l ++E7 r ++ [i]
 | .ite i c t e=>E7 c ++E7 t ++E7 e ++ [i]
theorem KI:(Tryz.prog.info? 124).map (fun i=>(i.zero,i.size,i.bytes))=some (some (.agg #[.int .i64 0,.int .i64 0,.string ByteArray.empty,.slice none 0 0,.slice none 0 0]),5,80):=by kernel_rfl
theorem MO:(Tryz.prog.info? 3).map (fun i=>(i.zero,i.size,i.bytes))=some (some (.int .i64 0),1,8):=by kernel_rfl
theorem Di (w:World):Below w.heap.size w w.drew:=⟨rfl,rfl,rfl,NLN,fun _ _=>rfl⟩
def AdO (B nb:Nat) (N:List Nd) (P:List Int) (nd pl:Value) (nv kv:List Value) (M:List Nd) (Q:List Int) (w:World) (r:Ending) (w':World):Prop:=
 r= .returned (.int .i64 ((N.length+M.length - 1 :Nat):Int))∧∃ nd' pl' nv' kv',LV w' B nb (N ++M) (P ++Q) nd' pl' (nv ++nv') (kv ++kv')∧Nk B nb nd pl w nd' pl' w'∧∀ j,(hj:j < kv'.length)→∀ q,kv'[j].ownBlock=some q→w.heap.size≤q
def Zd (B nb:Nat) (w0:World) (v:Value) (fl:Nat→List Nd) (Q:List Int) (n:Nat):Prop:=
 ∀ (N:List Nd) (P:List Int) (nd pl:Value) (nv kv:List Value) (w:World),Below B w0 w→LV w B nb N P nd pl nv kv→N.length+n≤65535→P.length+n≤65535→Calls Tryz.prog 86 #[.pointer (some ⟨nb,0,none⟩),v] w (AdO B nb N P nd pl nv kv (fl N.length) Q w)
theorem Fl (B a:Nat)(ap:World)(T:TypeId)(v:Value)(i:Int)(x:Nd)(hx:x.kids= [])
  (hk:∀ w,(method 429 T v "loop.example/s01308/impl.kids").run Tryz.prog w= .ok (243,.int .i64 i) w)
  (hp:∀ w,(method 429 T v "loop.example/s01308/impl.place").run Tryz.prog w= .ok (244,.int .i64 i) w)
  (aS:Hid (∀ w,Below B ap w→Calls Tryz.prog 128 #[.iface T v] w (Sm x w))):
  Zd B a ap (.iface T v) (fun _=> [x]) [i] 1:=by
 intro N P nd C M O w aq Q bw bx;have aT:=Ab aq;have bz:=Q.row.lt;have ar:B≤w.heap.size:=by have:=Q.low;omega
 clear aq;go_enter Tryz.func86,Tryz.ntmps86
 go_wp2_with fail
 refine (DI i _).mono ?_;rintro r bA ⟨rfl,au⟩;rw[au];clear au;dsimp only;go_wp2_with fail
 refine wp_loop_rounds 1 ?_;rw[rounds_succ];go_wp2_with fail
 have aU:=Nk.refl B a nd C w;have av:w.ownsRow w.heap.size 3 1 (.slice none 0 0) 0 (AF []):=World.ownsRow_nil _ _ _ _;have aw:∀ q,(Value.slice none 0 0).ownBlock=some q→C.ownBlock≠some q∧∀ j,(l:j < O.length)→O[j].ownBlock≠some q:=fun q hq=>by cases hq
 have aV:=aT;have ax:=ar;obtain ⟨aW,aX,aY,aZ,a0⟩:=info_parts KI;obtain ⟨a1,a2,a3,a4,a5⟩:=info_parts MO;have a6:=Tryz.func244;have a7:(Tryz.f244.name== "runtime.NumGoroutine")=false:=by kernel_rfl
 have a8: Tryz.f244.body.isNone=false:=by kernel_rfl
 have a9:=Ab (fun w=>(UD i w).mono (R':=fun r w'=>r= .returned (.int .i64 i)∧Below w.heap.size w w') (fun r w' ⟨h1,h2⟩=>⟨h1,by rw[h2];exact BRN⟩));have ba: Tryz.prog.types.size+Made.depth= 429:=by kernel_rfl
 refine (Aa aS _ (Aa aV)).mono ?_;rintro r f ⟨⟨u,b,rfl,R⟩,E⟩;have ay:=Q.below E;have az:=aU.trans (Nk.of_all E ax);have Y:=Ac (w':=f) av (fun q hq=>E.block q (av.lt q hq).2);have bb:=E.size;have F:=(Below.refl f.heap.size f).alloc NLN (.cells #[.int .i64 x.op,.int .i64 x.num,.string x.text,.slice u x.names.length b,.slice none 0 0] 124);have S:=Am.new f #[.int .i64 x.op,.int .i64 x.num,.string x.text,.slice u x.names.length b,.slice none 0 0] 124;have d:=ay.below F;have Z:=az.trans (Nk.of_all F (zL ax bb));have aa:=Ac (w':=f.alloc (.cells #[.int .i64 x.op,.int .i64 x.num,.string x.text,.slice u x.names.length b,.slice none 0 0] 124)) R (fun q hq=>F.block q (R.lt q hq).2);have U:=Ac (w':=f.alloc (.cells #[.int .i64 x.op,.int .i64 x.num,.string x.text,.slice u x.names.length b,.slice none 0 0] 124)) Y (fun q hq=>F.block q (Y.lt q hq).2);have bc:f.heap.size < (f.alloc (.cells #[.int .i64 x.op,.int .i64 x.num,.string x.text,.slice u x.names.length b,.slice none 0 0] 124)).heap.size:=by simp
 have bd:=Ab (show ∀ j,(l:j < (M).length)→∀ q,(M)[j].ownBlock=some q→(Value.slice u x.names.length b).ownBlock≠some q from fun j l q hq e=>by have:=(R.lt q e).1;have:=(Q.nodes.lts.2.1 j l q hq).2;omega);clear R Y ay az E F;dsimp only;go_wp2_with fail
 generalize f.alloc (.cells #[.int .i64 x.op,.int .i64 x.num,.string x.text,.slice u x.names.length b,.slice none 0 0] 124)=c at d Z aa U S bc ⊢;generalize f.heap.size=H at S ⊢;obtain ⟨I,J,m,_⟩:=Af d.nodes.own;have ab:=Ab m;clear m;apply Ut
 ·intro bf;have m:=Aa ab;obtain ⟨aA,e1,e2,e3,e4⟩:=Lu S;have ac:c.cell? ⟨a,0,none⟩=some (nd):=d.row.cell 0;rw[m] at ac;have aB:=d.row.frozen 0;have aC:=World.news_of_block (heap_alloc_new c (.cells #[.int .i64 x.op,.int .i64 x.num,.string x.text,.slice u x.names.length b,.slice none 0 0] 124));have bg:c.drew.cell? ⟨a,0,none⟩=some (.slice I (N).length J)∧c.drew.frozen? ⟨a,0,none⟩=false:=⟨ac,aB⟩
  have d1:c.drew.cell? ⟨H,0,none⟩=some (.int .i64 x.op):=aA;have d2:c.drew.cell? ⟨H,1,none⟩=some (.int .i64 x.num):=e1;have d3:c.drew.cell? ⟨H,2,none⟩=some (.string x.text):=e2;have d4:c.drew.cell? ⟨H,3,none⟩=some (.slice u x.names.length b):=e3;have d5:c.drew.cell? ⟨H,4,none⟩=some (.slice none 0 0):=e4;have aD:(c.alloc (.cells #[.int .i64 x.op,.int .i64 x.num,.string x.text,.slice u x.names.length b,.slice none 0 0] 124)).drew.ownsRow B 124 5 (.slice I (N).length J) (N).length (JM (N) (M) (O)):=by
   have:=d.nodes.own;rw[m] at this;exact (World.ownsRow.alloc this _).drew
  have V:Am (c.alloc (.cells #[.int .i64 x.op,.int .i64 x.num,.string x.text,.slice u x.names.length b,.slice none 0 0] 124)).drew a #[nd,C] 154:=⟨(d.row.alloc (.cells #[.int .i64 x.op,.int .i64 x.num,.string x.text,.slice u x.names.length b,.slice none 0 0] 124)).out⟩
  have bh:(c.alloc (.cells #[.int .i64 x.op,.int .i64 x.num,.string x.text,.slice u x.names.length b,.slice none 0 0] 124)).drew.cell? ⟨a,0,none⟩=some (.slice I (N).length J):=by
   have:=V.cell 0;rw[m] at this;exact this
  have aE:(Value.slice I (N).length J).ownBlock≠some a:=by rw[← m];exact Ad d.row d.nodes.own (by decide)
  have bi:B≤c.heap.size:=by have:=d.row.lt;have:=d.low;omega
  clear aA e1 e2 e3 e4 ac aB m;go_region_law (refine step_append_lies _ rfl _ _ 24 rfl B 124 aW (.agg #[.int .i64 0,.int .i64 0,.string ByteArray.empty,.slice none 0 0,.slice none 0 0]) 5 80 Tryz.underlying24 aX aY aZ a0 rfl (by decide) (.slice I (N).length J) (N).length (JM (N) (M) (O)) rfl aD ⟨c.heap.size,0,none⟩ 1 1 [.int .i64 x.op,.int .i64 x.num,.string x.text,.slice u x.names.length b,.slice none 0 0] rfl rfl aC (by intro u hu;simp at hu;rcases hu with rfl | rfl | rfl | rfl | rfl <;> rfl) (by decide) (by unfold maxLen;omega) (by omega) (by simp;omega) _ rfl ?_;intro g7 c7 ad aF p aG bj;have ae:Am ad a #[nd,C] 154:=⟨(p.block a V.lt (fun e=>aE e.symm)).trans V.out⟩;have W:=ae.cell 0;have af:=ae.frozen 0)
  all_goals
   have aH:(c.alloc (.cells #[.int .i64 x.op,.int .i64 x.num,.string x.text,.slice u x.names.length b,.slice none 0 0] 124)).grownBy ad (nd).ownBlock:=by rw[Aa ab];exact ⟨p.os,p.tape,p.output,p.size,p.block⟩
   obtain ⟨t,K⟩:=d.pushN (g7:=g7) (c7:=c7) (x:=x) (u:= .slice u x.names.length b) (k:= .slice none 0 0) _ bi (Cx aa (by omega)) (by rw[hx];exact Cx U (by omega)) (Aa bd) (fun j l q hq e=>(aw q e).2 j l hq) (fun q hq=>(aw q hq).1) aH aF (by rw[Aa ab];exact aG.imp id (fun e=>by rw[e];show (c.alloc _).heap.size=_;simp));have y:=Z.trans K;have ag:=Ab (show ∀ q,(.slice none 0 0 :Value).ownBlock=some q→w.heap.size≤q from fun q hq=>(U.lt q hq).1);clear aF p aG bj ae V bh bg d1 d2 d3 d4 d5 aC aD aH K;clear W af;generalize ad.setCell ⟨a,0,none⟩ (.slice (some ⟨g7,0,none⟩) ((N).length+1) c7)=g at t y ⊢;clear aE;revert ag;revert y;revert t;revert g;revert c7;revert g7;exact bf.out
 intro g7 c7 g t y ag;clear S d Z aa U;go_wp2_with fail
 obtain ⟨z,A,X,_⟩:=Af t.places;have L:=Ab X;have n:=t.below (Di g);have aI:=y.trans (Nk.of_all (Di g) (zL ar y.low.size));have bk:g.drew.cell? ⟨a,1,none⟩=some (.slice z (P).length A):=by have:=n.row.cell 1;rw[X] at this;exact this
 have bl:=n.row.frozen 1;have bm:(Value.slice z (P).length A).ownBlock≠some a:=by rw[← X];exact Ad n.row n.places (by decide)
 have bn:=Ab (Aa a9 g.drew);have aJ:B≤g.drew.heap.size:=by have:=n.row.lt;have:=n.low;omega
 clear X t y;go_region_law (first
  |(refine Iy rfl _ _ _ rfl T (v) rfl _ ba _ _ hp _ a6 a7 a8 (fun bo w'=>bo= .int .i64 i∧Below g.heap.size g.drew w') ((Aa bn).mono (fun r w' h=>⟨_,h.1,rfl,h.2⟩)) ?_;rintro bB o ⟨rfl,ah⟩;have s:=n.below ah;have aK:=aI.trans (Nk.of_all ah aJ);have bp:B≤o.heap.size:=zL aJ ah.size;have bq:o.cell? ⟨a,1,none⟩=some (.slice z (P).length A):=(by have:=s.row.cell 1;rw[Aa L] at this;exact this);have br:=s.row.frozen 1;have aL:(o.alloc (.cells #[.int .i64 i] 3)).ownsRow B 3 1 (.slice z (P).length A) (P).length (AF (P)):=(by have:=s.places;rw[Aa L] at this;exact World.ownsRow.alloc this _);have bs:(o.alloc (.cells #[.int .i64 i] 3)).cell? ⟨a,1,none⟩=some (.slice z (P).length A):=(by have:=(s.row.alloc (.cells #[.int .i64 i] 3)).cell 1;rw[Aa L] at this;exact this);have aM:=World.news_of_block (heap_alloc_new o (.cells #[.int .i64 i] 3));have ai:Am (o.alloc (.cells #[.int .i64 i] 3)) a #[_,_] 154:=s.row.alloc (.cells #[.int .i64 i] 3))
  |(refine step_append_lies _ rfl _ _ 28 rfl B 3 a1 (.int .i64 0) 1 8 Tryz.underlying28 a2 a3 a4 a5 rfl (by decide) (.slice z (P).length A) (P).length (AF (P)) rfl aL ⟨o.heap.size,0,none⟩ 1 1 [.int .i64 i] rfl rfl aM (by intro u hu;simp at hu;rcases hu with rfl;rfl) (by decide) (by unfold maxLen;omega) (by omega) (by simp;omega) _ rfl ?_;intro g6 aN aj aO ak aP bt;have al:Am aj a #[_,_] 154:=⟨(ak.block a ai.lt (fun e=>bm e.symm)).trans ai.out⟩;have W:=al.cell 1;have af:=al.frozen 1))
 all_goals
  have aQ:(o.alloc (.cells #[.int .i64 i] 3)).grownBy aj (C).ownBlock:=by rw[Aa L];exact ak
  obtain ⟨ao,aR⟩:=s.pushP (g7:=g6) (c7:=aN) _ i bp aQ aO (by rw[Aa L];exact aP.imp id (fun e=>by rw[e];simp));have K:=aK.trans aR;clear aO ak aP bt aQ bk bl bq br bs W af al ai aM aL n s aI aK aR;generalize aj.setCell ⟨a,1,none⟩ (.slice (some ⟨g6,0,none⟩) ((P).length+1) aN)=bu at ao K ⊢;have W:bu.cell? ⟨a,0,none⟩=some (.slice (some ⟨g7,0,none⟩) ((N).length+1) c7):=ao.row.cell 0;go_wp2_with fail
  go_ret
  refine ⟨by simp,_,_, [_], [_],ao,K, ?_⟩;intro j l q hq;have bv:j=0:=by simp at l;exact l
  subst bv;exact Aa ag q hq
theorem CN {lo:Nat}{a b:List Value}(d:∀ j,(c:j < a.length)→∀ q,a[j].ownBlock=some q→lo≤q)(f:∀ j,(c:j < b.length)→∀ q,b[j].ownBlock=some q→lo≤q):∀ j,(c:j < (a ++b).length)→∀ q,(a ++b)[j].ownBlock=some q→lo≤q:=fun j c q hq=>by
 by_cases h:j < a.length
 ·rw[zu h] at hq;exact d j h q hq
 ·rw[List.getElem_append_right (by omega)] at hq;exact f _ (by simp at c;omega) q hq
theorem EB {lo:Nat}{v:Value}(h:∀ q,v.ownBlock=some q→lo≤q):∀ j,(a:j < [v].length)→∀ q, [v][j].ownBlock=some q→lo≤q:=fun j a q hq=>by
 have b:j=0:=by simp at a;exact a
 subst b;exact h q hq
theorem Bi {lo hi:Nat}{a:List Value}(c:∀ j,(b:j < a.length)→∀ q,a[j].ownBlock=some q→hi≤q)(h:lo≤hi):∀ j,(b:j < a.length)→∀ q,a[j].ownBlock=some q→lo≤q:=fun j b q hq=>zL h (c j b q hq)
end Go.Proofs.YtffkofkjpckmpaaGreatDoor
