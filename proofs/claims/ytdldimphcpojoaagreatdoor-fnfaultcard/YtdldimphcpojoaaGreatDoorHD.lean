/-
  Parse, the model: terminals, symbols (written by mkhd.py). Own work.
-/
import Derived.Test.YtdldimphcpojoaaGreatDoorMXAR
import Derived.Test.YtdldimphcpojoaaGreatDoorMXAL
import Derived.Test.YtdldimphcpojoaaGreatDoorMXAI
namespace Go.Proofs.YtdldimphcpojoaaGreatDoor
set_option maxRecDepth 100000
set_option maxHeartbeats 1600000
open Go.RowKit
set_option linter.unusedVariables false
theorem CI (t u:List UInt8):((Ax t).toList== u)=decide (t=u):=by
 rw[ByteArray.toList_eq];show (t== u)=_;by_cases e:t=u
 ·rw[decide_eq_true e,e];simp
 ·rw[decide_eq_false e];simpa using e
theorem QF (t:Af)(w:World):Calls Tryz.prog 27 #[.agg #[.int .i64 t.kind,.int .i64 t.num,.string t.text,.int .i64 (t.at_:Int)]] w fun e w'=>e= .returned (.string (Ax (tk t)))∧Below w.heap.size w w':=by
 have b:=(Below.refl w.heap.size w).alloc NLN (.cells #[.int .i64 t.kind,.int .i64 t.num,.string t.text,.int .i64 (t.at_:Int)] 41);by_cases h1:t.kind=1
 ·have a:=Ab (show tk t=Kk by rw[tk,if_pos h1]);have e1:(t.kind== 1)=true:=beq_iff_eq.2 h1;clear h1;go_enter Tryz.func27,Tryz.ntmps27
  go_wp2_with fail
  go_ret
  exact ⟨by rw[Aa a];rfl,b⟩
 by_cases h2:t.kind=2
 ·have a:=Ab (show tk t=EC by rw[tk,if_neg h1,if_pos h2]);have e1:(t.kind== 1)=false:=beq_eq_false_iff_ne.2 h1;have e2:(t.kind== 2)=true:=beq_iff_eq.2 h2;clear h1 h2;go_enter Tryz.func27,Tryz.ntmps27
  go_wp2_with fail
  go_ret
  exact ⟨by rw[Aa a];rfl,b⟩
 by_cases h3:t.kind=3
 ·have a:=Ab (show tk t=DW by rw[tk,if_neg h1,if_neg h2,if_pos h3]);have e1:(t.kind== 1)=false:=beq_eq_false_iff_ne.2 h1;have e2:(t.kind== 2)=false:=beq_eq_false_iff_ne.2 h2;have e3:(t.kind== 3)=true:=beq_iff_eq.2 h3;clear h1 h2 h3;go_enter Tryz.func27,Tryz.ntmps27
  go_wp2_with fail
  go_ret
  exact ⟨by rw[Aa a];rfl,b⟩
 ·have a:=Ab (show tk t=Ak t.text by rw[tk,if_neg h1,if_neg h2,if_neg h3]);have e1:(t.kind== 1)=false:=beq_eq_false_iff_ne.2 h1;have e2:(t.kind== 2)=false:=beq_eq_false_iff_ne.2 h2;have e3:(t.kind== 3)=false:=beq_eq_false_iff_ne.2 h3;clear h1 h2 h3;go_enter Tryz.func27,Tryz.ntmps27
  go_wp2_with fail
  go_ret
  exact ⟨by rw[Aa a,BE];rfl,b⟩
def Sy.str:Sy→List UInt8
 | .policy=> [80,111,108,105,99,121]
 | .decision=> [68,101,99,105,115,105,111,110]
 | .expr=> [69,120,112,114]
 | .orMore=> [79,114,77,111,114,101]
 | .and_=> [65,110,100]
 | .andMore=> [65,110,100,77,111,114,101]
 | .not_=> [78,111,116]
 | .compared=> [67,111,109,112,97,114,101,100]
 | .sum=> [83,117,109]
 | .sumMore=> [83,117,109,77,111,114,101]
 | .term=> [84,101,114,109]
 | .termMore=> [84,101,114,109,77,111,114,101]
 | .unary=> [85,110,97,114,121]
 | .primary=> [80,114,105,109,97,114,121]
 | .scopes=> [83,99,111,112,101,115]
 | .scopesMore=> [83,99,111,112,101,115,77,111,114,101]
 | .scope=> [83,67,79,80,69]
 | .t s=>s
def ER (x:Sy):ByteArray:=Ax x.str
def FY (o:Option (List Sy)) (w:World) (r:Ending) (w':World):Prop:=
 (match o with
   | some m=>∃ a cx,r= .returned (.tuple #[.slice a m.length cx,.bool true])∧w'.ownsRow w.heap.size 9 1 (.slice a m.length cx) m.length (m.map fun y=>Value.string (ER y))
   | none=>r= .returned (.tuple #[.slice none 0 0,.bool false]))∧Below w.heap.size w w'
theorem I8 {w:World}{B B' n size:Nat}{e:TypeId}{v:Value}{a:List Value}(h:w.ownsRow B e size v n a)(b:B'≤B):w.ownsRow B' e size v n a:=by
 refine ⟨h.1, ?_⟩;rcases h.2 with h0 | ⟨g,cap,c,d,h1,h2⟩
 ·exact .inl h0
 ·exact .inr ⟨g,cap,c,d,Nat.le_trans b h1,h2⟩
theorem AJ (w:World)(a:Array Value)(n:Nat)(h:a.size=n)(hm:n≤maxLen):(w.alloc (.cells a 9)).ownsRow w.heap.size 9 1 (.slice (some ⟨w.heap.size,0,none⟩) n n) n a.toList:=by
 refine ⟨by simp[h],.inr ⟨w.heap.size,n,a,rfl,NLN,heap_alloc_new w _,NLN,hm,by omega, ?_⟩⟩;rw[Nat.mul_one,List.take_of_length_le (by simp;omega)]
theorem Ov (a:ByteArray)(w:World)(b:(a.toList== [108,101,116])=true):Calls Tryz.prog 28 #[.string ⟨#[80,111,108,105,99,121]⟩,.string a] w fun r w'=>r= .returned (.tuple #[.slice (some ⟨w.heap.size,0,none⟩) 6 6,.bool true])∧w'=w.alloc (.cells #[.string ⟨#[108,101,116]⟩,.string ⟨#[78,65,77,69]⟩,.string ⟨#[61]⟩,.string ⟨#[69,120,112,114]⟩,.string ⟨#[59]⟩,.string ⟨#[80,111,108,105,99,121]⟩] 9):=by
 go_enter Tryz.func28,Tryz.ntmps28
 go_wp2_with fail
 go_ret2
 exact ⟨rfl,rfl⟩
theorem Ow (a:ByteArray)(w:World)(b:(a.toList== [108,101,116])=false)(e1:(a.toList== [119,104,101,110])=true):Calls Tryz.prog 28 #[.string ⟨#[80,111,108,105,99,121]⟩,.string a] w fun r w'=>r= .returned (.tuple #[.slice (some ⟨w.heap.size,0,none⟩) 6 6,.bool true])∧w'=w.alloc (.cells #[.string ⟨#[119,104,101,110]⟩,.string ⟨#[69,120,112,114]⟩,.string ⟨#[61,62]⟩,.string ⟨#[68,101,99,105,115,105,111,110]⟩,.string ⟨#[59]⟩,.string ⟨#[80,111,108,105,99,121]⟩] 9):=by
 go_enter Tryz.func28,Tryz.ntmps28
 go_wp2_with fail
 go_ret2
 exact ⟨rfl,rfl⟩
theorem Ox (a:ByteArray)(w:World)(b:(a.toList== [108,101,116])=false)(e1:(a.toList== [119,104,101,110])=false):Calls Tryz.prog 28 #[.string ⟨#[80,111,108,105,99,121]⟩,.string a] w fun r w'=>r= .returned (.tuple #[.slice (some ⟨w.heap.size,0,none⟩) 3 3,.bool true])∧w'=w.alloc (.cells #[.string ⟨#[101,108,115,101]⟩,.string ⟨#[68,101,99,105,115,105,111,110]⟩,.string ⟨#[59]⟩] 9):=by
 go_enter Tryz.func28,Tryz.ntmps28
 go_wp2_with fail
 go_ret2
 exact ⟨rfl,rfl⟩
theorem Tu (t:List UInt8)(w:World):Calls Tryz.prog 28 #[.string (ER .policy),.string (Ax t)] w (FY (Ae .policy t) w):=by
 show Calls Tryz.prog 28 #[.string ⟨#[80,111,108,105,99,121]⟩,.string (Ax t)] w (FY (Ae .policy t) w);by_cases h0:t=CU
 ·have hx:Ae .policy t=some [.t [108,101,116],.t [78,65,77,69],.t [61],.expr,.t [59],.policy]:=by rw[Ae,if_pos h0] <;> rfl
  rw[hx];refine (Ov (Ax t) w (by rw[CI];exact decide_eq_true h0)).mono ?_;rintro r w' ⟨rfl,rfl⟩;exact ⟨⟨_,_,rfl,AJ w _ 6 rfl (by unfold maxLen;omega)⟩,(Below.refl w.heap.size w).alloc NLN _⟩
 by_cases h1:t=AZ
 ·have hx:Ae .policy t=some [.t [119,104,101,110],.expr,.t [61,62],.decision,.t [59],.policy]:=by rw[Ae,if_neg h0,if_pos h1] <;> rfl
  rw[hx];refine (Ow (Ax t) w (by rw[CI];exact decide_eq_false h0) (by rw[CI];exact decide_eq_true h1)).mono ?_;rintro r w' ⟨rfl,rfl⟩;exact ⟨⟨_,_,rfl,AJ w _ 6 rfl (by unfold maxLen;omega)⟩,(Below.refl w.heap.size w).alloc NLN _⟩
 have hx:Ae .policy t=some [.t [101,108,115,101],.decision,.t [59]]:=by rw[Ae,if_neg h0,if_neg h1] <;> rfl
 rw[hx];refine (Ox (Ax t) w (by rw[CI];exact decide_eq_false h0) (by rw[CI];exact decide_eq_false h1)).mono ?_;rintro r w' ⟨rfl,rfl⟩;exact ⟨⟨_,_,rfl,AJ w _ 3 rfl (by unfold maxLen;omega)⟩,(Below.refl w.heap.size w).alloc NLN _⟩
theorem LQ (a:ByteArray)(w:World)(b:(a.toList== [103,114,97,110,116])=true):Calls Tryz.prog 28 #[.string ⟨#[68,101,99,105,115,105,111,110]⟩,.string a] w fun r w'=>r= .returned (.tuple #[.slice (some ⟨w.heap.size,0,none⟩) 2 2,.bool true])∧w'=w.alloc (.cells #[.string ⟨#[103,114,97,110,116]⟩,.string ⟨#[69,120,112,114]⟩] 9):=by
 go_enter Tryz.func28,Tryz.ntmps28
 go_wp2_with fail
 go_ret2
 exact ⟨rfl,rfl⟩
theorem LT (a:ByteArray)(w:World)(b:(a.toList== [103,114,97,110,116])=false):Calls Tryz.prog 28 #[.string ⟨#[68,101,99,105,115,105,111,110]⟩,.string a] w fun r w'=>r= .returned (.tuple #[.slice (some ⟨w.heap.size,0,none⟩) 1 1,.bool true])∧w'=w.alloc (.cells #[.string ⟨#[100,101,110,121]⟩] 9):=by
 go_enter Tryz.func28,Tryz.ntmps28
 go_wp2_with fail
 go_ret2
 exact ⟨rfl,rfl⟩
theorem Oy (t:List UInt8)(w:World):Calls Tryz.prog 28 #[.string (ER .decision),.string (Ax t)] w (FY (Ae .decision t) w):=by
 show Calls Tryz.prog 28 #[.string ⟨#[68,101,99,105,115,105,111,110]⟩,.string (Ax t)] w (FY (Ae .decision t) w);by_cases h0:t=Br
 ·have hx:Ae .decision t=some [.t [103,114,97,110,116],.expr]:=by rw[Ae,if_pos h0] <;> rfl
  rw[hx];refine (LQ (Ax t) w (by rw[CI];exact decide_eq_true h0)).mono ?_;rintro r w' ⟨rfl,rfl⟩;exact ⟨⟨_,_,rfl,AJ w _ 2 rfl (by unfold maxLen;omega)⟩,(Below.refl w.heap.size w).alloc NLN _⟩
 have hx:Ae .decision t=some [.t [100,101,110,121]]:=by rw[Ae,if_neg h0] <;> rfl
 rw[hx];refine (LT (Ax t) w (by rw[CI];exact decide_eq_false h0)).mono ?_;rintro r w' ⟨rfl,rfl⟩;exact ⟨⟨_,_,rfl,AJ w _ 1 rfl (by unfold maxLen;omega)⟩,(Below.refl w.heap.size w).alloc NLN _⟩
theorem Tv (a:ByteArray)(w:World)(b:(a.toList== [105,102])=true):Calls Tryz.prog 28 #[.string ⟨#[69,120,112,114]⟩,.string a] w fun r w'=>r= .returned (.tuple #[.slice (some ⟨w.heap.size,0,none⟩) 6 6,.bool true])∧w'=w.alloc (.cells #[.string ⟨#[105,102]⟩,.string ⟨#[69,120,112,114]⟩,.string ⟨#[116,104,101,110]⟩,.string ⟨#[69,120,112,114]⟩,.string ⟨#[101,108,115,101]⟩,.string ⟨#[69,120,112,114]⟩] 9):=by
 go_enter Tryz.func28,Tryz.ntmps28
 go_wp2_with fail
 go_ret2
 exact ⟨rfl,rfl⟩
theorem Tw (a:ByteArray)(w:World)(b:(a.toList== [105,102])=false):Calls Tryz.prog 28 #[.string ⟨#[69,120,112,114]⟩,.string a] w fun r w'=>r= .returned (.tuple #[.slice (some ⟨w.heap.size,0,none⟩) 2 2,.bool true])∧w'=w.alloc (.cells #[.string ⟨#[65,110,100]⟩,.string ⟨#[79,114,77,111,114,101]⟩] 9):=by
 go_enter Tryz.func28,Tryz.ntmps28
 go_wp2_with fail
 go_ret2
 exact ⟨rfl,rfl⟩
theorem WI (t:List UInt8)(w:World):Calls Tryz.prog 28 #[.string (ER .expr),.string (Ax t)] w (FY (Ae .expr t) w):=by
 show Calls Tryz.prog 28 #[.string ⟨#[69,120,112,114]⟩,.string (Ax t)] w (FY (Ae .expr t) w);by_cases h0:t=Du
 ·have hx:Ae .expr t=some [.t [105,102],.expr,.t [116,104,101,110],.expr,.t [101,108,115,101],.expr]:=by rw[Ae,if_pos h0] <;> rfl
  rw[hx];refine (Tv (Ax t) w (by rw[CI];exact decide_eq_true h0)).mono ?_;rintro r w' ⟨rfl,rfl⟩;exact ⟨⟨_,_,rfl,AJ w _ 6 rfl (by unfold maxLen;omega)⟩,(Below.refl w.heap.size w).alloc NLN _⟩
 have hx:Ae .expr t=some [.and_,.orMore]:=by rw[Ae,if_neg h0] <;> rfl
 rw[hx];refine (Tw (Ax t) w (by rw[CI];exact decide_eq_false h0)).mono ?_;rintro r w' ⟨rfl,rfl⟩;exact ⟨⟨_,_,rfl,AJ w _ 2 rfl (by unfold maxLen;omega)⟩,(Below.refl w.heap.size w).alloc NLN _⟩
theorem OA (a:ByteArray)(w:World)(b:(a.toList== [111,114])=true):Calls Tryz.prog 28 #[.string ⟨#[79,114,77,111,114,101]⟩,.string a] w fun r w'=>r= .returned (.tuple #[.slice (some ⟨w.heap.size,0,none⟩) 3 3,.bool true])∧w'=w.alloc (.cells #[.string ⟨#[111,114]⟩,.string ⟨#[65,110,100]⟩,.string ⟨#[79,114,77,111,114,101]⟩] 9):=by
 go_enter Tryz.func28,Tryz.ntmps28
 go_wp2_with fail
 go_ret2
 exact ⟨rfl,rfl⟩
theorem OB (a:ByteArray)(w:World)(b:(a.toList== [111,114])=false):Calls Tryz.prog 28 #[.string ⟨#[79,114,77,111,114,101]⟩,.string a] w fun r w'=>r= .returned (.tuple #[.slice none 0 0,.bool true])∧w'=w:=by
 go_enter Tryz.func28,Tryz.ntmps28
 go_wp2_with fail
 go_ret2
 exact ⟨rfl,rfl⟩
theorem Tx (t:List UInt8)(w:World):Calls Tryz.prog 28 #[.string (ER .orMore),.string (Ax t)] w (FY (Ae .orMore t) w):=by
 show Calls Tryz.prog 28 #[.string ⟨#[79,114,77,111,114,101]⟩,.string (Ax t)] w (FY (Ae .orMore t) w);by_cases h0:t=Wt
 ·have hx:Ae .orMore t=some [.t [111,114],.and_,.orMore]:=by rw[Ae,if_pos h0] <;> rfl
  rw[hx];refine (OA (Ax t) w (by rw[CI];exact decide_eq_true h0)).mono ?_;rintro r w' ⟨rfl,rfl⟩;exact ⟨⟨_,_,rfl,AJ w _ 3 rfl (by unfold maxLen;omega)⟩,(Below.refl w.heap.size w).alloc NLN _⟩
 have hx:Ae .orMore t=some []:=by rw[Ae,if_neg h0] <;> rfl
 rw[hx];refine (OB (Ax t) w (by rw[CI];exact decide_eq_false h0)).mono ?_;rintro r w' ⟨rfl,rfl⟩;exact ⟨⟨none,0,rfl,World.ownsRow_nil _ _ _ _⟩,BRN⟩
theorem U9 (a:ByteArray)(w:World):Calls Tryz.prog 28 #[.string ⟨#[65,110,100]⟩,.string a] w fun r w'=>r= .returned (.tuple #[.slice (some ⟨w.heap.size,0,none⟩) 2 2,.bool true])∧w'=w.alloc (.cells #[.string ⟨#[78,111,116]⟩,.string ⟨#[65,110,100,77,111,114,101]⟩] 9):=by
 go_enter Tryz.func28,Tryz.ntmps28
 go_wp2_with fail
 go_ret2
 exact ⟨rfl,rfl⟩
theorem XW (t:List UInt8)(w:World):Calls Tryz.prog 28 #[.string (ER .and_),.string (Ax t)] w (FY (Ae .and_ t) w):=by
 show Calls Tryz.prog 28 #[.string ⟨#[65,110,100]⟩,.string (Ax t)] w (FY (Ae .and_ t) w);have hx:Ae .and_ t=some [.not_,.andMore]:=by rfl
 rw[hx];refine (U9 (Ax t) w).mono ?_;rintro r w' ⟨rfl,rfl⟩;exact ⟨⟨_,_,rfl,AJ w _ 2 rfl (by unfold maxLen;omega)⟩,(Below.refl w.heap.size w).alloc NLN _⟩
theorem M4 (a:ByteArray)(w:World)(b:(a.toList== [97,110,100])=true):Calls Tryz.prog 28 #[.string ⟨#[65,110,100,77,111,114,101]⟩,.string a] w fun r w'=>r= .returned (.tuple #[.slice (some ⟨w.heap.size,0,none⟩) 3 3,.bool true])∧w'=w.alloc (.cells #[.string ⟨#[97,110,100]⟩,.string ⟨#[78,111,116]⟩,.string ⟨#[65,110,100,77,111,114,101]⟩] 9):=by
 go_enter Tryz.func28,Tryz.ntmps28
 go_wp2_with fail
 go_ret2
 exact ⟨rfl,rfl⟩
theorem M5 (a:ByteArray)(w:World)(b:(a.toList== [97,110,100])=false):Calls Tryz.prog 28 #[.string ⟨#[65,110,100,77,111,114,101]⟩,.string a] w fun r w'=>r= .returned (.tuple #[.slice none 0 0,.bool true])∧w'=w:=by
 go_enter Tryz.func28,Tryz.ntmps28
 go_wp2_with fail
 go_ret2
 exact ⟨rfl,rfl⟩
theorem QG (t:List UInt8)(w:World):Calls Tryz.prog 28 #[.string (ER .andMore),.string (Ax t)] w (FY (Ae .andMore t) w):=by
 show Calls Tryz.prog 28 #[.string ⟨#[65,110,100,77,111,114,101]⟩,.string (Ax t)] w (FY (Ae .andMore t) w);by_cases h0:t=MK
 ·have hx:Ae .andMore t=some [.t [97,110,100],.not_,.andMore]:=by rw[Ae,if_pos h0] <;> rfl
  rw[hx];refine (M4 (Ax t) w (by rw[CI];exact decide_eq_true h0)).mono ?_;rintro r w' ⟨rfl,rfl⟩;exact ⟨⟨_,_,rfl,AJ w _ 3 rfl (by unfold maxLen;omega)⟩,(Below.refl w.heap.size w).alloc NLN _⟩
 have hx:Ae .andMore t=some []:=by rw[Ae,if_neg h0] <;> rfl
 rw[hx];refine (M5 (Ax t) w (by rw[CI];exact decide_eq_false h0)).mono ?_;rintro r w' ⟨rfl,rfl⟩;exact ⟨⟨none,0,rfl,World.ownsRow_nil _ _ _ _⟩,BRN⟩
theorem Va (a:ByteArray)(w:World)(b:(a.toList== [110,111,116])=true):Calls Tryz.prog 28 #[.string ⟨#[78,111,116]⟩,.string a] w fun r w'=>r= .returned (.tuple #[.slice (some ⟨w.heap.size,0,none⟩) 2 2,.bool true])∧w'=w.alloc (.cells #[.string ⟨#[110,111,116]⟩,.string ⟨#[78,111,116]⟩] 9):=by
 go_enter Tryz.func28,Tryz.ntmps28
 go_wp2_with fail
 go_ret2
 exact ⟨rfl,rfl⟩
theorem Vb (a:ByteArray)(w:World)(b:(a.toList== [110,111,116])=false):Calls Tryz.prog 28 #[.string ⟨#[78,111,116]⟩,.string a] w fun r w'=>r= .returned (.tuple #[.slice (some ⟨w.heap.size,0,none⟩) 2 2,.bool true])∧w'=w.alloc (.cells #[.string ⟨#[83,117,109]⟩,.string ⟨#[67,111,109,112,97,114,101,100]⟩] 9):=by
 go_enter Tryz.func28,Tryz.ntmps28
 go_wp2_with fail
 go_ret2
 exact ⟨rfl,rfl⟩
theorem XX (t:List UInt8)(w:World):Calls Tryz.prog 28 #[.string (ER .not_),.string (Ax t)] w (FY (Ae .not_ t) w):=by
 show Calls Tryz.prog 28 #[.string ⟨#[78,111,116]⟩,.string (Ax t)] w (FY (Ae .not_ t) w);by_cases h0:t=Ee
 ·have hx:Ae .not_ t=some [.t [110,111,116],.not_]:=by rw[Ae,if_pos h0] <;> rfl
  rw[hx];refine (Va (Ax t) w (by rw[CI];exact decide_eq_true h0)).mono ?_;rintro r w' ⟨rfl,rfl⟩;exact ⟨⟨_,_,rfl,AJ w _ 2 rfl (by unfold maxLen;omega)⟩,(Below.refl w.heap.size w).alloc NLN _⟩
 have hx:Ae .not_ t=some [.sum,.compared]:=by rw[Ae,if_neg h0] <;> rfl
 rw[hx];refine (Vb (Ax t) w (by rw[CI];exact decide_eq_false h0)).mono ?_;rintro r w' ⟨rfl,rfl⟩;exact ⟨⟨_,_,rfl,AJ w _ 2 rfl (by unfold maxLen;omega)⟩,(Below.refl w.heap.size w).alloc NLN _⟩
theorem Vc (a:ByteArray)(w:World):Calls Tryz.prog 28 #[.string ⟨#[83,117,109]⟩,.string a] w fun r w'=>r= .returned (.tuple #[.slice (some ⟨w.heap.size,0,none⟩) 2 2,.bool true])∧w'=w.alloc (.cells #[.string ⟨#[84,101,114,109]⟩,.string ⟨#[83,117,109,77,111,114,101]⟩] 9):=by
 go_enter Tryz.func28,Tryz.ntmps28
 go_wp2_with fail
 go_ret2
 exact ⟨rfl,rfl⟩
theorem XY (t:List UInt8)(w:World):Calls Tryz.prog 28 #[.string (ER .sum),.string (Ax t)] w (FY (Ae .sum t) w):=by
 show Calls Tryz.prog 28 #[.string ⟨#[83,117,109]⟩,.string (Ax t)] w (FY (Ae .sum t) w);have hx:Ae .sum t=some [.term,.sumMore]:=by rfl
 rw[hx];refine (Vc (Ax t) w).mono ?_;rintro r w' ⟨rfl,rfl⟩;exact ⟨⟨_,_,rfl,AJ w _ 2 rfl (by unfold maxLen;omega)⟩,(Below.refl w.heap.size w).alloc NLN _⟩
theorem Ty (a:ByteArray)(w:World):Calls Tryz.prog 28 #[.string ⟨#[84,101,114,109]⟩,.string a] w fun r w'=>r= .returned (.tuple #[.slice (some ⟨w.heap.size,0,none⟩) 2 2,.bool true])∧w'=w.alloc (.cells #[.string ⟨#[85,110,97,114,121]⟩,.string ⟨#[84,101,114,109,77,111,114,101]⟩] 9):=by
 go_enter Tryz.func28,Tryz.ntmps28
 go_wp2_with fail
 go_ret2
 exact ⟨rfl,rfl⟩
theorem WJ (t:List UInt8)(w:World):Calls Tryz.prog 28 #[.string (ER .term),.string (Ax t)] w (FY (Ae .term t) w):=by
 show Calls Tryz.prog 28 #[.string ⟨#[84,101,114,109]⟩,.string (Ax t)] w (FY (Ae .term t) w);have hx:Ae .term t=some [.unary,.termMore]:=by rfl
 rw[hx];refine (Ty (Ax t) w).mono ?_;rintro r w' ⟨rfl,rfl⟩;exact ⟨⟨_,_,rfl,AJ w _ 2 rfl (by unfold maxLen;omega)⟩,(Below.refl w.heap.size w).alloc NLN _⟩
theorem QH (a:ByteArray)(w:World)(b:(a.toList== [45])=true):Calls Tryz.prog 28 #[.string ⟨#[85,110,97,114,121]⟩,.string a] w fun r w'=>r= .returned (.tuple #[.slice (some ⟨w.heap.size,0,none⟩) 2 2,.bool true])∧w'=w.alloc (.cells #[.string ⟨#[45]⟩,.string ⟨#[85,110,97,114,121]⟩] 9):=by
 go_enter Tryz.func28,Tryz.ntmps28
 go_wp2_with fail
 go_ret2
 exact ⟨rfl,rfl⟩
theorem QI (a:ByteArray)(w:World)(b:(a.toList== [45])=false):Calls Tryz.prog 28 #[.string ⟨#[85,110,97,114,121]⟩,.string a] w fun r w'=>r= .returned (.tuple #[.slice (some ⟨w.heap.size,0,none⟩) 1 1,.bool true])∧w'=w.alloc (.cells #[.string ⟨#[80,114,105,109,97,114,121]⟩] 9):=by
 go_enter Tryz.func28,Tryz.ntmps28
 go_wp2_with fail
 go_ret2
 exact ⟨rfl,rfl⟩
theorem Vd (t:List UInt8)(w:World):Calls Tryz.prog 28 #[.string (ER .unary),.string (Ax t)] w (FY (Ae .unary t) w):=by
 show Calls Tryz.prog 28 #[.string ⟨#[85,110,97,114,121]⟩,.string (Ax t)] w (FY (Ae .unary t) w);by_cases h0:t=AX
 ·have hx:Ae .unary t=some [.t [45],.unary]:=by rw[Ae,if_pos h0] <;> rfl
  rw[hx];refine (QH (Ax t) w (by rw[CI];exact decide_eq_true h0)).mono ?_;rintro r w' ⟨rfl,rfl⟩;exact ⟨⟨_,_,rfl,AJ w _ 2 rfl (by unfold maxLen;omega)⟩,(Below.refl w.heap.size w).alloc NLN _⟩
 have hx:Ae .unary t=some [.primary]:=by rw[Ae,if_neg h0] <;> rfl
 rw[hx];refine (QI (Ax t) w (by rw[CI];exact decide_eq_false h0)).mono ?_;rintro r w' ⟨rfl,rfl⟩;exact ⟨⟨_,_,rfl,AJ w _ 1 rfl (by unfold maxLen;omega)⟩,(Below.refl w.heap.size w).alloc NLN _⟩
theorem M6 (a:ByteArray)(w:World)(b:(a.toList== [40])=true):Calls Tryz.prog 28 #[.string ⟨#[80,114,105,109,97,114,121]⟩,.string a] w fun r w'=>r= .returned (.tuple #[.slice (some ⟨w.heap.size,0,none⟩) 3 3,.bool true])∧w'=w.alloc (.cells #[.string ⟨#[40]⟩,.string ⟨#[69,120,112,114]⟩,.string ⟨#[41]⟩] 9):=by
 go_enter Tryz.func28,Tryz.ntmps28
 go_wp2_with fail
 go_ret2
 exact ⟨rfl,rfl⟩
theorem M7 (a:ByteArray)(w:World)(b:(a.toList== [40])=false)(e1:(a.toList== [115,105,122,101])=true):Calls Tryz.prog 28 #[.string ⟨#[80,114,105,109,97,114,121]⟩,.string a] w fun r w'=>r= .returned (.tuple #[.slice (some ⟨w.heap.size,0,none⟩) 4 4,.bool true])∧w'=w.alloc (.cells #[.string ⟨#[115,105,122,101]⟩,.string ⟨#[40]⟩,.string ⟨#[69,120,112,114]⟩,.string ⟨#[41]⟩] 9):=by
 go_enter Tryz.func28,Tryz.ntmps28
 go_wp2_with fail
 go_ret2
 exact ⟨rfl,rfl⟩
theorem M8 (a:ByteArray)(w:World)(b:(a.toList== [40])=false)(e1:(a.toList== [115,105,122,101])=false)(e2:(a.toList== [123])=true):Calls Tryz.prog 28 #[.string ⟨#[80,114,105,109,97,114,121]⟩,.string a] w fun r w'=>r= .returned (.tuple #[.slice (some ⟨w.heap.size,0,none⟩) 2 2,.bool true])∧w'=w.alloc (.cells #[.string ⟨#[123]⟩,.string ⟨#[83,99,111,112,101,115]⟩] 9):=by
 go_enter Tryz.func28,Tryz.ntmps28
 go_wp2_with fail
 go_ret2
 exact ⟨rfl,rfl⟩
theorem M9 (a:ByteArray)(w:World)(b:(a.toList== [40])=false)(e1:(a.toList== [115,105,122,101])=false)(e2:(a.toList== [123])=false)(e3:(a.toList== [84,69,88,84])=true):Calls Tryz.prog 28 #[.string ⟨#[80,114,105,109,97,114,121]⟩,.string a] w fun r w'=>r= .returned (.tuple #[.slice (some ⟨w.heap.size,0,none⟩) 1 1,.bool true])∧w'=w.alloc (.cells #[.string a] 9):=by
 go_enter Tryz.func28,Tryz.ntmps28
 go_wp2_with fail
 go_ret2
 exact ⟨rfl,rfl⟩
theorem Na (a:ByteArray)(w:World)(b:(a.toList== [40])=false)(e1:(a.toList== [115,105,122,101])=false)(e2:(a.toList== [123])=false)(e3:(a.toList== [84,69,88,84])=false)(e4:(a.toList== [78,65,77,69])=true):Calls Tryz.prog 28 #[.string ⟨#[80,114,105,109,97,114,121]⟩,.string a] w fun r w'=>r= .returned (.tuple #[.slice (some ⟨w.heap.size,0,none⟩) 1 1,.bool true])∧w'=w.alloc (.cells #[.string a] 9):=by
 go_enter Tryz.func28,Tryz.ntmps28
 go_wp2_with fail
 go_ret2
 exact ⟨rfl,rfl⟩
theorem Nb (a:ByteArray)(w:World)(b:(a.toList== [40])=false)(e1:(a.toList== [115,105,122,101])=false)(e2:(a.toList== [123])=false)(e3:(a.toList== [84,69,88,84])=false)(e4:(a.toList== [78,65,77,69])=false)(e5:(a.toList== [116,114,117,101])=true):Calls Tryz.prog 28 #[.string ⟨#[80,114,105,109,97,114,121]⟩,.string a] w fun r w'=>r= .returned (.tuple #[.slice (some ⟨w.heap.size,0,none⟩) 1 1,.bool true])∧w'=w.alloc (.cells #[.string a] 9):=by
 go_enter Tryz.func28,Tryz.ntmps28
 go_wp2_with fail
 go_ret2
 exact ⟨rfl,rfl⟩
theorem Nc (a:ByteArray)(w:World)(b:(a.toList== [40])=false)(e1:(a.toList== [115,105,122,101])=false)(e2:(a.toList== [123])=false)(e3:(a.toList== [84,69,88,84])=false)(e4:(a.toList== [78,65,77,69])=false)(e5:(a.toList== [116,114,117,101])=false)(c:(a.toList== [102,97,108,115,101])=true):Calls Tryz.prog 28 #[.string ⟨#[80,114,105,109,97,114,121]⟩,.string a] w fun r w'=>r= .returned (.tuple #[.slice (some ⟨w.heap.size,0,none⟩) 1 1,.bool true])∧w'=w.alloc (.cells #[.string a] 9):=by
 go_enter Tryz.func28,Tryz.ntmps28
 go_wp2_with fail
 go_ret2
 exact ⟨rfl,rfl⟩
theorem Nf (a:ByteArray)(w:World)(b:(a.toList== [40])=false)(e1:(a.toList== [115,105,122,101])=false)(e2:(a.toList== [123])=false)(e3:(a.toList== [84,69,88,84])=false)(e4:(a.toList== [78,65,77,69])=false)(e5:(a.toList== [116,114,117,101])=false)(c:(a.toList== [102,97,108,115,101])=false):Calls Tryz.prog 28 #[.string ⟨#[80,114,105,109,97,114,121]⟩,.string a] w fun r w'=>r= .returned (.tuple #[.slice (some ⟨w.heap.size,0,none⟩) 1 1,.bool true])∧w'=w.alloc (.cells #[.string ⟨#[78,85,77]⟩] 9):=by
 go_enter Tryz.func28,Tryz.ntmps28
 go_wp2_with fail
 go_ret2
 exact ⟨rfl,rfl⟩
theorem QJ (t:List UInt8)(w:World):Calls Tryz.prog 28 #[.string (ER .primary),.string (Ax t)] w (FY (Ae .primary t) w):=by
 show Calls Tryz.prog 28 #[.string ⟨#[80,114,105,109,97,114,121]⟩,.string (Ax t)] w (FY (Ae .primary t) w);by_cases h0:t=AD
 ·have hx:Ae .primary t=some [.t [40],.expr,.t [41]]:=by rw[Ae,if_pos h0] <;> rfl
  rw[hx];refine (M6 (Ax t) w (by rw[CI];exact decide_eq_true h0)).mono ?_;rintro r w' ⟨rfl,rfl⟩;exact ⟨⟨_,_,rfl,AJ w _ 3 rfl (by unfold maxLen;omega)⟩,(Below.refl w.heap.size w).alloc NLN _⟩
 by_cases h1:t=BO
 ·have hx:Ae .primary t=some [.t [115,105,122,101],.t [40],.expr,.t [41]]:=by rw[Ae,if_neg h0,if_pos h1] <;> rfl
  rw[hx];refine (M7 (Ax t) w (by rw[CI];exact decide_eq_false h0) (by rw[CI];exact decide_eq_true h1)).mono ?_;rintro r w' ⟨rfl,rfl⟩;exact ⟨⟨_,_,rfl,AJ w _ 4 rfl (by unfold maxLen;omega)⟩,(Below.refl w.heap.size w).alloc NLN _⟩
 by_cases h2:t=BV
 ·have hx:Ae .primary t=some [.t [123],.scopes]:=by rw[Ae,if_neg h0,if_neg h1,if_pos h2] <;> rfl
  rw[hx];refine (M8 (Ax t) w (by rw[CI];exact decide_eq_false h0) (by rw[CI];exact decide_eq_false h1) (by rw[CI];exact decide_eq_true h2)).mono ?_;rintro r w' ⟨rfl,rfl⟩;exact ⟨⟨_,_,rfl,AJ w _ 2 rfl (by unfold maxLen;omega)⟩,(Below.refl w.heap.size w).alloc NLN _⟩
 by_cases h3:t=EC
 ·have hx:Ae .primary t=some [.t t]:=by rw[Ae,if_neg h0,if_neg h1,if_neg h2,if_pos (.inl h3)]
  rw[hx];refine (M9 (Ax t) w (by rw[CI];exact decide_eq_false h0) (by rw[CI];exact decide_eq_false h1) (by rw[CI];exact decide_eq_false h2) (by rw[CI];exact decide_eq_true h3)).mono ?_;rintro r w' ⟨rfl,rfl⟩;exact ⟨⟨_,_,rfl,AJ w _ 1 rfl (by unfold maxLen;omega)⟩,(Below.refl w.heap.size w).alloc NLN _⟩
 by_cases h4:t=DW
 ·have hx:Ae .primary t=some [.t t]:=by rw[Ae,if_neg h0,if_neg h1,if_neg h2,if_pos (.inr (.inl h4))]
  rw[hx];refine (Na (Ax t) w (by rw[CI];exact decide_eq_false h0) (by rw[CI];exact decide_eq_false h1) (by rw[CI];exact decide_eq_false h2) (by rw[CI];exact decide_eq_false h3) (by rw[CI];exact decide_eq_true h4)).mono ?_;rintro r w' ⟨rfl,rfl⟩;exact ⟨⟨_,_,rfl,AJ w _ 1 rfl (by unfold maxLen;omega)⟩,(Below.refl w.heap.size w).alloc NLN _⟩
 by_cases h5:t=Ca
 ·have hx:Ae .primary t=some [.t t]:=by rw[Ae,if_neg h0,if_neg h1,if_neg h2,if_pos (.inr (.inr (.inl h5)))]
  rw[hx];refine (Nb (Ax t) w (by rw[CI];exact decide_eq_false h0) (by rw[CI];exact decide_eq_false h1) (by rw[CI];exact decide_eq_false h2) (by rw[CI];exact decide_eq_false h3) (by rw[CI];exact decide_eq_false h4) (by rw[CI];exact decide_eq_true h5)).mono ?_;rintro r w' ⟨rfl,rfl⟩;exact ⟨⟨_,_,rfl,AJ w _ 1 rfl (by unfold maxLen;omega)⟩,(Below.refl w.heap.size w).alloc NLN _⟩
 by_cases h6:t=Bs
 ·have hx:Ae .primary t=some [.t t]:=by rw[Ae,if_neg h0,if_neg h1,if_neg h2,if_pos (.inr (.inr (.inr h6)))]
  rw[hx];refine (Nc (Ax t) w (by rw[CI];exact decide_eq_false h0) (by rw[CI];exact decide_eq_false h1) (by rw[CI];exact decide_eq_false h2) (by rw[CI];exact decide_eq_false h3) (by rw[CI];exact decide_eq_false h4) (by rw[CI];exact decide_eq_false h5) (by rw[CI];exact decide_eq_true h6)).mono ?_;rintro r w' ⟨rfl,rfl⟩;exact ⟨⟨_,_,rfl,AJ w _ 1 rfl (by unfold maxLen;omega)⟩,(Below.refl w.heap.size w).alloc NLN _⟩
 have hx:Ae .primary t=some [.t [78,85,77]]:=by rw[Ae,if_neg h0,if_neg h1,if_neg h2,if_neg (fun h=>by rcases h with h | h | h | h <;> first | exact h3 h | exact h4 h | exact h5 h | exact h6 h)] <;> rfl
 rw[hx];refine (Nf (Ax t) w (by rw[CI];exact decide_eq_false h0) (by rw[CI];exact decide_eq_false h1) (by rw[CI];exact decide_eq_false h2) (by rw[CI];exact decide_eq_false h3) (by rw[CI];exact decide_eq_false h4) (by rw[CI];exact decide_eq_false h5) (by rw[CI];exact decide_eq_false h6)).mono ?_;rintro r w' ⟨rfl,rfl⟩;exact ⟨⟨_,_,rfl,AJ w _ 1 rfl (by unfold maxLen;omega)⟩,(Below.refl w.heap.size w).alloc NLN _⟩
theorem OC (a:ByteArray)(w:World)(b:(a.toList== [125])=true):Calls Tryz.prog 28 #[.string ⟨#[83,99,111,112,101,115]⟩,.string a] w fun r w'=>r= .returned (.tuple #[.slice (some ⟨w.heap.size,0,none⟩) 1 1,.bool true])∧w'=w.alloc (.cells #[.string ⟨#[125]⟩] 9):=by
 go_enter Tryz.func28,Tryz.ntmps28
 go_wp2_with fail
 go_ret2
 exact ⟨rfl,rfl⟩
theorem OD (a:ByteArray)(w:World)(b:(a.toList== [125])=false):Calls Tryz.prog 28 #[.string ⟨#[83,99,111,112,101,115]⟩,.string a] w fun r w'=>r= .returned (.tuple #[.slice (some ⟨w.heap.size,0,none⟩) 2 2,.bool true])∧w'=w.alloc (.cells #[.string ⟨#[83,67,79,80,69]⟩,.string ⟨#[83,99,111,112,101,115,77,111,114,101]⟩] 9):=by
 go_enter Tryz.func28,Tryz.ntmps28
 go_wp2_with fail
 go_ret2
 exact ⟨rfl,rfl⟩
theorem TA (t:List UInt8)(w:World):Calls Tryz.prog 28 #[.string (ER .scopes),.string (Ax t)] w (FY (Ae .scopes t) w):=by
 show Calls Tryz.prog 28 #[.string ⟨#[83,99,111,112,101,115]⟩,.string (Ax t)] w (FY (Ae .scopes t) w);by_cases h0:t=BK
 ·have hx:Ae .scopes t=some [.t [125]]:=by rw[Ae,if_pos h0] <;> rfl
  rw[hx];refine (OC (Ax t) w (by rw[CI];exact decide_eq_true h0)).mono ?_;rintro r w' ⟨rfl,rfl⟩;exact ⟨⟨_,_,rfl,AJ w _ 1 rfl (by unfold maxLen;omega)⟩,(Below.refl w.heap.size w).alloc NLN _⟩
 have hx:Ae .scopes t=some [.scope,.scopesMore]:=by rw[Ae,if_neg h0] <;> rfl
 rw[hx];refine (OD (Ax t) w (by rw[CI];exact decide_eq_false h0)).mono ?_;rintro r w' ⟨rfl,rfl⟩;exact ⟨⟨_,_,rfl,AJ w _ 2 rfl (by unfold maxLen;omega)⟩,(Below.refl w.heap.size w).alloc NLN _⟩
theorem JX (a:ByteArray)(w:World)(b:(a.toList== [44])=true):Calls Tryz.prog 28 #[.string ⟨#[83,99,111,112,101,115,77,111,114,101]⟩,.string a] w fun r w'=>r= .returned (.tuple #[.slice (some ⟨w.heap.size,0,none⟩) 3 3,.bool true])∧w'=w.alloc (.cells #[.string ⟨#[44]⟩,.string ⟨#[83,67,79,80,69]⟩,.string ⟨#[83,99,111,112,101,115,77,111,114,101]⟩] 9):=by
 go_enter Tryz.func28,Tryz.ntmps28
 go_wp2_with fail
 go_ret2
 exact ⟨rfl,rfl⟩
theorem JY (a:ByteArray)(w:World)(b:(a.toList== [44])=false):Calls Tryz.prog 28 #[.string ⟨#[83,99,111,112,101,115,77,111,114,101]⟩,.string a] w fun r w'=>r= .returned (.tuple #[.slice (some ⟨w.heap.size,0,none⟩) 1 1,.bool true])∧w'=w.alloc (.cells #[.string ⟨#[125]⟩] 9):=by
 go_enter Tryz.func28,Tryz.ntmps28
 go_wp2_with fail
 go_ret2
 exact ⟨rfl,rfl⟩
theorem LU (t:List UInt8)(w:World):Calls Tryz.prog 28 #[.string (ER .scopesMore),.string (Ax t)] w (FY (Ae .scopesMore t) w):=by
 show Calls Tryz.prog 28 #[.string ⟨#[83,99,111,112,101,115,77,111,114,101]⟩,.string (Ax t)] w (FY (Ae .scopesMore t) w);by_cases h0:t=DA
 ·have hx:Ae .scopesMore t=some [.t [44],.scope,.scopesMore]:=by rw[Ae,if_pos h0] <;> rfl
  rw[hx];refine (JX (Ax t) w (by rw[CI];exact decide_eq_true h0)).mono ?_;rintro r w' ⟨rfl,rfl⟩;exact ⟨⟨_,_,rfl,AJ w _ 3 rfl (by unfold maxLen;omega)⟩,(Below.refl w.heap.size w).alloc NLN _⟩
 have hx:Ae .scopesMore t=some [.t [125]]:=by rw[Ae,if_neg h0] <;> rfl
 rw[hx];refine (JY (Ax t) w (by rw[CI];exact decide_eq_false h0)).mono ?_;rintro r w' ⟨rfl,rfl⟩;exact ⟨⟨_,_,rfl,AJ w _ 1 rfl (by unfold maxLen;omega)⟩,(Below.refl w.heap.size w).alloc NLN _⟩
theorem Fk (a:Option Addr)(n c:Nat)(b:List ByteArray)(s:ByteArray)(w:World)(h:Bg w a n c b):
  Calls Tryz.prog 53 #[.string s,.slice a n c] w fun e w'=>e= .returned (.bool (QK b s))∧w'=w:=by
 go_enter Tryz.func53,Tryz.ntmps53
 go_wp2_with fail
 refine (TB a n c b s w h).mono ?_;rintro e w' ⟨rfl,d⟩;rw[d];dsimp only;go_wp2_with fail
 go_ret
 exact ⟨rfl,rfl⟩
theorem KN (k:Nat)(t:List UInt8):QK ((AW k).map Ax) (Ax t)=decide (t∈AW k):=by
 by_cases h:t∈AW k
 ·rw[decide_eq_true h,Ip];exact List.mem_map.2 ⟨t,h,rfl⟩
 ·rw[decide_eq_false h,Bool.eq_false_iff,Ne,Ip];intro hm;obtain ⟨x,hx,he⟩:=List.mem_map.1 hm;exact h (by rw[← NS he];exact hx)
theorem E9 (w:World):Calls Tryz.prog 54 #[] w fun r w'=>r= .returned (.slice (some ⟨w.heap.size,0,none⟩) 6 6)∧w'=w.alloc (.cells #[.string ⟨#[61,61]⟩,.string ⟨#[33,61]⟩,.string ⟨#[60]⟩,.string ⟨#[60,61]⟩,.string ⟨#[105,110]⟩,.string ⟨#[119,105,116,104,105,110]⟩] 9):=by
 go_enter Tryz.func54,Tryz.ntmps54
 go_wp2_with fail
 go_ret
 exact ⟨rfl,rfl⟩
theorem EH (w:World):Bg (w.alloc (.cells #[.string ⟨#[61,61]⟩,.string ⟨#[33,61]⟩,.string ⟨#[60]⟩,.string ⟨#[60,61]⟩,.string ⟨#[105,110]⟩,.string ⟨#[119,105,116,104,105,110]⟩] 9)) (some ⟨w.heap.size,0,none⟩) 6 6 ((AW 4).map Ax):=
 Bg.of_owns (AJ w _ 6 rfl (by unfold maxLen;omega)) (fun j a=>by
  have:∀ j,j < 6→(EP ((AW 4).map Ax) j).size≤32:=by decide
  have:=this j a;unfold maxLen;omega)
theorem OG (t:List UInt8)(w:World):Calls Tryz.prog 28 #[.string (ER .compared),.string (Ax t)] w (FY (Ae .compared t) w):=by
 show Calls Tryz.prog 28 #[.string ⟨#[67,111,109,112,97,114,101,100]⟩,.string (Ax t)] w (FY (Ae .compared t) w);have f:=Ab (KN 4 t);have b:=(Below.refl w.heap.size w).alloc NLN (.cells #[.string ⟨#[61,61]⟩,.string ⟨#[33,61]⟩,.string ⟨#[60]⟩,.string ⟨#[60,61]⟩,.string ⟨#[105,110]⟩,.string ⟨#[119,105,116,104,105,110]⟩] 9);by_cases h:t∈AW 4
 ·have hx:Ae .compared t=some [.t t,.sum]:=if_pos h;rw[hx];have c:=Ab (decide_eq_true h);clear h hx;go_enter Tryz.func28,Tryz.ntmps28
  go_wp2_with fail
  refine (E9 w).mono ?_;rintro r d ⟨rfl,a⟩;rw[a];clear a;dsimp only;go_wp2_with fail
  refine (Fk _ _ _ _ _ _ (EH w)).mono ?_;rintro r d ⟨rfl,a⟩;rw[a,Aa f,Aa c];clear a;dsimp only;go_wp2_with fail
  go_ret2
  have O:=AJ (w.alloc (.cells #[.string ⟨#[61,61]⟩,.string ⟨#[33,61]⟩,.string ⟨#[60]⟩,.string ⟨#[60,61]⟩,.string ⟨#[105,110]⟩,.string ⟨#[119,105,116,104,105,110]⟩] 9)) #[.string (Ax t),.string ⟨#[83,117,109]⟩] 2 rfl (by unfold maxLen;omega);have g:=I8 (B':=w.heap.size) O (by simp);simp only[World.size_alloc] at g;exact ⟨⟨_,_,rfl,g⟩,b.alloc b.size _⟩
 ·have hx:Ae .compared t=some []:=if_neg h;rw[hx];have c:=Ab (decide_eq_false h);clear h hx;go_enter Tryz.func28,Tryz.ntmps28
  go_wp2_with fail
  refine (E9 w).mono ?_;rintro r d ⟨rfl,a⟩;rw[a];clear a;dsimp only;go_wp2_with fail
  refine (Fk _ _ _ _ _ _ (EH w)).mono ?_;rintro r d ⟨rfl,a⟩;rw[a,Aa f,Aa c];clear a;dsimp only;go_wp2_with fail
  go_ret2
  exact ⟨⟨none,0,rfl,World.ownsRow_nil _ _ _ _⟩,b⟩
theorem GS (w:World):Calls Tryz.prog 55 #[] w fun r w'=>r= .returned (.slice (some ⟨w.heap.size,0,none⟩) 4 4)∧w'=w.alloc (.cells #[.string ⟨#[43]⟩,.string ⟨#[45]⟩,.string ⟨#[124]⟩,.string ⟨#[92]⟩] 9):=by
 go_enter Tryz.func55,Tryz.ntmps55
 go_wp2_with fail
 go_ret
 exact ⟨rfl,rfl⟩
theorem FZ (w:World):Bg (w.alloc (.cells #[.string ⟨#[43]⟩,.string ⟨#[45]⟩,.string ⟨#[124]⟩,.string ⟨#[92]⟩] 9)) (some ⟨w.heap.size,0,none⟩) 4 4 ((AW 5).map Ax):=
 Bg.of_owns (AJ w _ 4 rfl (by unfold maxLen;omega)) (fun j a=>by
  have:∀ j,j < 4→(EP ((AW 5).map Ax) j).size≤32:=by decide
  have:=this j a;unfold maxLen;omega)
theorem QL (t:List UInt8)(w:World):Calls Tryz.prog 28 #[.string (ER .sumMore),.string (Ax t)] w (FY (Ae .sumMore t) w):=by
 show Calls Tryz.prog 28 #[.string ⟨#[83,117,109,77,111,114,101]⟩,.string (Ax t)] w (FY (Ae .sumMore t) w);have f:=Ab (KN 5 t);have b:=(Below.refl w.heap.size w).alloc NLN (.cells #[.string ⟨#[43]⟩,.string ⟨#[45]⟩,.string ⟨#[124]⟩,.string ⟨#[92]⟩] 9);by_cases h:t∈AW 5
 ·have hx:Ae .sumMore t=some [.t t,.term,.sumMore]:=if_pos h;rw[hx];have c:=Ab (decide_eq_true h);clear h hx;go_enter Tryz.func28,Tryz.ntmps28
  go_wp2_with fail
  refine (GS w).mono ?_;rintro r d ⟨rfl,a⟩;rw[a];clear a;dsimp only;go_wp2_with fail
  refine (Fk _ _ _ _ _ _ (FZ w)).mono ?_;rintro r d ⟨rfl,a⟩;rw[a,Aa f,Aa c];clear a;dsimp only;go_wp2_with fail
  go_ret2
  have O:=AJ (w.alloc (.cells #[.string ⟨#[43]⟩,.string ⟨#[45]⟩,.string ⟨#[124]⟩,.string ⟨#[92]⟩] 9)) #[.string (Ax t),.string ⟨#[84,101,114,109]⟩,.string ⟨#[83,117,109,77,111,114,101]⟩] 3 rfl (by unfold maxLen;omega);have g:=I8 (B':=w.heap.size) O (by simp);simp only[World.size_alloc] at g;exact ⟨⟨_,_,rfl,g⟩,b.alloc b.size _⟩
 ·have hx:Ae .sumMore t=some []:=if_neg h;rw[hx];have c:=Ab (decide_eq_false h);clear h hx;go_enter Tryz.func28,Tryz.ntmps28
  go_wp2_with fail
  refine (GS w).mono ?_;rintro r d ⟨rfl,a⟩;rw[a];clear a;dsimp only;go_wp2_with fail
  refine (Fk _ _ _ _ _ _ (FZ w)).mono ?_;rintro r d ⟨rfl,a⟩;rw[a,Aa f,Aa c];clear a;dsimp only;go_wp2_with fail
  go_ret2
  exact ⟨⟨none,0,rfl,World.ownsRow_nil _ _ _ _⟩,b⟩
theorem F7 (w:World):Calls Tryz.prog 56 #[] w fun r w'=>r= .returned (.slice (some ⟨w.heap.size,0,none⟩) 4 4)∧w'=w.alloc (.cells #[.string ⟨#[42]⟩,.string ⟨#[47]⟩,.string ⟨#[37]⟩,.string ⟨#[38]⟩] 9):=by
 go_enter Tryz.func56,Tryz.ntmps56
 go_wp2_with fail
 go_ret
 exact ⟨rfl,rfl⟩
theorem FE (w:World):Bg (w.alloc (.cells #[.string ⟨#[42]⟩,.string ⟨#[47]⟩,.string ⟨#[37]⟩,.string ⟨#[38]⟩] 9)) (some ⟨w.heap.size,0,none⟩) 4 4 ((AW 6).map Ax):=
 Bg.of_owns (AJ w _ 4 rfl (by unfold maxLen;omega)) (fun j a=>by
  have:∀ j,j < 4→(EP ((AW 6).map Ax) j).size≤32:=by decide
  have:=this j a;unfold maxLen;omega)
theorem OH (t:List UInt8)(w:World):Calls Tryz.prog 28 #[.string (ER .termMore),.string (Ax t)] w (FY (Ae .termMore t) w):=by
 show Calls Tryz.prog 28 #[.string ⟨#[84,101,114,109,77,111,114,101]⟩,.string (Ax t)] w (FY (Ae .termMore t) w);have f:=Ab (KN 6 t);have b:=(Below.refl w.heap.size w).alloc NLN (.cells #[.string ⟨#[42]⟩,.string ⟨#[47]⟩,.string ⟨#[37]⟩,.string ⟨#[38]⟩] 9);by_cases h:t∈AW 6
 ·have hx:Ae .termMore t=some [.t t,.unary,.termMore]:=if_pos h;rw[hx];have c:=Ab (decide_eq_true h);clear h hx;go_enter Tryz.func28,Tryz.ntmps28
  go_wp2_with fail
  refine (F7 w).mono ?_;rintro r d ⟨rfl,a⟩;rw[a];clear a;dsimp only;go_wp2_with fail
  refine (Fk _ _ _ _ _ _ (FE w)).mono ?_;rintro r d ⟨rfl,a⟩;rw[a,Aa f,Aa c];clear a;dsimp only;go_wp2_with fail
  go_ret2
  have O:=AJ (w.alloc (.cells #[.string ⟨#[42]⟩,.string ⟨#[47]⟩,.string ⟨#[37]⟩,.string ⟨#[38]⟩] 9)) #[.string (Ax t),.string ⟨#[85,110,97,114,121]⟩,.string ⟨#[84,101,114,109,77,111,114,101]⟩] 3 rfl (by unfold maxLen;omega);have g:=I8 (B':=w.heap.size) O (by simp);simp only[World.size_alloc] at g;exact ⟨⟨_,_,rfl,g⟩,b.alloc b.size _⟩
 ·have hx:Ae .termMore t=some []:=if_neg h;rw[hx];have c:=Ab (decide_eq_false h);clear h hx;go_enter Tryz.func28,Tryz.ntmps28
  go_wp2_with fail
  refine (F7 w).mono ?_;rintro r d ⟨rfl,a⟩;rw[a];clear a;dsimp only;go_wp2_with fail
  refine (Fk _ _ _ _ _ _ (FE w)).mono ?_;rintro r d ⟨rfl,a⟩;rw[a,Aa f,Aa c];clear a;dsimp only;go_wp2_with fail
  go_ret2
  exact ⟨⟨none,0,rfl,World.ownsRow_nil _ _ _ _⟩,b⟩
theorem WK (a b:ByteArray)(w:World)(c:(a.toList== [80,111,108,105,99,121])=false)(e1:(a.toList== [68,101,99,105,115,105,111,110])=false)(e2:(a.toList== [69,120,112,114])=false)(e3:(a.toList== [79,114,77,111,114,101])=false)(e4:(a.toList== [65,110,100])=false)(e5:(a.toList== [65,110,100,77,111,114,101])=false)(d:(a.toList== [78,111,116])=false)(f:(a.toList== [67,111,109,112,97,114,101,100])=false)(g:(a.toList== [83,117,109])=false)(h:(a.toList== [83,117,109,77,111,114,101])=false)(i:(a.toList== [84,101,114,109])=false)(j:(a.toList== [84,101,114,109,77,111,114,101])=false)(k:(a.toList== [85,110,97,114,121])=false)(l:(a.toList== [80,114,105,109,97,114,121])=false)(m:(a.toList== [83,99,111,112,101,115])=false)(n:(a.toList== [83,99,111,112,101,115,77,111,114,101])=false):Calls Tryz.prog 28 #[.string a,.string b] w fun r w'=>r= .returned (.tuple #[.slice none 0 0,.bool false])∧w'=w:=by
 go_enter Tryz.func28,Tryz.ntmps28
 go_wp2_with fail
 go_ret2
 exact ⟨rfl,rfl⟩
theorem Sl (s t:List UInt8)(hs:s ∉ [[80,111,108,105,99,121], [68,101,99,105,115,105,111,110], [69,120,112,114], [79,114,77,111,114,101], [65,110,100], [65,110,100,77,111,114,101], [78,111,116], [67,111,109,112,97,114,101,100], [83,117,109], [83,117,109,77,111,114,101], [84,101,114,109], [84,101,114,109,77,111,114,101], [85,110,97,114,121], [80,114,105,109,97,114,121], [83,99,111,112,101,115], [83,99,111,112,101,115,77,111,114,101]])(w:World):Calls Tryz.prog 28 #[.string (Ax s),.string (Ax t)] w (FY none w):=by
 have a:∀ u,u∈ [[80,111,108,105,99,121], [68,101,99,105,115,105,111,110], [69,120,112,114], [79,114,77,111,114,101], [65,110,100], [65,110,100,77,111,114,101], [78,111,116], [67,111,109,112,97,114,101,100], [83,117,109], [83,117,109,77,111,114,101], [84,101,114,109], [84,101,114,109,77,111,114,101], [85,110,97,114,121], [80,114,105,109,97,114,121], [83,99,111,112,101,115], [83,99,111,112,101,115,77,111,114,101]]→((Ax s).toList== u)=false:=fun u hu=>by rw[CI];exact decide_eq_false (fun e=>hs (by rw[e];exact hu))
 refine (WK (Ax s) (Ax t) w (a _ (by decide)) (a _ (by decide)) (a _ (by decide)) (a _ (by decide)) (a _ (by decide)) (a _ (by decide)) (a _ (by decide)) (a _ (by decide)) (a _ (by decide)) (a _ (by decide)) (a _ (by decide)) (a _ (by decide)) (a _ (by decide)) (a _ (by decide)) (a _ (by decide)) (a _ (by decide))).mono ?_;rintro r w' ⟨rfl,rfl⟩;exact ⟨rfl,BRN⟩
theorem KO (x:Sy)(hx:WL x)(t:List UInt8)(w:World):Calls Tryz.prog 28 #[.string (ER x),.string (Ax t)] w (FY (Ae x t) w):=by
 cases x with
 | policy=>exact Tu t w
 | decision=>exact Oy t w
 | expr=>exact WI t w
 | orMore=>exact Tx t w
 | and_=>exact XW t w
 | andMore=>exact QG t w
 | not_=>exact XX t w
 | compared=>exact OG t w
 | sum=>exact XY t w
 | sumMore=>exact QL t w
 | term=>exact WJ t w
 | termMore=>exact OH t w
 | unary=>exact Vd t w
 | primary=>exact QJ t w
 | scopes=>exact TA t w
 | scopesMore=>exact LU t w
 | scope=>exact Sl _ t (by decide) w
 | t s=>
  refine Sl s t ?_ w;have a:∀ u∈Ck ++ [Kk,EC,DW],u ∉ [[80,111,108,105,99,121], [68,101,99,105,115,105,111,110], [69,120,112,114], [79,114,77,111,114,101], [65,110,100], [65,110,100,77,111,114,101], [78,111,116], [67,111,109,112,97,114,101,100], [83,117,109], [83,117,109,77,111,114,101], [84,101,114,109], [84,101,114,109,77,111,114,101], [85,110,97,114,121], [80,114,105,109,97,114,121], [83,99,111,112,101,115], [83,99,111,112,101,115,77,111,114,101]]:=by decide
  refine a s ?_;rcases hx with h | h | h | h
  ·exact List.mem_append_left _ h
  ·rw[h];decide
  ·rw[h];decide
  ·rw[h];decide
end Go.Proofs.YtdldimphcpojoaaGreatDoor
