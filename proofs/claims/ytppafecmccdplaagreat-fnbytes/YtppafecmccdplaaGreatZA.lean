import Derived.Test.YtppafecmccdplaaGreatMXAC
open Go.Proofs.Tryz
open Go renaming World->Z
open Go.Proofs.Tryz renaming prog->jL
namespace Go.Proofs.YtppafecmccdplaaGreat
set_option maxRecDepth 100000
set_option maxHeartbeats 6400000
open Go.RowKit
set_option linter.unusedVariables false
def CG (op:Int):List Int×Int:=
 if op=1 then ([],2)
 else if op=2 then ([],3)
 else if op=3 then ([],1)
 else if op=4 then ([],4)
 else if op=8 then ([2],2)
 else if op=9 then ([1],1)
 else if op=10 then ([4],2)
 else if op=11 then ([2,2],2)
 else if op=12 then ([2,2],2)
 else if op=13 then ([2,2],2)
 else if op=14 then ([2,2],2)
 else if op=15 then ([2,2],2)
 else if op=16 then ([4,4],4)
 else if op=17 then ([4,4],4)
 else if op=18 then ([4,4],4)
 else if op=19 then ([0,0],1)
 else if op=20 then ([0,0],1)
 else if op=21 then ([2,2],1)
 else if op=22 then ([2,2],1)
 else if op=23 then ([3,4],1)
 else if op=24 then ([4,4],1)
 else if op=25 then ([1,1],1)
 else if op=26 then ([1,1],1)
 else if op=27 then ([1,0,0],0)
 else ([1,0,0],0)
theorem Ad3 (w:Z)(t:TypeId)(L:List Int)(a:L.length<=1048576):Em (w.alloc (.cells (L.map (Value.int .i64)).toArray t)) (some ⟨w.heap.size,0,none⟩) L.length L.length L:=by
 refine⟨rfl,a,fun j b=>⟨w.heap.size,0,rfl,by simp,?_⟩⟩;rw[zP,(Ah.new w (L.map (Value.int .i64)).toArray t).cell j];simp[b]
theorem Abx (w:Z):Em w none 0 0 []:=⟨rfl,by omega,fun j h=>absurd h (by simp)⟩
def I6 (op:Int):Prop:=(1<=op/\op<=4)\/(8<=op/\op<=27)
def Ad4 (op:Int) (w:Z) (r:Ending) (w':Z):Prop:=(∃x n c,r= .returned (.tuple #[.slice x n c,.int .i64 (CG op).2])/\Em w' x n c (CG op).1)/\An w w'
theorem AgX {a:Func}{b:Array Value}{w:Z}{t:TypeId}(op:Int)(d:∀c:Z,(results a b).run jL c= .ok (.tuple #[.slice (some ⟨w.heap.size,0,none⟩) (CG op).1.length (CG op).1.length,.int .i64 (CG op).2]) c)(f:(CG op).1.length<=3):bodyPost jL a (Ad4 op w) Exit.ret { tmps:=b,defers:= [] } (w.alloc (.cells ((CG op).1.map (Value.int .i64)).toArray t)):=
 bodyPost_ret (d _) rfl ⟨⟨_,_,_,rfl,Ad3 w t _ (by omega)⟩,AN w _⟩
theorem ST (op:Int)(h:I6 op)(w:Z):Calls jL 82 #[.int .i64 op] w (Ad4 op w):=by
 have h:op=1\/op=2\/op=3\/op=4\/op=8\/op=9\/op=10\/op=11\/op=12\/op=13\/op=14\/op=15\/op=16\/op=17\/op=18\/op=19\/op=20\/op=21\/op=22\/op=23\/op=24\/op=25\/op=26\/op=27:=by unfold I6 at h;omega
 rcases h with rfl|rfl|rfl|rfl|h
 case' inr.inr.inr.inr=>
  rcases h with rfl|rfl|rfl|rfl|rfl|rfl|rfl|rfl|rfl|rfl|rfl|rfl|rfl|rfl|rfl|rfl|rfl|rfl|rfl|rfl
  all_goals
   go_enter func82,ntmps82
   go_wp2_with fail
   exact AgX _ (fun a=>by simp[results,results82,go_sem,CG]) (by decide)
 all_goals
  go_enter func82,ntmps82
  go_wp2
  exact bodyPost_ret (v:= .tuple #[.slice none 0 0,.int .i64 (CG _).2]) (by simp[results,results82,go_sem,CG]) rfl ⟨⟨_,_,_,rfl,Abx w⟩,BRN⟩
end Go.Proofs.YtppafecmccdplaaGreat
