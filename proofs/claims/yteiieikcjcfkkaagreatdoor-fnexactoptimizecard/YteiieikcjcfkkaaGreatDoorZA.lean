import Derived.Test.YteiieikcjcfkkaaGreatDoorMXAD
open Go.Proofs.Tryz
open Go.Value renaming int->U,slice->Y,tuple->jO
open Go renaming World->Z,bodyPost_ret->jN,results->jR
open Go.Proofs.Tryz renaming prog->j4
namespace Go.Proofs.YteiieikcjcfkkaaGreatDoor
set_option maxRecDepth 100000
set_option maxHeartbeats 6400000
open Go.RowKit
set_option linter.unusedVariables false
def DH (op:Int):List Int×Int:=
 if op=1 then ([],2)
 else if op=2 then ([],3)
 else if op=3 then ([],1)
 else if op=4 then ([],4)
 else if op=8 then ([2],2)
 else if op=9 then ([1],1)
 else if op=10 then ([4],2)
 else if op=11 then ([2,2],2)
 else if op=12 then ([2,2],2)
 else if op=13 then ([2,2],2)
 else if op=14 then ([2,2],2)
 else if op=15 then ([2,2],2)
 else if op=16 then ([4,4],4)
 else if op=17 then ([4,4],4)
 else if op=18 then ([4,4],4)
 else if op=19 then ([0,0],1)
 else if op=20 then ([0,0],1)
 else if op=21 then ([2,2],1)
 else if op=22 then ([2,2],1)
 else if op=23 then ([3,4],1)
 else if op=24 then ([4,4],1)
 else if op=25 then ([1,1],1)
 else if op=26 then ([1,1],1)
 else if op=27 then ([1,0,0],0)
 else ([1,0,0],0)
theorem AfG (w:Z)(t:TypeId)(L:List Int)(a:L.length<=1048576):AK (w.alloc (.cells (L.map (U .i64)).toArray t)) (some ⟨w.heap.size,0,none⟩) L.length L.length L:=by
 refine⟨rfl,a,fun j b=>⟨w.heap.size,0,rfl,by simp,?_⟩⟩;rw[zU,(Ag.new w (L.map (U .i64)).toArray t).cell j];simp[b]
theorem AcR (w:Z):AK w none 0 0 []:=⟨rfl,by omega,fun j h=>absurd h (by simp)⟩
def Jb (op:Int):Prop:=(1<=op/\op<=4)\/(8<=op/\op<=27)
def AfH (op:Int) (w:Z) (r:Ending) (w':Z):Prop:=(∃x n c,r= .returned (jO #[Y x n c,U .i64 (DH op).2])/\AK w' x n c (DH op).1)/\Ah w w'
theorem AiT {fn:Func}{a:Array Value}{w:Z}{t:TypeId}(op:Int)(c:∀b:Z,(jR fn a).run j4 b= .ok (jO #[Y (some ⟨w.heap.size,0,none⟩) (DH op).1.length (DH op).1.length,U .i64 (DH op).2]) b)(d:(DH op).1.length<=3):bodyPost j4 fn (AfH op w) Exit.ret { tmps:=a,defers:= [] } (w.alloc (.cells ((DH op).1.map (U .i64)).toArray t)):=
 jN (c _) rfl ⟨⟨_,_,_,rfl,AfG w t _ (by omega)⟩,Av w _⟩
theorem AcS (op:Int)(h:Jb op)(w:Z):Calls j4 158 #[U .i64 op] w (AfH op w):=by
 have h:op=1\/op=2\/op=3\/op=4\/op=8\/op=9\/op=10\/op=11\/op=12\/op=13\/op=14\/op=15\/op=16\/op=17\/op=18\/op=19\/op=20\/op=21\/op=22\/op=23\/op=24\/op=25\/op=26\/op=27:=by unfold Jb at h;omega
 rcases h with rfl|rfl|rfl|rfl|h
 case' inr.inr.inr.inr=>
  rcases h with rfl|rfl|rfl|rfl|rfl|rfl|rfl|rfl|rfl|rfl|rfl|rfl|rfl|rfl|rfl|rfl|rfl|rfl|rfl|rfl
  all_goals
   go_enter func158,ntmps158
   go_wp2_with fail
   exact AiT _ (fun a=>by simp[jR,results158,go_sem,DH]) (by decide)
 all_goals
  go_enter func158,ntmps158
  go_wp2_with fail
  exact jN (v:= jO #[Y none 0 0,U .i64 (DH _).2]) (by simp[jR,results158,go_sem,DH]) rfl ⟨⟨_,_,_,rfl,AcR w⟩,BRN⟩
end Go.Proofs.YteiieikcjcfkkaaGreatDoor
