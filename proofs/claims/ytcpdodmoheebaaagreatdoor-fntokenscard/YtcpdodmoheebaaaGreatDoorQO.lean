/-
  The model's levels and signs. Own work.
-/
import Derived.Test.YtcpdodmoheebaaaGreatDoorMXAK
import Derived.Test.YtcpdodmoheebaaaGreatDoorMXAH
namespace Go.Proofs.YtcpdodmoheebaaaGreatDoor
set_option maxRecDepth 100000
set_option maxHeartbeats 1600000
open Go.RowKit
set_option linter.unusedVariables false
theorem H7 (op:Int)(w:World)(a: 1≤op∧op≤27):
  Calls Tryz.prog 53 #[.int .i64 op] w fun e w'=>e= .returned (.int .i64 (BB op))∧w'=w:=by
 have:op=1∨op=2∨op=3∨op=4∨op=5∨op=6∨op=7∨op=8∨op=9∨op=10∨op=11∨op=12∨op=13∨op=14∨op=15∨op=16∨op=17∨op=18∨op=19∨op=20∨op=21∨op=22∨op=23∨op=24∨op=25∨op=26∨op=27:=by omega
 rcases this with rfl | rfl | rfl | rfl | rfl | rfl | rfl | rfl | rfl | rfl | rfl | rfl | rfl | rfl | rfl | rfl | rfl | rfl | rfl | rfl | rfl | rfl | rfl | rfl | rfl | rfl | rfl
 all_goals
  go_enter Tryz.func53,Tryz.ntmps53
  go_wp2
  go_ret
  exact ⟨rfl,rfl⟩
def Mu:Array Value:=(Hu.map Value.string).toArray
def sg (k:Nat):ByteArray:=Hu.getD k ⟨#[]⟩
theorem KA {k:Nat}(h:k < 16):Mu[k]? =some (.string (sg k)):=by
 match k,h with
 | 0,_=>rfl
 | 1,_=>rfl
 | 2,_=>rfl
 | 3,_=>rfl
 | 4,_=>rfl
 | 5,_=>rfl
 | 6,_=>rfl
 | 7,_=>rfl
 | 8,_=>rfl
 | 9,_=>rfl
 | 10,_=>rfl
 | 11,_=>rfl
 | 12,_=>rfl
 | 13,_=>rfl
 | 14,_=>rfl
 | 15,_=>rfl
 | k+16,h=>exact absurd h (by omega)
theorem Lq:∀ (j k:Fin 16),((sg k).data.toList==(sg j).data.toList)=decide (j=k):=by decide
theorem Mv {j k:Nat}(a:j < 16)(b:k < 16):((sg k).toList==(sg j).toList)=decide (j=k):=by
 rw [ByteArray.toList_eq,ByteArray.toList_eq]
 have:=Lq ⟨j,a⟩ ⟨k,b⟩
 simpa using this
theorem KB (k:Nat)(i:k < 16)(w:World):
  Calls Tryz.prog 73 #[.string (sg k)] w fun e w'=>e= .returned (.int .i64 (11+k))∧Below w.heap.size w w':=by
 have c:Ao (w.alloc (.cells #[.string ⟨#[43]⟩,.string ⟨#[45]⟩,.string ⟨#[42]⟩,.string ⟨#[47]⟩,.string ⟨#[37]⟩,.string ⟨#[124]⟩,.string ⟨#[38]⟩,.string ⟨#[92]⟩,.string ⟨#[61,61]⟩,.string ⟨#[33,61]⟩,.string ⟨#[60]⟩,.string ⟨#[60,61]⟩,.string ⟨#[105,110]⟩,.string ⟨#[119,105,116,104,105,110]⟩,.string ⟨#[97,110,100]⟩,.string ⟨#[111,114]⟩] 9)) w.heap.size Mu 9:=Ao.new w Mu 9
 have d:=(Below.refl w.heap.size w).alloc (Nat.le_refl _) (.cells #[.string ⟨#[43]⟩,.string ⟨#[45]⟩,.string ⟨#[42]⟩,.string ⟨#[47]⟩,.string ⟨#[37]⟩,.string ⟨#[124]⟩,.string ⟨#[38]⟩,.string ⟨#[92]⟩,.string ⟨#[61,61]⟩,.string ⟨#[33,61]⟩,.string ⟨#[60]⟩,.string ⟨#[60,61]⟩,.string ⟨#[105,110]⟩,.string ⟨#[119,105,116,104,105,110]⟩,.string ⟨#[97,110,100]⟩,.string ⟨#[111,114]⟩] 9)
 have f:=Ab (fun j (g:j < 16)=>Mv (k:=k) g i)
 generalize sg k=s at f ⊢
 go_enter Tryz.func73,Tryz.ntmps73
 go_wp2
 generalize w.alloc (.cells #[.string ⟨#[43]⟩,.string ⟨#[45]⟩,.string ⟨#[42]⟩,.string ⟨#[47]⟩,.string ⟨#[37]⟩,.string ⟨#[124]⟩,.string ⟨#[38]⟩,.string ⟨#[92]⟩,.string ⟨#[61,61]⟩,.string ⟨#[33,61]⟩,.string ⟨#[60]⟩,.string ⟨#[60,61]⟩,.string ⟨#[105,110]⟩,.string ⟨#[119,105,116,104,105,110]⟩,.string ⟨#[97,110,100]⟩,.string ⟨#[111,114]⟩] 9)=l at c d ⊢
 go_loop [7] (fun a=>∃ j:Nat,j≤k∧a= .int .i64 j) (fun a=>16 - (intOf a).toNat)
 case atStart=>exact ⟨0,by omega,rfl⟩
 case round=>
  obtain ⟨j,g,rfl⟩:=hrel
  have m:(j:Int) < 16:=by omega
  have hc:=(c.cell j).trans (KA (by omega))
  have h:=Aa f j (by omega)
  generalize sg j=x at hc h
  by_cases e:j=k
  ·rw [decide_eq_true e] at h
   have b:=Ab e
   clear e
   go_wp2
   go_ret
   exact ⟨by rw [← Aa b];rfl,d⟩
  ·rw [decide_eq_false e] at h
   have b:=Ab e
   clear e
   go_wp2
   go_round
   case rel=>exact ⟨j+1,by have:=Aa b;omega,by go_num⟩
   case measure=>simp [intOf];omega
theorem Ch (op:Int)(m: 11≤op∧op≤26)(w:World):
  Calls Tryz.prog 54 #[.int .i64 op] w fun e w'=>e= .returned (.string (A7 op))∧Below w.heap.size w w':=by
 obtain ⟨k,t,rfl⟩:∃ k:Nat,k < 16∧op=11+(k:Int):=⟨(op - 11).toNat,by omega,by omega⟩
 have g:Ao (w.alloc (.cells #[.string ⟨#[43]⟩,.string ⟨#[45]⟩,.string ⟨#[42]⟩,.string ⟨#[47]⟩,.string ⟨#[37]⟩,.string ⟨#[124]⟩,.string ⟨#[38]⟩,.string ⟨#[92]⟩,.string ⟨#[61,61]⟩,.string ⟨#[33,61]⟩,.string ⟨#[60]⟩,.string ⟨#[60,61]⟩,.string ⟨#[105,110]⟩,.string ⟨#[119,105,116,104,105,110]⟩,.string ⟨#[97,110,100]⟩,.string ⟨#[111,114]⟩] 9)) w.heap.size Mu 9:=Ao.new w Mu 9
 have a:=(Below.refl w.heap.size w).alloc (Nat.le_refl _) (.cells #[.string ⟨#[43]⟩,.string ⟨#[45]⟩,.string ⟨#[42]⟩,.string ⟨#[47]⟩,.string ⟨#[37]⟩,.string ⟨#[124]⟩,.string ⟨#[38]⟩,.string ⟨#[92]⟩,.string ⟨#[61,61]⟩,.string ⟨#[33,61]⟩,.string ⟨#[60]⟩,.string ⟨#[60,61]⟩,.string ⟨#[105,110]⟩,.string ⟨#[119,105,116,104,105,110]⟩,.string ⟨#[97,110,100]⟩,.string ⟨#[111,114]⟩] 9)
 have h:=Ab (show A7 (11+(k:Int))=sg k by rw [A7,sg];congr 1;omega)
 rw [Aa h]
 clear m h
 go_enter Tryz.func54,Tryz.ntmps54
 go_wp2_with fail
 have n:w.heap.size < (w.alloc (.cells #[.string ⟨#[43]⟩,.string ⟨#[45]⟩,.string ⟨#[42]⟩,.string ⟨#[47]⟩,.string ⟨#[37]⟩,.string ⟨#[124]⟩,.string ⟨#[38]⟩,.string ⟨#[92]⟩,.string ⟨#[61,61]⟩,.string ⟨#[33,61]⟩,.string ⟨#[60]⟩,.string ⟨#[60,61]⟩,.string ⟨#[105,110]⟩,.string ⟨#[119,105,116,104,105,110]⟩,.string ⟨#[97,110,100]⟩,.string ⟨#[111,114]⟩] 9)).heap.size:=by simp
 generalize w.alloc (.cells #[.string ⟨#[43]⟩,.string ⟨#[45]⟩,.string ⟨#[42]⟩,.string ⟨#[47]⟩,.string ⟨#[37]⟩,.string ⟨#[124]⟩,.string ⟨#[38]⟩,.string ⟨#[92]⟩,.string ⟨#[61,61]⟩,.string ⟨#[33,61]⟩,.string ⟨#[60]⟩,.string ⟨#[60,61]⟩,.string ⟨#[105,110]⟩,.string ⟨#[119,105,116,104,105,110]⟩,.string ⟨#[97,110,100]⟩,.string ⟨#[111,114]⟩] 9)=i at g a n ⊢
 go_loopw [7] (fun d wr=>∃ j:Nat,j≤k∧d= .int .i64 j∧Below i.heap.size i wr) (fun d _=>16 - (intOf d).toNat)
 case atStart=>exact ⟨0,by omega,rfl,Below.refl _ _⟩
 case round=>
  obtain ⟨j,u,rfl,b⟩:=hrel
  have v:(j:Int) < 16:=by omega
  have hc:=((g.after b (Nat.le_refl _)).cell j).trans (KA (by omega))
  have c:=Ab (KB j (by omega))
  have l:=b.size
  have y:=Ab (show sg k=sg k from rfl)
  by_cases e:j=k
  ·subst e
   obtain ⟨x,hx⟩:∃ x,x=sg j:=⟨_,rfl⟩
   rw [← hx] at hc c
   have o:=Ab hx
   clear hx
   go_wp2_with fail
   refine (Aa c _).mono ?_
   rintro r p ⟨rfl,f⟩
   have q:((11+(j:Int))== 11+(j:Int))=true:=beq_self_eq_true _
   dsimp only
   go_wp2_with fail
   go_ret
   exact ⟨by rw [← Aa o];rfl,(a.trans (b.mono a.size)).trans (f.mono (Nat.le_trans a.size l))⟩
  ·generalize sg j=x at hc c ⊢
   have q:((11+(j:Int))== 11+(k:Int))=false:=beq_eq_false_iff_ne.2 (by omega)
   have s:=Ab e
   clear e
   go_wp2_with fail
   refine (Aa c _).mono ?_
   rintro r p ⟨rfl,f⟩
   dsimp only
   go_wp2_with fail
   go_roundw
   case rel=>exact ⟨j+1,by have:=Aa s;omega,by go_num,b.trans (f.mono l)⟩
   case measure=>simp [intOf];omega
end Go.Proofs.YtcpdodmoheebaaaGreatDoor
