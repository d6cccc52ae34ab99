/-
  The walks over names: ValidName, its parts. Own work.
-/
import Derived.Test.YtcpdodmoheebaaaGreatDoorMXAA
import Derived.WalkKit
import Derived.WalkSpells
import Derived.WalkLawsBesides
namespace Go.Proofs.YtcpdodmoheebaaaGreatDoor
set_option maxHeartbeats 800000
open Go.RowKit
theorem A5 (c:Int)(w:World):
  Calls Tryz.prog 25 #[.int .u8 c] w fun e w'=>e= .returned (.bool (IP c))∧w'=w:=by
 go_enter Tryz.func25,Tryz.ntmps25
 go_wp2
 all_goals
  go_ret
  refine ⟨Ak ?_,rfl⟩
  rw [Bool.eq_iff_iff]
  simp_all [IP]
  try omega
theorem DH (c:Int)(w:World):
  Calls Tryz.prog 59 #[.int .u8 c] w fun e w'=>e= .returned (.bool (IP c))∧w'=w:=by
 go_enter Tryz.func59,Tryz.ntmps59
 go_wp2_with (go_at_call 38;refine (AW _ _).mono ?_;rintro e w' ⟨rfl,rfl⟩)
 all_goals
  go_ret
  refine ⟨Ak ?_,rfl⟩
  rw [Bool.eq_iff_iff]
  simp_all [IP,dgI]
  try omega
theorem Cg (s:ByteArray)(w:World)(hs:s.size≤maxLen):
  Calls Tryz.prog 88 #[.string s] w fun e w'=>e= .returned (.bool (vnB s))∧w'=w:=by
 unfold maxLen at hs
 by_cases h1:s.size < 1
 ·have i:s.size=0:=by omega
  go_enter Tryz.func88,Tryz.ntmps88
  go_wp2
  go_ret
  exact ⟨Ak (by simp [vnB,i]),rfl⟩
 ·by_cases d:s.size≤32
  ·have j: ¬ ((s.size:Int) < 1):=by omega
   have l: ¬ ((32 :Int) < (s.size:Int)):=by omega
   go_enter Tryz.func88,Tryz.ntmps88
   go_wp2
   go_loop [3] (fun c=>∃ k:Nat,k≤s.size∧c= .int .i64 k∧EA (s.data.toList.take k)=true) (fun c=>s.size - (intOf c).toNat)
   case atStart=>exact ⟨0,Nat.zero_le _,rfl,rfl⟩
   case round=>
    obtain ⟨k,n,rfl,f⟩:=hrel
    have g:=Ab f
    clear f
    by_cases h:k < s.size
    ·cases a:IP ((s[k]).toNat:Int)
     ·have m:=Ab (Hj s k h a)
      have b:=Ab a
      clear a
      go_wp2_with (go_at_call 25;refine (A5 _ _).mono ?_;rintro e w' ⟨rfl,rfl⟩;rw [Aa b])
      go_ret
      exact ⟨Ak (by rw [vnB,Aa m];simp),rfl⟩
     ·have b:=Ab a
      clear a
      go_wp2_with (go_at_call 25;refine (A5 _ _).mono ?_;rintro e w' ⟨rfl,rfl⟩;rw [Aa b])
      go_round
      case rel=>exact ⟨k+1,by omega,by go_num,by rw [Bv s k h,IQ,Aa g,Aa b];rfl⟩
      case measure=>simp [intOf];omega
    ·go_wp2
     go_ret
     refine ⟨Ak ?_,rfl⟩
     have:=Aa g
     rw [List.take_of_length_le (by simp;omega)] at this
     simp [vnB,this,d];omega
  ·have j: ¬ ((s.size:Int) < 1):=by omega
   have l:((32 :Int) < (s.size:Int)):=by omega
   go_enter Tryz.func88,Tryz.ntmps88
   go_wp2
   go_ret
   exact ⟨Ak (by simp [vnB,d]),rfl⟩
end Go.Proofs.YtcpdodmoheebaaaGreatDoor
