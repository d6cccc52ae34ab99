/-
  The walks over names: ValidName, its parts. Own work.
-/
import Derived.Test.YtdldimphcpojoaaGreatDoorMXAA
import Derived.WalkKit
import Derived.WalkSpells
import Derived.WalkLawsBesides
namespace Go.Proofs.YtdldimphcpojoaaGreatDoor
set_option maxHeartbeats 800000
open Go.RowKit
theorem Co (c:Int)(w:World):
  Calls Tryz.prog 52 #[.int .u8 c] w fun e w'=>e= .returned (.bool (Ra c))∧w'=w:=by
 go_enter Tryz.func52,Tryz.ntmps52
 go_wp2
 all_goals
  go_ret
  refine ⟨Ay ?_,rfl⟩;rw[Bool.eq_iff_iff]
  simp_all[Ra]
  try omega
theorem Iw (c:Int)(w:World):
  Calls Tryz.prog 98 #[.int .u8 c] w fun e w'=>e= .returned (.bool (Ra c))∧w'=w:=by
 go_enter Tryz.func98,Tryz.ntmps98
 go_wp2_with (go_at_call 70;refine (BZ _ _).mono ?_;rintro e w' ⟨rfl,rfl⟩)
 all_goals
  go_ret
  refine ⟨Ay ?_,rfl⟩;rw[Bool.eq_iff_iff]
  simp_all[Ra,dgI]
  try omega
theorem EK (s:ByteArray)(w:World)(hs:s.size≤maxLen):
  Calls Tryz.prog 125 #[.string s] w fun e w'=>e= .returned (.bool (vnB s))∧w'=w:=by
 unfold maxLen at hs;by_cases h1:s.size < 1
 ·have h:s.size=0:=by omega
  go_enter Tryz.func125,Tryz.ntmps125
  go_wp2
  go_ret
  exact ⟨Ay (by simp[vnB,h]),rfl⟩
 ·by_cases c:s.size≤32
  ·have j: ¬ ((s.size:Int) < 1):=by omega
   have l: ¬ ((32 :Int) < (s.size:Int)):=by omega
   go_enter Tryz.func125,Tryz.ntmps125
   go_wp2
   go_loop [3] (fun i=>∃ k:Nat,k≤s.size∧i= .int .i64 k∧JL (s.data.toList.take k)=true) (fun i=>s.size - (intOf i).toNat)
   case atStart=>exact ⟨0,Nat.zero_le _,rfl,rfl⟩
   case round=>
    obtain ⟨k,hk,rfl,d⟩:=hrel;have f:=Ab d;clear d;by_cases g:k < s.size
    ·cases a:Ra ((s[k]).toNat:Int)
     ·have m:=Ab (Pg s k g a);have b:=Ab a;clear a;go_wp2_with (go_at_call 52;refine (Co _ _).mono ?_;rintro e w' ⟨rfl,rfl⟩;rw[Aa b])
      go_ret
      exact ⟨Ay (by rw[vnB,Aa m];simp),rfl⟩
     ·have b:=Ab a;clear a;go_wp2_with (go_at_call 52;refine (Co _ _).mono ?_;rintro e w' ⟨rfl,rfl⟩;rw[Aa b])
      go_round
      case rel=>exact ⟨k+1,by omega,by go_num,by rw[Dm s k g,Rb,Aa f,Aa b];rfl⟩
      case measure=>simp[intOf];omega
    ·go_wp2
     go_ret
     refine ⟨Ay ?_,rfl⟩;have:=Aa f;rw[List.take_of_length_le (by simp;omega)] at this;simp[vnB,this,c];omega
  ·have j: ¬ ((s.size:Int) < 1):=by omega
   have l:((32 :Int) < (s.size:Int)):=by omega
   go_enter Tryz.func125,Tryz.ntmps125
   go_wp2
   go_ret
   exact ⟨Ay (by simp[vnB,c]),rfl⟩
end Go.Proofs.YtdldimphcpojoaaGreatDoor
