/-
  The walks over names: ValidName, its parts. Own work.
-/
import Derived.Test.YtoplnhndilmlcaaGreatDoorMXAA
import Derived.WalkKit
import Derived.WalkSpells
import Derived.WalkLawsBesides
namespace Go.Proofs.YtoplnhndilmlcaaGreatDoor
set_option maxHeartbeats 800000
open Go.RowKit
theorem GF (c:Int)(w:World):
  Calls Tryz.prog 131 #[.int .u8 c] w fun e w'=>e= .returned (.bool (WA c))∧w'=w:=by
 go_enter Tryz.func131,Tryz.ntmps131
 go_wp2
 all_goals
  go_ret
  refine ⟨Ag ?_,rfl⟩;rw[Bool.eq_iff_iff]
  simp_all[WA]
  try omega
theorem El (c:Int)(w:World):
  Calls Tryz.prog 92 #[.int .u8 c] w fun e w'=>e= .returned (.bool (WA c))∧w'=w:=by
 go_enter Tryz.func92,Tryz.ntmps92
 go_wp2_with (go_at_call 106;refine (BL _ _).mono ?_;rintro e w' ⟨rfl,rfl⟩)
 all_goals
  go_ret
  refine ⟨Ag ?_,rfl⟩;rw[Bool.eq_iff_iff]
  simp_all[WA,dgI]
  try omega
theorem Fw (s:ByteArray)(w:World)(hs:s.size≤maxLen):
  Calls Tryz.prog 57 #[.string s] w fun e w'=>e= .returned (.bool (decide (s.size≤32) && Ic s.data.toList))∧w'=w:=by
 unfold maxLen at hs;by_cases g:s.size≤32
 ·go_enter Tryz.func57,Tryz.ntmps57
  go_wp2
  go_loop [3,9] (fun _ i=>∃ k:Nat,k≤s.size∧i= .int .i64 k∧Ic (s.data.toList.take k)=true) (fun _ i=>s.size - (intOf i).toNat)
  case atStart=>exact ⟨0,Nat.zero_le _,rfl,rfl⟩
  case round=>
   obtain ⟨k,hk,rfl,c⟩:=hrel;have d:=Ab c;clear c;by_cases f:k < s.size
   ·cases a:WA ((s[k]).toNat:Int)
    ·have h:=Ab (Ki s k f a);have b:=Ab a;clear a;go_wp2_with (go_at_call 92;refine (El _ _).mono ?_;rintro e w' ⟨rfl,rfl⟩;rw[Aa b])
     go_ret
     exact ⟨Ag (by rw[Aa h];simp),rfl⟩
    ·have b:=Ab a;clear a;go_wp2_with (go_at_call 92;refine (El _ _).mono ?_;rintro e w' ⟨rfl,rfl⟩;rw[Aa b])
     go_round
     case rel=>exact ⟨k+1,by omega,by go_num,by rw[JK s k f,Ma,Aa d,Aa b];rfl⟩
     case measure=>simp[intOf];omega
   ·go_wp2
    go_ret
    refine ⟨Ag ?_,rfl⟩;have:=Aa d;rw[List.take_of_length_le (by simp;omega)] at this;simp[this]
 ·go_enter Tryz.func57,Tryz.ntmps57
  have j: 32 < s.size:=by omega
  go_wp2
  go_ret
  exact ⟨Ag (by simp[g]),rfl⟩
theorem EJ (s:ByteArray)(w:World)(hs:s.size≤maxLen):
  Calls Tryz.prog 104 #[.string s] w fun e w'=>e= .returned (.bool (vnB s))∧w'=w:=by
 unfold maxLen at hs;by_cases h1:s.size < 1
 ·have h:s.size=0:=by omega
  go_enter Tryz.func104,Tryz.ntmps104
  go_wp2
  go_ret
  exact ⟨Ag (by simp[vnB,h]),rfl⟩
 ·by_cases c:s.size≤32
  ·have j: ¬ ((s.size:Int) < 1):=by omega
   have l: ¬ ((32 :Int) < (s.size:Int)):=by omega
   go_enter Tryz.func104,Tryz.ntmps104
   go_wp2
   go_loop [3] (fun i=>∃ k:Nat,k≤s.size∧i= .int .i64 k∧Ic (s.data.toList.take k)=true) (fun i=>s.size - (intOf i).toNat)
   case atStart=>exact ⟨0,Nat.zero_le _,rfl,rfl⟩
   case round=>
    obtain ⟨k,hk,rfl,d⟩:=hrel;have f:=Ab d;clear d;by_cases g:k < s.size
    ·cases a:WA ((s[k]).toNat:Int)
     ·have m:=Ab (Ki s k g a);have b:=Ab a;clear a;go_wp2_with (go_at_call 131;refine (GF _ _).mono ?_;rintro e w' ⟨rfl,rfl⟩;rw[Aa b])
      go_ret
      exact ⟨Ag (by rw[vnB,Aa m];simp),rfl⟩
     ·have b:=Ab a;clear a;go_wp2_with (go_at_call 131;refine (GF _ _).mono ?_;rintro e w' ⟨rfl,rfl⟩;rw[Aa b])
      go_round
      case rel=>exact ⟨k+1,by omega,by go_num,by rw[JK s k g,Ma,Aa f,Aa b];rfl⟩
      case measure=>simp[intOf];omega
    ·go_wp2
     go_ret
     refine ⟨Ag ?_,rfl⟩;have:=Aa f;rw[List.take_of_length_le (by simp;omega)] at this;simp[vnB,this,c];omega
  ·have j: ¬ ((s.size:Int) < 1):=by omega
   have l:((32 :Int) < (s.size:Int)):=by omega
   go_enter Tryz.func104,Tryz.ntmps104
   go_wp2
   go_ret
   exact ⟨Ag (by simp[vnB,c]),rfl⟩
theorem GG (s:ByteArray)(w:World)(hs:s.size≤maxLen):
  Calls Tryz.prog 125 #[.string s] w fun e w'=>e= .returned (.bool (vnB s))∧w'=w:=by
 by_cases h1:s.size=0
 ·have he:s=ByteArray.empty:=by
   cases s with | mk d=>cases d with | mk l=>simp[ByteArray.size] at h1;subst h1;rfl
  subst he;go_enter Tryz.func125,Tryz.ntmps125
  go_wp2
  go_ret
  exact ⟨rfl,rfl⟩
 ·have a:s.toList.isEmpty=false:=by
   rw[ByteArray.toList_eq];cases s with | mk d=>cases d with | mk l=>simp[ByteArray.size] at h1 ⊢;exact h1
  go_enter Tryz.func125,Tryz.ntmps125
  go_wp2_with (go_at_call 57;refine (Fw _ _ hs).mono ?_;rintro e w' ⟨rfl,rfl⟩)
  go_ret
  refine ⟨Ag ?_,rfl⟩;rw[vnB]
  congr 1
  rw[decide_eq_decide];omega
end Go.Proofs.YtoplnhndilmlcaaGreatDoor
