/-
  DgI, Names. Own work.
-/
import Derived.Test.YtchakjeegneeoaaGreatDoorMXAA
import Derived.WalkKit
import Derived.WalkSpells
import Derived.WalkLawsBesides
namespace Go.Proofs.YtchakjeegneeoaaGreatDoor
set_option maxHeartbeats 400000
open Go.RowKit
theorem Cm (c:Int)(w:World):
  Calls Tryz.prog 107 #[.int .u8 c] w fun e w'=>e= .returned (.bool (dgI c))∧w'=w:=by
 go_enter Tryz.func107,Tryz.ntmps107
 go_wp2
 all_goals
  go_ret
  refine ⟨Ag ?_,rfl⟩;rw[zP]
  simp_all[dgI]
  try omega
set_option maxHeartbeats 800000
theorem CF (c:Int)(w:World):
  Calls Tryz.prog 70 #[.int .u8 c] w fun e w'=>e= .returned (.bool (US c))∧w'=w:=by
 go_enter Tryz.func70,Tryz.ntmps70
 go_wp2
 all_goals
  go_ret
  refine ⟨Ag ?_,rfl⟩;rw[zP]
  simp_all[US]
  try omega
theorem Fh (c:Int)(w:World):
  Calls Tryz.prog 140 #[.int .u8 c] w fun e w'=>e= .returned (.bool (US c))∧w'=w:=by
 go_enter Tryz.func140,Tryz.ntmps140
 go_wp2_with (go_at_call 107;refine (Cm _ _).mono ?_;rintro e w' ⟨rfl,rfl⟩)
 all_goals
  go_ret
  refine ⟨Ag ?_,rfl⟩;rw[zP]
  simp_all[US,dgI]
  try omega
theorem Gm (s:ByteArray)(w:World)(hs:s.size≤maxLen):
  Calls Tryz.prog 128 #[.string s] w fun e w'=>e= .returned (.bool (decide (s.size≤32) && Jn s.data.toList))∧w'=w:=by
 unfold maxLen at hs;by_cases g:s.size≤32
 ·go_enter Tryz.func128,Tryz.ntmps128
  go_wp2
  go_loop [3,9] (fun _ i=>∃ k:Nat,k≤s.size∧i= .int .i64 k∧Jn (s.data.toList.take k)=true) (fun _ i=>s.size - (intOf i).toNat)
  case atStart=>exact ⟨0,zF _,rfl,rfl⟩
  case round=>
   obtain ⟨k,hk,rfl,c⟩:=hrel;have d:=Ab c;clear c;by_cases f:k < s.size
   ·cases a:US ((s[k]).toNat:Int)
    ·have h:=Ab (Md s k f a);have b:=Ab a;clear a;go_wp2_with (go_at_call 140;refine (Fh _ _).mono ?_;rintro e w' ⟨rfl,rfl⟩;rw[Aa b])
     go_ret
     exact ⟨Ag (by rw[Aa h];simp),rfl⟩
    ·have b:=Ab a;clear a;go_wp2_with (go_at_call 140;refine (Fh _ _).mono ?_;rintro e w' ⟨rfl,rfl⟩;rw[Aa b])
     go_round
     case rel=>exact ⟨k+1,by omega,by go_num,by rw[I7 s k f,Oj,Aa d,Aa b];rfl⟩
     case measure=>simp[intOf];omega
   ·go_wp2
    go_ret
    refine ⟨Ag ?_,rfl⟩;have:=Aa d;rw[zq (by simp;omega)] at this;simp[this]
 ·go_enter Tryz.func128,Tryz.ntmps128
  have j: 32 < s.size:=by omega
  go_wp2
  go_ret
  exact ⟨Ag (by simp[g]),rfl⟩
theorem FN (s:ByteArray)(w:World)(hs:s.size≤maxLen):
  Calls Tryz.prog 134 #[.string s] w fun e w'=>e= .returned (.bool (vnB s))∧w'=w:=by
 unfold maxLen at hs;by_cases h1:s.size < 1
 ·have h:s.size=0:=by omega
  go_enter Tryz.func134,Tryz.ntmps134
  go_wp2
  go_ret
  exact ⟨Ag (by simp[vnB,h]),rfl⟩
 ·by_cases c:s.size≤32
  ·have j: ¬ ((s.size:Int) < 1):=by omega
   have l: ¬ ((32 :Int) < (s.size:Int)):=by omega
   go_enter Tryz.func134,Tryz.ntmps134
   go_wp2
   go_loop [3] (fun i=>∃ k:Nat,k≤s.size∧i= .int .i64 k∧Jn (s.data.toList.take k)=true) (fun i=>s.size - (intOf i).toNat)
   case atStart=>exact ⟨0,zF _,rfl,rfl⟩
   case round=>
    obtain ⟨k,hk,rfl,d⟩:=hrel;have f:=Ab d;clear d;by_cases g:k < s.size
    ·cases a:US ((s[k]).toNat:Int)
     ·have m:=Ab (Md s k g a);have b:=Ab a;clear a;go_wp2_with (go_at_call 70;refine (CF _ _).mono ?_;rintro e w' ⟨rfl,rfl⟩;rw[Aa b])
      go_ret
      exact ⟨Ag (by rw[vnB,Aa m];simp),rfl⟩
     ·have b:=Ab a;clear a;go_wp2_with (go_at_call 70;refine (CF _ _).mono ?_;rintro e w' ⟨rfl,rfl⟩;rw[Aa b])
      go_round
      case rel=>exact ⟨k+1,by omega,by go_num,by rw[I7 s k g,Oj,Aa f,Aa b];rfl⟩
      case measure=>simp[intOf];omega
    ·go_wp2
     go_ret
     refine ⟨Ag ?_,rfl⟩;have:=Aa f;rw[zq (by simp;omega)] at this;simp[vnB,this,c];omega
  ·have j: ¬ ((s.size:Int) < 1):=by omega
   have l:((32 :Int) < (s.size:Int)):=by omega
   go_enter Tryz.func134,Tryz.ntmps134
   go_wp2
   go_ret
   exact ⟨Ag (by simp[vnB,c]),rfl⟩
theorem ID (s:ByteArray)(w:World)(hs:s.size≤maxLen):
  Calls Tryz.prog 157 #[.string s] w fun e w'=>e= .returned (.bool (vnB s))∧w'=w:=by
 by_cases h1:s.size=0
 ·have he:s=ByteArray.empty:=by
   cases s with | mk d=>cases d with | mk l=>simp[ByteArray.size] at h1;subst h1;rfl
  subst he;go_enter Tryz.func157,Tryz.ntmps157
  go_wp2
  go_ret
  exact ⟨rfl,rfl⟩
 ·have a:s.toList.isEmpty=false:=by
   rw[za];cases s with | mk d=>cases d with | mk l=>simp[ByteArray.size] at h1 ⊢;exact h1
  go_enter Tryz.func157,Tryz.ntmps157
  go_wp2_with (go_at_call 128;refine (Gm _ _ hs).mono ?_;rintro e w' ⟨rfl,rfl⟩)
  go_ret
  refine ⟨Ag ?_,rfl⟩;rw[vnB]
  congr 1
  rw[decide_eq_decide];omega
end Go.Proofs.YtchakjeegneeoaaGreatDoor
