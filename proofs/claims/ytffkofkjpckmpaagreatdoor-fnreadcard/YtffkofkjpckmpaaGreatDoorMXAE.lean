/-
  DgI, Names. Own work.
-/
import Derived.Test.YtffkofkjpckmpaaGreatDoorMXAC
import Derived.WalkKit
import Derived.WalkSpells
import Derived.WalkLawsBesides
namespace Go.Proofs.YtffkofkjpckmpaaGreatDoor
set_option maxHeartbeats 400000
open Go.RowKit
theorem Cm (c:Int)(w:World):
  Calls Tryz.prog 118 #[.int .u8 c] w fun e w'=>e= .returned (.bool (dgI c))∧w'=w:=by
 go_enter Tryz.func118,Tryz.ntmps118
 go_wp2
 all_goals
  go_ret
  refine ⟨Ah ?_,rfl⟩;rw[zO]
  simp_all[dgI]
  try omega
set_option maxHeartbeats 800000
theorem CA (c:Int)(w:World):
  Calls Tryz.prog 73 #[.int .u8 c] w fun e w'=>e= .returned (.bool (TG c))∧w'=w:=by
 go_enter Tryz.func73,Tryz.ntmps73
 go_wp2
 all_goals
  go_ret
  refine ⟨Ah ?_,rfl⟩;rw[zO]
  simp_all[TG]
  try omega
theorem ES (c:Int)(w:World):
  Calls Tryz.prog 103 #[.int .u8 c] w fun e w'=>e= .returned (.bool (TG c))∧w'=w:=by
 go_enter Tryz.func103,Tryz.ntmps103
 go_wp2_with (go_at_call 118;refine (Cm _ _).mono ?_;rintro e w' ⟨rfl,rfl⟩)
 all_goals
  go_ret
  refine ⟨Ah ?_,rfl⟩;rw[zO]
  simp_all[TG,dgI]
  try omega
theorem FY (s:ByteArray)(w:World)(hs:s.size≤maxLen):
  Calls Tryz.prog 56 #[.string s] w fun e w'=>e= .returned (.bool (decide (s.size≤32) && I1 s.data.toList))∧w'=w:=by
 unfold maxLen at hs;by_cases g:s.size≤32
 ·go_enter Tryz.func56,Tryz.ntmps56
  go_wp2
  go_loop [3,9] (fun _ i=>∃ k:Nat,k≤s.size∧i= .int .i64 k∧I1 (s.data.toList.take k)=true) (fun _ i=>s.size - (intOf i).toNat)
  case atStart=>exact ⟨0,zN _,rfl,rfl⟩
  case round=>
   obtain ⟨k,hk,rfl,c⟩:=hrel;have d:=Ab c;clear c;by_cases f:k < s.size
   ·cases a:TG ((s[k]).toNat:Int)
    ·have h:=Ab (Lx s k f a);have b:=Ab a;clear a;go_wp2_with (go_at_call 103;refine (ES _ _).mono ?_;rintro e w' ⟨rfl,rfl⟩;rw[Aa b])
     go_ret
     exact ⟨Ah (by rw[Aa h];simp),rfl⟩
    ·have b:=Ab a;clear a;go_wp2_with (go_at_call 103;refine (ES _ _).mono ?_;rintro e w' ⟨rfl,rfl⟩;rw[Aa b])
     go_round
     case rel=>exact ⟨k+1,by omega,by go_num,by rw[Iz s k f,MX,Aa d,Aa b];rfl⟩
     case measure=>simp[intOf];omega
   ·go_wp2
    go_ret
    refine ⟨Ah ?_,rfl⟩;have:=Aa d;rw[zk (by simp;omega)] at this;simp[this]
 ·go_enter Tryz.func56,Tryz.ntmps56
  have j: 32 < s.size:=by omega
  go_wp2
  go_ret
  exact ⟨Ah (by simp[g]),rfl⟩
theorem Fo (s:ByteArray)(w:World)(hs:s.size≤maxLen):
  Calls Tryz.prog 170 #[.string s] w fun e w'=>e= .returned (.bool (vnB s))∧w'=w:=by
 unfold maxLen at hs;by_cases h1:s.size < 1
 ·have h:s.size=0:=by omega
  go_enter Tryz.func170,Tryz.ntmps170
  go_wp2
  go_ret
  exact ⟨Ah (by simp[vnB,h]),rfl⟩
 ·by_cases c:s.size≤32
  ·have j: ¬ ((s.size:Int) < 1):=by omega
   have l: ¬ ((32 :Int) < (s.size:Int)):=by omega
   go_enter Tryz.func170,Tryz.ntmps170
   go_wp2
   go_loop [3] (fun i=>∃ k:Nat,k≤s.size∧i= .int .i64 k∧I1 (s.data.toList.take k)=true) (fun i=>s.size - (intOf i).toNat)
   case atStart=>exact ⟨0,zN _,rfl,rfl⟩
   case round=>
    obtain ⟨k,hk,rfl,d⟩:=hrel;have f:=Ab d;clear d;by_cases g:k < s.size
    ·cases a:TG ((s[k]).toNat:Int)
     ·have m:=Ab (Lx s k g a);have b:=Ab a;clear a;go_wp2_with (go_at_call 73;refine (CA _ _).mono ?_;rintro e w' ⟨rfl,rfl⟩;rw[Aa b])
      go_ret
      exact ⟨Ah (by rw[vnB,Aa m];simp),rfl⟩
     ·have b:=Ab a;clear a;go_wp2_with (go_at_call 73;refine (CA _ _).mono ?_;rintro e w' ⟨rfl,rfl⟩;rw[Aa b])
      go_round
      case rel=>exact ⟨k+1,by omega,by go_num,by rw[Iz s k g,MX,Aa f,Aa b];rfl⟩
      case measure=>simp[intOf];omega
    ·go_wp2
     go_ret
     refine ⟨Ah ?_,rfl⟩;have:=Aa f;rw[zk (by simp;omega)] at this;simp[vnB,this,c];omega
  ·have j: ¬ ((s.size:Int) < 1):=by omega
   have l:((32 :Int) < (s.size:Int)):=by omega
   go_enter Tryz.func170,Tryz.ntmps170
   go_wp2
   go_ret
   exact ⟨Ah (by simp[vnB,c]),rfl⟩
theorem H9 (s:ByteArray)(w:World)(hs:s.size≤maxLen):
  Calls Tryz.prog 138 #[.string s] w fun e w'=>e= .returned (.bool (vnB s))∧w'=w:=by
 by_cases h1:s.size=0
 ·have he:s=ByteArray.empty:=by
   cases s with | mk d=>cases d with | mk l=>simp[ByteArray.size] at h1;subst h1;rfl
  subst he;go_enter Tryz.func138,Tryz.ntmps138
  go_wp2
  go_ret
  exact ⟨rfl,rfl⟩
 ·have a:s.toList.isEmpty=false:=by
   rw[zZ];cases s with | mk d=>cases d with | mk l=>simp[ByteArray.size] at h1 ⊢;exact h1
  go_enter Tryz.func138,Tryz.ntmps138
  go_wp2_with (go_at_call 56;refine (FY _ _ hs).mono ?_;rintro e w' ⟨rfl,rfl⟩)
  go_ret
  refine ⟨Ah ?_,rfl⟩;rw[vnB]
  congr 1
  rw[decide_eq_decide];omega
end Go.Proofs.YtffkofkjpckmpaaGreatDoor
