import Derived.Test.YtppafecmccdplaaGreatMXAA
open Go.Proofs.Tryz
open Go.Proofs.Tryz renaming prog->jL
namespace Go.Proofs.YtppafecmccdplaaGreat
set_option maxHeartbeats 800000
open Go.RowKit
theorem Kd (c:Int)(w:World):
  Calls jL 110 #[.int .u8 c] w fun e w'=>e= .returned (.bool (nmI c))/\w'=w:=by
 go_enter func110,ntmps110
 go_wp2
 all_goals
  go_ret
  refine⟨Ag ?_,rfl⟩;rw[zY]
  simp_all[nmI]
  try omega
theorem MK (c:Int)(w:World):
  Calls jL 88 #[.int .u8 c] w fun e w'=>e= .returned (.bool (nmI c))/\w'=w:=by
 go_enter func88,ntmps88
 go_wp2_with (go_at_call 108;refine(VG _ _).mono ?_;rintro e w' ⟨rfl,rfl⟩)
 all_goals
  go_ret
  refine⟨Ag ?_,rfl⟩;rw[zY]
  simp_all[nmI,dgI]
  try omega
theorem Im (s:ByteArray)(w:World)(hs:s.size<=maxLen):
  Calls jL 57 #[.string s] w fun e w'=>e= .returned (.bool (decide (s.size<=32)&&IJ s.data.toList))/\w'=w:=by
 unfold maxLen at hs;by_cases g:s.size<=32
 ·go_enter func57,ntmps57
  go_wp2
  go_loop [3,9] (fun _ i=>∃k:Nat,k<=s.size/\i= .int .i64 k/\IJ (s.data.toList.take k)=true) (fun _ i=>s.size-(intOf i).toNat)
  case atStart=>exact⟨0,zE _,rfl,rfl⟩
  case round=>
   obtain⟨k,hk,rfl,c⟩:=hrel;have d:=Ab c;clear c;by_cases f:k<s.size
   ·cases a:nmI ((s[k]).toNat:Int)
    ·have h:=Ab (Pg s k f a);have b:=Ab a;clear a;go_wp2_with (go_at_call 88;refine(MK _ _).mono ?_;rintro e w' ⟨rfl,rfl⟩;rw[Aa b])
     go_ret
     exact⟨Ag (by rw[Aa h];simp),rfl⟩
    ·have b:=Ab a;clear a;go_wp2_with (go_at_call 88;refine(MK _ _).mono ?_;rintro e w' ⟨rfl,rfl⟩;rw[Aa b])
     go_round
     case rel=>exact⟨k+1,by omega,by go_num,by rw[NP s k f,Re,Aa d,Aa b];rfl⟩
     case measure=>simp[intOf];omega
   ·go_wp2
    go_ret
    refine⟨Ag ?_,rfl⟩;have:=Aa d;rw[zf (by simp;omega)]at this;simp[this]
 ·go_enter func57,ntmps57
  go_wp2
  go_ret
  exact⟨Ag (by simp[g]),rfl⟩
theorem Fe (s:ByteArray)(w:World)(hs:s.size<=maxLen):
  Calls jL 91 #[.string s] w fun e w'=>e= .returned (.bool (vnB s))/\w'=w:=by
 unfold maxLen at hs;by_cases h1:s.size<1
 ·have h:s.size=0:=by omega
  go_enter func91,ntmps91
  go_wp2
  go_ret
  exact⟨Ag (by simp[vnB,h]),rfl⟩
 ·by_cases c:s.size<=32
  ·have j: ¬ ((s.size:Int)<1):=by omega
   have l: ¬ ((32 :Int)<(s.size:Int)):=by omega
   go_enter func91,ntmps91
   go_wp2
   go_loop [3] (fun i=>∃k:Nat,k<=s.size/\i= .int .i64 k/\IJ (s.data.toList.take k)=true) (fun i=>s.size-(intOf i).toNat)
   case atStart=>exact⟨0,zE _,rfl,rfl⟩
   case round=>
    obtain⟨k,hk,rfl,d⟩:=hrel;have f:=Ab d;clear d;by_cases g:k<s.size
    ·cases a:nmI ((s[k]).toNat:Int)
     ·have m:=Ab (Pg s k g a);have b:=Ab a;clear a;go_wp2_with (go_at_call 110;refine(Kd _ _).mono ?_;rintro e w' ⟨rfl,rfl⟩;rw[Aa b])
      go_ret
      exact⟨Ag (by rw[vnB,Aa m];simp),rfl⟩
     ·have b:=Ab a;clear a;go_wp2_with (go_at_call 110;refine(Kd _ _).mono ?_;rintro e w' ⟨rfl,rfl⟩;rw[Aa b])
      go_round
      case rel=>exact⟨k+1,by omega,by go_num,by rw[NP s k g,Re,Aa f,Aa b];rfl⟩
      case measure=>simp[intOf];omega
    ·go_wp2
     go_ret
     refine⟨Ag ?_,rfl⟩;have:=Aa f;rw[zf (by simp;omega)]at this;simp[vnB,this,c];omega
  ·have j: ¬ ((s.size:Int)<1):=by omega
   have l:((32 :Int)<(s.size:Int)):=by omega
   go_enter func91,ntmps91
   go_wp2
   go_ret
   exact⟨Ag (by simp[vnB,c]),rfl⟩
theorem Ke (s:ByteArray)(w:World)(hs:s.size<=maxLen):
  Calls jL 109 #[.string s] w fun e w'=>e= .returned (.bool (vnB s))/\w'=w:=by
 by_cases h1:s.size=0
 ·have he:s=ByteArray.empty:=by
   cases s with|mk d=>cases d with|mk l=>simp[ByteArray.size]at h1;subst h1;rfl
  subst he;go_enter func109,ntmps109
  go_wp2
  go_ret
  exact⟨rfl,rfl⟩
 ·have a:s.toList.isEmpty=false:=by
   rw[zy];cases s with|mk d=>cases d with|mk l=>simp[ByteArray.size]at h1|-;exact h1
  go_enter func109,ntmps109
  go_wp2_with (go_at_call 57;refine(Im _ _ hs).mono ?_;rintro e w' ⟨rfl,rfl⟩)
  go_ret
  refine⟨Ag ?_,rfl⟩;rw[vnB]
  congr 1
  rw[decide_eq_decide];omega
end Go.Proofs.YtppafecmccdplaaGreat
