/-
  The walks over the program's scanner: letters, words, runs. Own work.
-/
import Derived.Test.YtcpdodmoheebaaaGreatDoorTS
namespace Go.Proofs.YtcpdodmoheebaaaGreatDoor
set_option maxHeartbeats 800000
open Go.RowKit
set_option linter.unusedVariables false
theorem AJ (c:Int)(w:World):
  Calls Tryz.prog 40 #[.int .u8 c] w fun e w'=>e= .returned (.bool (DO c))∧w'=w:=by
 go_enter Tryz.func40,Tryz.ntmps40
 go_wp2
 all_goals
  go_ret
  refine ⟨Ak ?_,rfl⟩
  rw [Bool.eq_iff_iff]
  simp_all [DO]
  try omega
theorem DQ (c:Int)(w:World):
  Calls Tryz.prog 57 #[.int .u8 c] w fun e w'=>e= .returned (.bool (Kn c))∧w'=w:=by
 cases h1:DO c
 ·cases h2:dgI c
  ·go_enter Tryz.func57,Tryz.ntmps57
   go_wp2_with (first | (go_at_call 40;refine (AJ _ _).mono ?_;rintro e w' ⟨rfl,rfl⟩;rw [h1]) | (go_at_call 38;refine (AW _ _).mono ?_;rintro e w' ⟨rfl,rfl⟩;rw [h2]))
   go_ret
   refine ⟨Ak ?_,rfl⟩
   rw [Kn,h1,h2];simp;rfl
  ·go_enter Tryz.func57,Tryz.ntmps57
   go_wp2_with (first | (go_at_call 40;refine (AJ _ _).mono ?_;rintro e w' ⟨rfl,rfl⟩;rw [h1]) | (go_at_call 38;refine (AW _ _).mono ?_;rintro e w' ⟨rfl,rfl⟩;rw [h2]))
   go_ret
   refine ⟨Ak ?_,rfl⟩
   rw [Kn,h1,h2];simp
 ·go_enter Tryz.func57,Tryz.ntmps57
  go_wp2_with (go_at_call 40;refine (AJ _ _).mono ?_;rintro e w' ⟨rfl,rfl⟩;rw [h1])
  go_ret
  refine ⟨Ak ?_,rfl⟩
  rw [Kn,h1];simp
theorem KM (s:ByteArray)(w:World)(hs:s.size≤maxLen):
  Calls Tryz.prog 55 #[.string s,.func (Fn.func 38) #[] #[]] w fun e w'=>e= .returned (.int .i64 (Ap AU (Ad s):Nat))∧w'=w:=by
 unfold maxLen at hs
 rw [← C5]
 go_enter Tryz.func55,Tryz.ntmps55
 go_wp2
 go_loop [5] (fun c=>∃ k:Nat,k≤s.size∧c= .int .i64 k∧Bl AU s 0=Bl AU s k) (fun c=>s.size - (intOf c).toNat)
 case atStart=>exact ⟨0,Nat.zero_le _,rfl,rfl⟩
 case round=>
  obtain ⟨k,i,rfl,he⟩:=hrel
  have d:=Ab he
  clear he
  by_cases g:k < s.size
  ·have h:(k:Int) < (s.size:Int):=by omega
   cases a:AU s[k]
   ·have b:=Ab (BH g a)
    have f:=Ab (show dgI (s[k].toNat:Int)=false from a)
    clear a
    go_wp2_with (go_at_call 38;refine (AW _ _).mono ?_;rintro e w' ⟨rfl,rfl⟩;rw [Aa f])
    go_ret
    exact ⟨BW (by rw [Aa d,Aa b]),rfl⟩
   ·have b:=Ab (BG g a)
    have f:=Ab (show dgI (s[k].toNat:Int)=true from a)
    clear a
    go_wp2_with (go_at_call 38;refine (AW _ _).mono ?_;rintro e w' ⟨rfl,rfl⟩;rw [Aa f])
    go_round
    case rel=>exact ⟨k+1,by omega,by go_num,by rw [Aa d,Aa b]⟩
    case measure=>simp [intOf];omega
  ·have b:=Ab (Cf (p:=AU) (s:=s) (j:=k) (by omega))
   have h: ¬ ((k:Int) < (s.size:Int)):=by omega
   go_wp2
   go_ret
   exact ⟨BW (by rw [Aa d,Aa b]),rfl⟩
theorem KN (s:ByteArray)(w:World)(hs:s.size≤maxLen):
  Calls Tryz.prog 55 #[.string s,.func (Fn.func 57) #[] #[]] w fun e w'=>e= .returned (.int .i64 (Ap BU (Ad s):Nat))∧w'=w:=by
 unfold maxLen at hs
 rw [← C5]
 go_enter Tryz.func55,Tryz.ntmps55
 go_wp2
 go_loop [5] (fun c=>∃ k:Nat,k≤s.size∧c= .int .i64 k∧Bl BU s 0=Bl BU s k) (fun c=>s.size - (intOf c).toNat)
 case atStart=>exact ⟨0,Nat.zero_le _,rfl,rfl⟩
 case round=>
  obtain ⟨k,i,rfl,he⟩:=hrel
  have d:=Ab he
  clear he
  by_cases g:k < s.size
  ·have h:(k:Int) < (s.size:Int):=by omega
   cases a:BU s[k]
   ·have b:=Ab (BH g a)
    have f:=Ab (show Kn (s[k].toNat:Int)=false from a)
    clear a
    go_wp2_with (go_at_call 57;refine (DQ _ _).mono ?_;rintro e w' ⟨rfl,rfl⟩;rw [Aa f])
    go_ret
    exact ⟨BW (by rw [Aa d,Aa b]),rfl⟩
   ·have b:=Ab (BG g a)
    have f:=Ab (show Kn (s[k].toNat:Int)=true from a)
    clear a
    go_wp2_with (go_at_call 57;refine (DQ _ _).mono ?_;rintro e w' ⟨rfl,rfl⟩;rw [Aa f])
    go_round
    case rel=>exact ⟨k+1,by omega,by go_num,by rw [Aa d,Aa b]⟩
    case measure=>simp [intOf];omega
  ·have b:=Ab (Cf (p:=BU) (s:=s) (j:=k) (by omega))
   have h: ¬ ((k:Int) < (s.size:Int)):=by omega
   go_wp2
   go_ret
   exact ⟨BW (by rw [Aa d,Aa b]),rfl⟩
theorem KO (s:ByteArray)(w:World)(hs:s.size≤maxLen):
  Calls Tryz.prog 55 #[.string s,.func (Fn.func 59) #[] #[]] w fun e w'=>e= .returned (.int .i64 (Ap Dw (Ad s):Nat))∧w'=w:=by
 unfold maxLen at hs
 rw [← C5]
 go_enter Tryz.func55,Tryz.ntmps55
 go_wp2
 go_loop [5] (fun c=>∃ k:Nat,k≤s.size∧c= .int .i64 k∧Bl Dw s 0=Bl Dw s k) (fun c=>s.size - (intOf c).toNat)
 case atStart=>exact ⟨0,Nat.zero_le _,rfl,rfl⟩
 case round=>
  obtain ⟨k,i,rfl,he⟩:=hrel
  have d:=Ab he
  clear he
  by_cases g:k < s.size
  ·have h:(k:Int) < (s.size:Int):=by omega
   cases a:Dw s[k]
   ·have b:=Ab (BH g a)
    have f:=Ab (show IP (s[k].toNat:Int)=false from a)
    clear a
    go_wp2_with (go_at_call 59;refine (DH _ _).mono ?_;rintro e w' ⟨rfl,rfl⟩;rw [Aa f])
    go_ret
    exact ⟨BW (by rw [Aa d,Aa b]),rfl⟩
   ·have b:=Ab (BG g a)
    have f:=Ab (show IP (s[k].toNat:Int)=true from a)
    clear a
    go_wp2_with (go_at_call 59;refine (DH _ _).mono ?_;rintro e w' ⟨rfl,rfl⟩;rw [Aa f])
    go_round
    case rel=>exact ⟨k+1,by omega,by go_num,by rw [Aa d,Aa b]⟩
    case measure=>simp [intOf];omega
  ·have b:=Ab (Cf (p:=Dw) (s:=s) (j:=k) (by omega))
   have h: ¬ ((k:Int) < (s.size:Int)):=by omega
   go_wp2
   go_ret
   exact ⟨BW (by rw [Aa d,Aa b]),rfl⟩
end Go.Proofs.YtcpdodmoheebaaaGreatDoor
