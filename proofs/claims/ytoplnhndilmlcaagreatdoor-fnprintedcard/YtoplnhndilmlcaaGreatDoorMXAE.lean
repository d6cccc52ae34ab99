/-
  TS, TI. Own work.
-/
import Derived.Test.YtoplnhndilmlcaaGreatDoorMXAB
import Derived.Test.YtoplnhndilmlcaaGreatDoorNames
namespace Go.Proofs.YtoplnhndilmlcaaGreatDoor
set_option maxHeartbeats 1600000
open Go.RowKit
set_option linter.unusedVariables false
theorem Cl (c:Int)(w:World):
  Calls Tryz.prog 72 #[.int .u8 c] w fun e w'=>e= .returned (.bool (KW c))∧w'=w:=by
 go_enter Tryz.func72,Tryz.ntmps72
 go_wp2
 all_goals
  go_ret
  refine ⟨Ag ?_,rfl⟩;rw[Bool.eq_iff_iff]
  simp_all[KW]
  try omega
theorem GM (c:Int)(w:World):
  Calls Tryz.prog 105 #[.int .u8 c] w fun e w'=>e= .returned (.bool (dgI c))∧w'=w:=by
 go_enter Tryz.func105,Tryz.ntmps105
 go_wp2
 all_goals
  go_ret
  refine ⟨Ag ?_,rfl⟩;rw[Bool.eq_iff_iff]
  simp_all[dgI]
  try omega
theorem YL {c:UInt8}(h:DJ c=true):KW (c.toNat:Int)=true∨(KW (c.toNat:Int)=false∧dgI (c.toNat:Int)=true)∨(KW (c.toNat:Int)=false∧dgI (c.toNat:Int)=false∧(c.toNat:Int)=95):=by
 rw[DJ,VU] at h;cases h1:KW (c.toNat:Int)
 ·cases h2:dgI (c.toNat:Int)
  ·rw[h1,h2] at h;simp at h;exact .inr (.inr ⟨rfl,rfl,by omega⟩)
  ·exact .inr (.inl ⟨rfl,rfl⟩)
 ·exact .inl rfl
theorem Wl {c:UInt8}(h:DJ c=false):KW (c.toNat:Int)=false∧dgI (c.toNat:Int)=false∧¬ (c.toNat:Int)=95:=by
 rw[DJ,VU] at h;simp only[Bool.or_eq_false_iff,decide_eq_false_iff_not] at h;exact ⟨h.1.1,h.1.2,h.2⟩
theorem Oq (s:ByteArray)(j:Nat)(w:World)(hs:s.size≤maxLen)(h:j≤s.size):
  Calls Tryz.prog 73 #[.string s,.int .i64 j] w fun e w'=>e= .returned (.int .i64 (Gc DJ s j:Nat))∧w'=w:=by
 unfold maxLen at hs;go_enter Tryz.func73,Tryz.ntmps73
 go_wp2
 go_loop [1] (fun i=>∃ k:Nat,j≤k∧k≤s.size∧i= .int .i64 k∧Gc DJ s j=Gc DJ s k) (fun i=>s.size - (intOf i).toNat)
 case atStart=>exact ⟨j,NLN,h,rfl,rfl⟩
 case round=>
  obtain ⟨k,m,hk,rfl,he⟩:=hrel;have c:=Ab he;clear he;by_cases g:k < s.size
  ·have l:(k:Int) < (s.size:Int):=by omega
   cases a:DJ s[k]
   ·have b:=Ab (Hz g a);obtain ⟨h1,h2,h3⟩:=Wl a;have d:=Ab h1;have f:=Ab h2;clear a h1 h2;go_wp2_with (first | (go_at_call 72;refine (Cl _ _).mono ?_;rintro e w' ⟨rfl,rfl⟩;rw[Aa d]) | (go_at_call 105;refine (GM _ _).mono ?_;rintro e w' ⟨rfl,rfl⟩;rw[Aa f]))
    go_ret
    exact ⟨Ek (by rw[Aa c,Aa b]),rfl⟩
   ·have b:=Ab (H4 g a);rcases YL a with h1 | ⟨h1,h2⟩ | ⟨h1,h2,h3⟩
    ·have d:=Ab h1;clear a h1;go_wp2_with (go_at_call 72;refine (Cl _ _).mono ?_;rintro e w' ⟨rfl,rfl⟩;rw[Aa d])
     go_round
     case rel=>exact ⟨k+1,by omega,by omega,by go_num,by rw[Aa c,Aa b]⟩
     case measure=>simp[intOf];omega
    ·have d:=Ab h1;have f:=Ab h2;clear a h1 h2;go_wp2_with (first | (go_at_call 72;refine (Cl _ _).mono ?_;rintro e w' ⟨rfl,rfl⟩;rw[Aa d]) | (go_at_call 105;refine (GM _ _).mono ?_;rintro e w' ⟨rfl,rfl⟩;rw[Aa f]))
     go_round
     case rel=>exact ⟨k+1,by omega,by omega,by go_num,by rw[Aa c,Aa b]⟩
     case measure=>simp[intOf];omega
    ·clear a h1 h2;go_wp2_with (first | (go_at_call 72;refine (Cl _ _).mono ?_;rintro e w' ⟨rfl,rfl⟩;rw[show KW 95=false from by decide]) | (go_at_call 105;refine (GM _ _).mono ?_;rintro e w' ⟨rfl,rfl⟩;rw[show dgI 95=false from by decide]))
     go_round
     case rel=>exact ⟨k+1,by omega,by omega,by go_num,by rw[Aa c,Aa b]⟩
     case measure=>simp[intOf];omega
  ·have b:=Ab (Jl (p:=DJ) (s:=s) (j:=k) (by omega));have l: ¬ ((k:Int) < (s.size:Int)):=by omega
   go_wp2
   go_ret
   exact ⟨Ek (by rw[Aa c,Aa b]),rfl⟩
set_option maxHeartbeats 800000
theorem AQ (c:Int)(w:World):
  Calls Tryz.prog 93 #[.int .u8 c] w fun e w'=>e= .returned (.bool (KW c))∧w'=w:=by
 go_enter Tryz.func93,Tryz.ntmps93
 go_wp2
 all_goals
  go_ret
  refine ⟨Ag ?_,rfl⟩;rw[Bool.eq_iff_iff]
  simp_all[KW]
  try omega
theorem Jk (c:Int)(w:World):
  Calls Tryz.prog 95 #[.int .u8 c] w fun e w'=>e= .returned (.bool (VU c))∧w'=w:=by
 cases h1:KW c
 ·cases h2:dgI c
  ·go_enter Tryz.func95,Tryz.ntmps95
   go_wp2_with (first | (go_at_call 93;refine (AQ _ _).mono ?_;rintro e w' ⟨rfl,rfl⟩;rw[h1]) | (go_at_call 106;refine (BL _ _).mono ?_;rintro e w' ⟨rfl,rfl⟩;rw[h2]))
   go_ret
   refine ⟨Ag ?_,rfl⟩;rw[VU,h1,h2];simp;rfl
  ·go_enter Tryz.func95,Tryz.ntmps95
   go_wp2_with (first | (go_at_call 93;refine (AQ _ _).mono ?_;rintro e w' ⟨rfl,rfl⟩;rw[h1]) | (go_at_call 106;refine (BL _ _).mono ?_;rintro e w' ⟨rfl,rfl⟩;rw[h2]))
   go_ret
   refine ⟨Ag ?_,rfl⟩;rw[VU,h1,h2];simp
 ·go_enter Tryz.func95,Tryz.ntmps95
  go_wp2_with (go_at_call 93;refine (AQ _ _).mono ?_;rintro e w' ⟨rfl,rfl⟩;rw[h1])
  go_ret
  refine ⟨Ag ?_,rfl⟩;rw[VU,h1];simp
theorem YI (s:ByteArray)(w:World)(hs:s.size≤maxLen):
  Calls Tryz.prog 94 #[.string s,.func (Fn.func 106) #[] #[]] w fun e w'=>e= .returned (.int .i64 (AN FA (Al s):Nat))∧w'=w:=by
 unfold maxLen at hs;rw[← Hu];go_enter Tryz.func94,Tryz.ntmps94
 go_wp2
 go_loop [5] (fun i=>∃ k:Nat,k≤s.size∧i= .int .i64 k∧Gc FA s 0=Gc FA s k) (fun i=>s.size - (intOf i).toNat)
 case atStart=>exact ⟨0,Nat.zero_le _,rfl,rfl⟩
 case round=>
  obtain ⟨k,hk,rfl,he⟩:=hrel;have c:=Ab he;clear he;by_cases f:k < s.size
  ·have g:(k:Int) < (s.size:Int):=by omega
   cases a:FA s[k]
   ·have b:=Ab (Hz f a);have d:=Ab (show dgI (s[k].toNat:Int)=false from a);clear a;go_wp2_with (go_at_call 106;refine (BL _ _).mono ?_;rintro e w' ⟨rfl,rfl⟩;rw[Aa d])
    go_ret
    exact ⟨Ek (by rw[Aa c,Aa b]),rfl⟩
   ·have b:=Ab (H4 f a);have d:=Ab (show dgI (s[k].toNat:Int)=true from a);clear a;go_wp2_with (go_at_call 106;refine (BL _ _).mono ?_;rintro e w' ⟨rfl,rfl⟩;rw[Aa d])
    go_round
    case rel=>exact ⟨k+1,by omega,by go_num,by rw[Aa c,Aa b]⟩
    case measure=>simp[intOf];omega
  ·have b:=Ab (Jl (p:=FA) (s:=s) (j:=k) (by omega));have g: ¬ ((k:Int) < (s.size:Int)):=by omega
   go_wp2
   go_ret
   exact ⟨Ek (by rw[Aa c,Aa b]),rfl⟩
theorem MI (s:ByteArray)(w:World)(hs:s.size≤maxLen):
  Calls Tryz.prog 94 #[.string s,.func (Fn.func 95) #[] #[]] w fun e w'=>e= .returned (.int .i64 (AN DJ (Al s):Nat))∧w'=w:=by
 unfold maxLen at hs;rw[← Hu];go_enter Tryz.func94,Tryz.ntmps94
 go_wp2
 go_loop [5] (fun i=>∃ k:Nat,k≤s.size∧i= .int .i64 k∧Gc DJ s 0=Gc DJ s k) (fun i=>s.size - (intOf i).toNat)
 case atStart=>exact ⟨0,Nat.zero_le _,rfl,rfl⟩
 case round=>
  obtain ⟨k,hk,rfl,he⟩:=hrel;have c:=Ab he;clear he;by_cases f:k < s.size
  ·have g:(k:Int) < (s.size:Int):=by omega
   cases a:DJ s[k]
   ·have b:=Ab (Hz f a);have d:=Ab (show VU (s[k].toNat:Int)=false from a);clear a;go_wp2_with (go_at_call 95;refine (Jk _ _).mono ?_;rintro e w' ⟨rfl,rfl⟩;rw[Aa d])
    go_ret
    exact ⟨Ek (by rw[Aa c,Aa b]),rfl⟩
   ·have b:=Ab (H4 f a);have d:=Ab (show VU (s[k].toNat:Int)=true from a);clear a;go_wp2_with (go_at_call 95;refine (Jk _ _).mono ?_;rintro e w' ⟨rfl,rfl⟩;rw[Aa d])
    go_round
    case rel=>exact ⟨k+1,by omega,by go_num,by rw[Aa c,Aa b]⟩
    case measure=>simp[intOf];omega
  ·have b:=Ab (Jl (p:=DJ) (s:=s) (j:=k) (by omega));have g: ¬ ((k:Int) < (s.size:Int)):=by omega
   go_wp2
   go_ret
   exact ⟨Ek (by rw[Aa c,Aa b]),rfl⟩
theorem YJ (s:ByteArray)(w:World)(hs:s.size≤maxLen):
  Calls Tryz.prog 94 #[.string s,.func (Fn.func 92) #[] #[]] w fun e w'=>e= .returned (.int .i64 (AN Oc (Al s):Nat))∧w'=w:=by
 unfold maxLen at hs;rw[← Hu];go_enter Tryz.func94,Tryz.ntmps94
 go_wp2
 go_loop [5] (fun i=>∃ k:Nat,k≤s.size∧i= .int .i64 k∧Gc Oc s 0=Gc Oc s k) (fun i=>s.size - (intOf i).toNat)
 case atStart=>exact ⟨0,Nat.zero_le _,rfl,rfl⟩
 case round=>
  obtain ⟨k,hk,rfl,he⟩:=hrel;have c:=Ab he;clear he;by_cases f:k < s.size
  ·have g:(k:Int) < (s.size:Int):=by omega
   cases a:Oc s[k]
   ·have b:=Ab (Hz f a);have d:=Ab (show WA (s[k].toNat:Int)=false from a);clear a;go_wp2_with (go_at_call 92;refine (El _ _).mono ?_;rintro e w' ⟨rfl,rfl⟩;rw[Aa d])
    go_ret
    exact ⟨Ek (by rw[Aa c,Aa b]),rfl⟩
   ·have b:=Ab (H4 f a);have d:=Ab (show WA (s[k].toNat:Int)=true from a);clear a;go_wp2_with (go_at_call 92;refine (El _ _).mono ?_;rintro e w' ⟨rfl,rfl⟩;rw[Aa d])
    go_round
    case rel=>exact ⟨k+1,by omega,by go_num,by rw[Aa c,Aa b]⟩
    case measure=>simp[intOf];omega
  ·have b:=Ab (Jl (p:=Oc) (s:=s) (j:=k) (by omega));have g: ¬ ((k:Int) < (s.size:Int)):=by omega
   go_wp2
   go_ret
   exact ⟨Ek (by rw[Aa c,Aa b]),rfl⟩
end Go.Proofs.YtoplnhndilmlcaaGreatDoor
