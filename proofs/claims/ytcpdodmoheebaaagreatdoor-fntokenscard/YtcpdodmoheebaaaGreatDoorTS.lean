/-
  The walks over the model's scanner: letters, digits, words, runs, blanks. Own work.
-/
import Derived.Test.YtcpdodmoheebaaaGreatDoorMXAB
import Derived.Test.YtcpdodmoheebaaaGreatDoorNames
namespace Go.Proofs.YtcpdodmoheebaaaGreatDoor
set_option maxHeartbeats 1600000
open Go.RowKit
set_option linter.unusedVariables false
theorem Am (c:Int)(w:World):
  Calls Tryz.prog 21 #[.int .u8 c] w fun e w'=>e= .returned (.bool (DO c))∧w'=w:=by
 go_enter Tryz.func21,Tryz.ntmps21
 go_wp2
 all_goals
  go_ret
  refine ⟨Ak ?_,rfl⟩
  rw [Bool.eq_iff_iff]
  simp_all [DO]
  try omega
theorem Au (c:Int)(w:World):
  Calls Tryz.prog 24 #[.int .u8 c] w fun e w'=>e= .returned (.bool (dgI c))∧w'=w:=by
 go_enter Tryz.func24,Tryz.ntmps24
 go_wp2
 all_goals
  go_ret
  refine ⟨Ak ?_,rfl⟩
  rw [Bool.eq_iff_iff]
  simp_all [dgI]
  try omega
theorem KV {c:UInt8}(h:BU c=true):DO (c.toNat:Int)=true∨(DO (c.toNat:Int)=false∧dgI (c.toNat:Int)=true)∨(DO (c.toNat:Int)=false∧dgI (c.toNat:Int)=false∧(c.toNat:Int)=95):=by
 rw [BU,Kn] at h
 cases h1:DO (c.toNat:Int)
 ·cases h2:dgI (c.toNat:Int)
  ·rw [h1,h2] at h;simp at h;exact .inr (.inr ⟨rfl,rfl,by omega⟩)
  ·exact .inr (.inl ⟨rfl,rfl⟩)
 ·exact .inl rfl
theorem J5 {c:UInt8}(h:BU c=false):DO (c.toNat:Int)=false∧dgI (c.toNat:Int)=false∧¬ (c.toNat:Int)=95:=by
 rw [BU,Kn] at h
 simp only [Bool.or_eq_false_iff,decide_eq_false_iff_not] at h
 exact ⟨h.1.1,h.1.2,h.2⟩
theorem En (s:ByteArray)(j:Nat)(w:World)(hs:s.size≤maxLen)(i:j≤s.size):
  Calls Tryz.prog 22 #[.string s,.int .i64 j] w fun e w'=>e= .returned (.int .i64 (Bl BU s j:Nat))∧w'=w:=by
 unfold maxLen at hs
 go_enter Tryz.func22,Tryz.ntmps22
 go_wp2
 go_loop [1] (fun f=>∃ k:Nat,j≤k∧k≤s.size∧f= .int .i64 k∧Bl BU s j=Bl BU s k) (fun f=>s.size - (intOf f).toNat)
 case atStart=>exact ⟨j,Nat.le_refl _,i,rfl,rfl⟩
 case round=>
  obtain ⟨k,m,n,rfl,he⟩:=hrel
  have c:=Ab he
  clear he
  by_cases h:k < s.size
  ·have l:(k:Int) < (s.size:Int):=by omega
   cases a:BU s[k]
   ·have b:=Ab (BH h a)
    obtain ⟨h1,h2,h3⟩:=J5 a
    have d:=Ab h1
    have g:=Ab h2
    clear a h1 h2
    go_wp2_with (first | (go_at_call 21;refine (Am _ _).mono ?_;rintro e w' ⟨rfl,rfl⟩;rw [Aa d]) | (go_at_call 24;refine (Au _ _).mono ?_;rintro e w' ⟨rfl,rfl⟩;rw [Aa g]))
    go_ret
    exact ⟨BW (by rw [Aa c,Aa b]),rfl⟩
   ·have b:=Ab (BG h a)
    rcases KV a with h1 | ⟨h1,h2⟩ | ⟨h1,h2,h3⟩
    ·have d:=Ab h1
     clear a h1
     go_wp2_with (go_at_call 21;refine (Am _ _).mono ?_;rintro e w' ⟨rfl,rfl⟩;rw [Aa d])
     go_round
     case rel=>exact ⟨k+1,by omega,by omega,by go_num,by rw [Aa c,Aa b]⟩
     case measure=>simp [intOf];omega
    ·have d:=Ab h1
     have g:=Ab h2
     clear a h1 h2
     go_wp2_with (first | (go_at_call 21;refine (Am _ _).mono ?_;rintro e w' ⟨rfl,rfl⟩;rw [Aa d]) | (go_at_call 24;refine (Au _ _).mono ?_;rintro e w' ⟨rfl,rfl⟩;rw [Aa g]))
     go_round
     case rel=>exact ⟨k+1,by omega,by omega,by go_num,by rw [Aa c,Aa b]⟩
     case measure=>simp [intOf];omega
    ·clear a h1 h2
     go_wp2_with (first | (go_at_call 21;refine (Am _ _).mono ?_;rintro e w' ⟨rfl,rfl⟩;rw [show DO 95=false from by decide]) | (go_at_call 24;refine (Au _ _).mono ?_;rintro e w' ⟨rfl,rfl⟩;rw [show dgI 95=false from by decide]))
     go_round
     case rel=>exact ⟨k+1,by omega,by omega,by go_num,by rw [Aa c,Aa b]⟩
     case measure=>simp [intOf];omega
  ·have b:=Ab (Cf (p:=BU) (s:=s) (j:=k) (by omega))
   have l: ¬ ((k:Int) < (s.size:Int)):=by omega
   go_wp2
   go_ret
   exact ⟨BW (by rw [Aa c,Aa b]),rfl⟩
end Go.Proofs.YtcpdodmoheebaaaGreatDoor
