/-
  Own, OWS, CLN, JT, FA0, AP, STI. Own work.
-/
import Derived.Test.YtcpdodmoheebaaaGreatDoorMXAE
import Derived.Test.YtcpdodmoheebaaaGreatDoorMXAB
import Derived.Test.YtcpdodmoheebaaaGreatDoorMXAC
import Derived.Lib.SmallJoins
import Derived.Test.YtcpdodmoheebaaaGreatDoorMXAK
import Derived.Lib.ItoaNum
import Derived.Deep.RegionWith
import Derived.Test.YtcpdodmoheebaaaGreatDoorMXAD
import Derived.Laws.AppendOwnNone
import Derived.Deep.RegionLaw
namespace Go.Proofs.YtcpdodmoheebaaaGreatDoor
open Go.RowKit
set_option linter.unusedVariables false
theorem GQ {w:World}{a b:Nat}{e:TypeId}{size:Nat}{c:Value}{n:Nat}{d:List Value}(h:w.ownsRow a e size c n d)(f:b≤a):w.ownsRow b e size c n d:=by
 refine ⟨h.1,?_⟩
 rcases h.2 with h2 | ⟨g,cap,i,j,h3,h4⟩
 ·exact .inl h2
 ·exact .inr ⟨g,cap,i,j,Nat.le_trans f h3,h4⟩
def Ex.kids:Ex→List Ex
 | .un _ _ k=> [k]
 | .bin _ _ l r=> [l,r]
 | .ite _ c t e=> [c,t,e]
 | _=> []
set_option maxRecDepth 100000
set_option maxHeartbeats 800000
def Dz (k:Nat):ByteArray:=⟨(Lib.decDigits k).toArray⟩
theorem Dj {k:Nat}(h:k < 10):Dz k=Dy (48+(k:Int)):=by
 have e:(48+(k:Int)).toNat=48+k:=by omega
 unfold Dz Dy
 rw [Lib.decDigits,dif_pos h,e]
 rfl
theorem GR {k:Nat}(h: 10≤k):Dz k=Dz (k / 10) ++Dz (k % 10):=by
 apply CV
 rw [ByteArray.data_append]
 unfold Dz
 rw [Lib.decDigits,dif_neg (by omega)]
 conv=>rhs;rw [Lib.decDigits.eq_def (k % 10),dif_pos (by omega)]
 simp
theorem BD (k:Nat):(Dz k).size≤k+1:=by
 induction k using Nat.strongRecOn with
 | _ k a=>
  by_cases h:k < 10
  ·rw [Dj h,BC];omega
  ·rw [GR (by omega),Ae,Dj (k:=k % 10) (by omega),BC]
   have:=a (k / 10) (by omega)
   omega
theorem EW (m:Nat)(x:Int){w:World}{a:Ending→World→Prop}(h:Calls Tryz.prog 32 #[.int .i64 m] w a)(e:x=m):Calls Tryz.prog 32 #[.int .i64 x] w a:=by rw [e];exact h
theorem FO (k:Nat)(w:World)(i:k≤9999999):
  Calls Tryz.prog 32 #[.int .i64 k] w fun e w'=>e= .returned (.string (Dz k))∧Below w.heap.size w w':=by
 induction k using Nat.strongRecOn generalizing w with
 | _ k b=>
  by_cases h:k < 10
  ·have d:(k:Int) < 10:=by omega
   have j:(48+(k:Int)) < 256:=by omega
   have l:=FW
   have a:=Ab (Dj h)
   go_enter Tryz.func32,Tryz.ntmps32
   go_wp2
   go_ret
   exact ⟨by rw [Aa a];rfl,(Below.refl _ _).alloc (Nat.le_refl _) _⟩
  ·have d:(10 :Int)≤(k:Int):=by omega
   have a:=Ab (GR (k:=k) (by omega))
   have n:=BD (k / 10)
   have o:=BD (k % 10)
   have Hi:Hid (∀ (m:Nat),m < k→∀ (w:World),m≤9999999→Calls Tryz.prog 32 #[.int .i64 m] w fun e w'=>e= .returned (.string (Dz m))∧Below w.heap.size w w'):=b
   clear b
   go_enter Tryz.func32,Tryz.ntmps32
   go_wp2_with fail
   refine (EW (k / 10) _ (Aa Hi (k / 10) (by omega) w (by omega)) (by omega)).mono ?_
   rintro e f ⟨rfl,c⟩
   go_wp2_with fail
   refine (EW (k % 10) _ (Aa Hi (k % 10) (by omega) f (by omega)) (by omega)).mono ?_
   rintro e p ⟨rfl,g⟩
   go_wp2_with fail
   go_ret
   exact ⟨by rw [Aa a];rfl,c.trans (g.mono c.size)⟩
theorem Bn (x:Int)(w:World)(h0: 0≤x)(a:x≤9999999):
  Calls Tryz.prog 32 #[.int .i64 x] w fun e w'=>e= .returned (.string (Dz x.toNat))∧Below w.heap.size w w':=by
 obtain ⟨k,rfl⟩:=Int.eq_ofNat_of_zero_le h0
 exact FO k w (by omega)
structure MK (p:Prop):Prop where
 out:p
theorem MD {P a:Prop}(h:MK P→a)(p:P):a:=h ⟨p⟩
end Go.Proofs.YtcpdodmoheebaaaGreatDoor
