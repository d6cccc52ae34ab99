import Derived.Test.YteiieikcjcfkkaaGreatDoorMXAA
open Go.Proofs.Tryz
open Go.Value renaming int->U,string->Q
open Go renaming World->Z,Calls->jE,maxLen->jM
open Go.Ending renaming returned->jH
open Go.Proofs.Tryz renaming prog->j4
namespace Go.Proofs.YteiieikcjcfkkaaGreatDoor
set_option maxHeartbeats 1600000
open Go.RowKit
set_option linter.unusedVariables false
variable {c:UInt8}
theorem CP (c:Int)(w:Z):
  jE j4 119 #[U .u8 c] w fun e w'=>e=jH (.bool (Yq c))/\w'=w:=by
 go_enter func119,ntmps119
 go_wp2
 all_goals
  go_ret
  refine⟨Ad ?_,rfl⟩;rw[zO]
  simp_all[Yq]
  try omega
theorem JO (c:Int)(w:Z):
  jE j4 150 #[U .u8 c] w fun e w'=>e=jH (.bool (dgI c))/\w'=w:=by
 go_enter func150,ntmps150
 go_wp2
 all_goals
  go_ret
  refine⟨Ad ?_,rfl⟩;rw[zO]
  simp_all[dgI]
  try omega
theorem Afu (h:OA c=true):Yq (c.toNat:Int)=true\/(Yq (c.toNat:Int)=false/\dgI (c.toNat:Int)=true)\/(Yq (c.toNat:Int)=false/\dgI (c.toNat:Int)=false/\(c.toNat:Int)=95):=by
 rw[OA,wdI]at h;cases h1:Yq (c.toNat:Int)
 ·cases h2:dgI (c.toNat:Int)
  ·rw[h1,h2]at h;simp at h;exact .inr (.inr ⟨rfl,rfl,by omega⟩)
  ·exact .inr (.inl ⟨rfl,rfl⟩)
 ·exact .inl rfl
theorem AcF (h:OA c=false):Yq (c.toNat:Int)=false/\dgI (c.toNat:Int)=false/\¬ (c.toNat:Int)=95:=by
 rw[OA,wdI]at h;simp only[Bool.or_eq_false_iff,decide_eq_false_iff_not]at h;exact⟨h.1.1,h.1.2,h.2⟩
theorem TZ (s:ByteArray)(j:Nat)(w:Z)(hs:s.size<=jM)(h:j<=s.size):
  jE j4 120 #[Q s,U .i64 j] w fun e w'=>e=jH (U .i64 (JN OA s j:Nat))/\w'=w:=by
 unfold jM at hs;go_enter func120,ntmps120
 go_wp2
 go_loop [1] (fun i=>∃k:Nat,j<=k/\k<=s.size/\i=U .i64 k/\JN OA s j=JN OA s k) (fun i=>s.size-(intOf i).toNat)
 case atStart=>exact⟨j,NLN,h,rfl,rfl⟩
 case round=>
  obtain⟨k,m,n,rfl,he⟩:=hrel;have c:=Ab he;clear he;by_cases g:k<s.size
  ·have l:(k:Int)<(s.size:Int):=by omega
   cases a:OA s[k]
   ·have b:=Ab (NI g a);obtain⟨h1,h2,h3⟩:=AcF a;have d:=Ab h1;have f:=Ab h2;clear a h1 h2;go_wp2_with (first|(go_at_call 119;refine(CP _ _).mono ?_;rintro e w' ⟨rfl,rfl⟩;rw[Aa d])|(go_at_call 150;refine(JO _ _).mono ?_;rintro e w' ⟨rfl,rfl⟩;rw[Aa f]))
    go_ret
    exact⟨Iz (by rw[Aa c,Aa b]),rfl⟩
   ·have b:=Ab (NJ g a);rcases Afu a with h1|⟨h1,h2⟩|⟨h1,h2,h3⟩
    ·have d:=Ab h1;clear a h1;go_wp2_with (go_at_call 119;refine(CP _ _).mono ?_;rintro e w' ⟨rfl,rfl⟩;rw[Aa d])
     go_round
     case rel=>exact⟨k+1,by omega,by omega,by go_num,by rw[Aa c,Aa b]⟩
     case measure=>simp[intOf];omega
    ·have d:=Ab h1;have f:=Ab h2;clear a h1 h2;go_wp2_with (first|(go_at_call 119;refine(CP _ _).mono ?_;rintro e w' ⟨rfl,rfl⟩;rw[Aa d])|(go_at_call 150;refine(JO _ _).mono ?_;rintro e w' ⟨rfl,rfl⟩;rw[Aa f]))
     go_round
     case rel=>exact⟨k+1,by omega,by omega,by go_num,by rw[Aa c,Aa b]⟩
     case measure=>simp[intOf];omega
    ·clear a h1 h2;go_wp2_with (first|(go_at_call 119;refine(CP _ _).mono ?_;rintro e w' ⟨rfl,rfl⟩;rw[show Yq 95=false from by decide])|(go_at_call 150;refine(JO _ _).mono ?_;rintro e w' ⟨rfl,rfl⟩;rw[show dgI 95=false from by decide]))
     go_round
     case rel=>exact⟨k+1,by omega,by omega,by go_num,by rw[Aa c,Aa b]⟩
     case measure=>simp[intOf];omega
  ·have b:=Ab (Ru (p:=OA) (s:=s) (j:=k) (by omega));have l: ¬ ((k:Int)<(s.size:Int)):=by omega
   go_wp2
   go_ret
   exact⟨Iz (by rw[Aa c,Aa b]),rfl⟩
set_option maxHeartbeats 800000
theorem DB (c:Int)(w:Z):
  jE j4 161 #[U .u8 c] w fun e w'=>e=jH (.bool (Yq c))/\w'=w:=by
 go_enter func161,ntmps161
 go_wp2
 all_goals
  go_ret
  refine⟨Ad ?_,rfl⟩;rw[zO]
  simp_all[Yq]
  try omega
theorem MC (c:Int)(w:Z):
  jE j4 163 #[U .u8 c] w fun e w'=>e=jH (.bool (wdI c))/\w'=w:=by
 cases h1:Yq c
 ·cases h2:dgI c
  ·go_enter func163,ntmps163
   go_wp2_with (first|(go_at_call 161;refine(DB _ _).mono ?_;rintro e w' ⟨rfl,rfl⟩;rw[h1])|(go_at_call 181;refine(Ff _ _).mono ?_;rintro e w' ⟨rfl,rfl⟩;rw[h2]))
   go_ret
   refine⟨Ad ?_,rfl⟩;rw[wdI,h1,h2];simp;rfl
  ·go_enter func163,ntmps163
   go_wp2_with (first|(go_at_call 161;refine(DB _ _).mono ?_;rintro e w' ⟨rfl,rfl⟩;rw[h1])|(go_at_call 181;refine(Ff _ _).mono ?_;rintro e w' ⟨rfl,rfl⟩;rw[h2]))
   go_ret
   refine⟨Ad ?_,rfl⟩;rw[wdI,h1,h2];simp
 ·go_enter func163,ntmps163
  go_wp2_with (go_at_call 161;refine(DB _ _).mono ?_;rintro e w' ⟨rfl,rfl⟩;rw[h1])
  go_ret
  refine⟨Ad ?_,rfl⟩;rw[wdI,h1];simp
theorem AjL (s:ByteArray)(w:Z)(hs:s.size<=jM):
  jE j4 162 #[Q s,.func (Fn.func 181) #[] #[]] w fun e w'=>e=jH (U .i64 (JM dgB (GK s):Nat))/\w'=w:=by
 unfold jM at hs;rw[<-NH];go_enter func162,ntmps162
 go_wp2
 go_loop [5] (fun i=>∃k:Nat,k<=s.size/\i=U .i64 k/\JN dgB s 0=JN dgB s k) (fun i=>s.size-(intOf i).toNat)
 case atStart=>exact⟨0,zD _,rfl,rfl⟩
 case round=>
  obtain⟨k,h,rfl,he⟩:=hrel;have c:=Ab he;clear he;by_cases f:k<s.size
  ·have g:(k:Int)<(s.size:Int):=by omega
   cases a:dgB s[k]
   ·have b:=Ab (NI f a);have d:=Ab (show dgI (s[k].toNat:Int)=false from a);clear a;go_wp2_with (go_at_call 181;refine(Ff _ _).mono ?_;rintro e w' ⟨rfl,rfl⟩;rw[Aa d])
    go_ret
    exact⟨Iz (by rw[Aa c,Aa b]),rfl⟩
   ·have b:=Ab (NJ f a);have d:=Ab (show dgI (s[k].toNat:Int)=true from a);clear a;go_wp2_with (go_at_call 181;refine(Ff _ _).mono ?_;rintro e w' ⟨rfl,rfl⟩;rw[Aa d])
    go_round
    case rel=>exact⟨k+1,by omega,by go_num,by rw[Aa c,Aa b]⟩
    case measure=>simp[intOf];omega
  ·have b:=Ab (Ru (p:=dgB) (s:=s) (j:=k) (by omega));have g: ¬ ((k:Int)<(s.size:Int)):=by omega
   go_wp2
   go_ret
   exact⟨Iz (by rw[Aa c,Aa b]),rfl⟩
theorem XR (s:ByteArray)(w:Z)(hs:s.size<=jM):
  jE j4 162 #[Q s,.func (Fn.func 163) #[] #[]] w fun e w'=>e=jH (U .i64 (JM OA (GK s):Nat))/\w'=w:=by
 unfold jM at hs;rw[<-NH];go_enter func162,ntmps162
 go_wp2
 go_loop [5] (fun i=>∃k:Nat,k<=s.size/\i=U .i64 k/\JN OA s 0=JN OA s k) (fun i=>s.size-(intOf i).toNat)
 case atStart=>exact⟨0,zD _,rfl,rfl⟩
 case round=>
  obtain⟨k,h,rfl,he⟩:=hrel;have c:=Ab he;clear he;by_cases f:k<s.size
  ·have g:(k:Int)<(s.size:Int):=by omega
   cases a:OA s[k]
   ·have b:=Ab (NI f a);have d:=Ab (show wdI (s[k].toNat:Int)=false from a);clear a;go_wp2_with (go_at_call 163;refine(MC _ _).mono ?_;rintro e w' ⟨rfl,rfl⟩;rw[Aa d])
    go_ret
    exact⟨Iz (by rw[Aa c,Aa b]),rfl⟩
   ·have b:=Ab (NJ f a);have d:=Ab (show wdI (s[k].toNat:Int)=true from a);clear a;go_wp2_with (go_at_call 163;refine(MC _ _).mono ?_;rintro e w' ⟨rfl,rfl⟩;rw[Aa d])
    go_round
    case rel=>exact⟨k+1,by omega,by go_num,by rw[Aa c,Aa b]⟩
    case measure=>simp[intOf];omega
  ·have b:=Ab (Ru (p:=OA) (s:=s) (j:=k) (by omega));have g: ¬ ((k:Int)<(s.size:Int)):=by omega
   go_wp2
   go_ret
   exact⟨Iz (by rw[Aa c,Aa b]),rfl⟩
end Go.Proofs.YteiieikcjcfkkaaGreatDoor
