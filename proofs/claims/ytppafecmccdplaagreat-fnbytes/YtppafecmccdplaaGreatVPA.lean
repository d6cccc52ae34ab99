import Derived.Test.YtppafecmccdplaaGreatMXAD
import Derived.Test.YtppafecmccdplaaGreatMXAE
open Go.Proofs.Tryz
open Go.Proofs.Tryz renaming prog->jL
namespace Go.Proofs.YtppafecmccdplaaGreat
set_option maxHeartbeats 1600000
open Go.RowKit
set_option linter.unusedVariables false
variable {s:ByteArray}
theorem Abp (p:UInt8->Bool)(r:List UInt8):PA p r=r.length↔r.all p=true:=by
 constructor
 ·intro h;have:=AdZ p r
  rwa[h,yA]at this
 ·intro h;have e:r.takeWhile p=r:=by
   induction r with
   |nil=>rfl
   |cons c r a=>
    rw[List.all_cons,zD]at h;rw[List.takeWhile_cons,if_pos h.1,a h.2]
  rw[PA,e]
theorem Abq (h0: 0<s.size):Ek s=(decide (s.size<=32)&&ltI (s[0].toNat:Int)&&decide (PA Vb (LY s)=s.size)&& !Abl (LY s)):=by
 have h:=Og s 0 h0;rw[List.drop_zero]at h;have a:(LY s).length=s.size:=MX s;have b:decide (PA Vb (LY s)=s.size)=(LY s).all Vb:=by rw[<-a,zY,decide_eq_true_iff];exact Abp Vb (LY s)
 rw[b,<-a];generalize (LY s).drop (0+1)=q at h;rw[Ek,h];rfl
theorem Xm (h0:s.size=0):Ek s=false:=by
 have:LY s=[]:=zj (by rw[MX];exact h0);rw[Ek,this]
theorem EU (s:ByteArray)(w:World)(hs:s.size<=1048576):
  Calls jL 96 #[.string s] w fun e w'=>e= .returned (.bool (Ek s))/\An w w':=by
 by_cases h0:s.size=0
 ·have m: ¬ ((0 :Int)<(s.size:Int)):=by omega
  rw[Xm h0];go_enter func96,ntmps96
  go_wp2
  go_ret
  exact⟨rfl,BRN⟩
 have hp: 0<s.size:=by omega
 have c:=Ab (Abq hp);by_cases g:s.size<=32
 case neg=>
  have k: ¬ ((s.size:Int)<=32):=by omega
  go_enter func96,ntmps96
  go_wp2
  go_ret
  exact⟨Ag (by rw[Aa c];simp[g]),BRN⟩
 have k:(s.size:Int)<=32:=by omega
 cases d:ltI (s[0].toNat:Int)
 ·have b:=Ab d;clear d;go_enter func96,ntmps96
  go_wp2_with (go_at_call 113;refine(Dl _ _).mono ?_;rintro e w' ⟨rfl,a⟩;rw[Aa b,a];clear a)
  go_ret
  exact⟨Ag (by rw[Aa c,Aa b];simp),BRN⟩
 have b:=Ab d;clear d;have h:=Ab (Abk Vb s);by_cases i:PA Vb (LY s)=s.size
 ·have l:(((PA Vb (LY s):Nat):Int)==(s.size:Int))=true:=zF.2 (by omega);go_enter func96,ntmps96
  go_wp2_with (first|(go_at_call 113;refine(Dl _ _).mono ?_;rintro e w' ⟨rfl,a⟩;rw[Aa b,a];clear a)|(go_at_call 114;refine(Ua s 0 _ (by unfold maxLen;omega) (by omega)).mono ?_;rintro e w' ⟨rfl,a⟩;rw[Aa h,a];clear a))
  refine(YP s _).mono ?_;rintro e n ⟨rfl,j⟩;cases a:Abl (LY s)
  ·have f:=Ab a;clear a;go_wp2
   go_ret
   exact⟨Ag (by rw[Aa c,Aa b,Aa f];simp[g,i]),j⟩
  ·have f:=Ab a;clear a;go_wp2
   go_ret
   exact⟨Ag (by rw[Aa c,Aa f];simp),j⟩
 ·have l:(((PA Vb (LY s):Nat):Int)==(s.size:Int))=false:=zA.2 (by omega);go_enter func96,ntmps96
  go_wp2_with (first|(go_at_call 113;refine(Dl _ _).mono ?_;rintro e w' ⟨rfl,a⟩;rw[Aa b,a];clear a)|(go_at_call 114;refine(Ua s 0 _ (by unfold maxLen;omega) (by omega)).mono ?_;rintro e w' ⟨rfl,a⟩;rw[Aa h,a];clear a))
  go_ret
  exact⟨Ag (by rw[Aa c];simp[i]),BRN⟩
theorem YR (s:ByteArray):Ci s=(decide (s.size<=32)&&IJ s.data.toList):=rfl
theorem YS (s:ByteArray):Ci s=(decide (s.size=0)||vnB s):=by
 rw[YR,vnB];by_cases h:s.size=0
 ·have e:=Lp h;subst e;rfl
 ·rw[show decide (s.size=0)=false from zI h,Bool.false_or,show decide (1<=s.size/\s.size<=32)=decide (s.size<=32) by rw[decide_eq_decide];omega]
theorem MY (s:ByteArray)(w:World)(hs:s.size<=1048576):
  Calls jL 60 #[.string s] w fun e w'=>e= .returned (.bool (Ci s))/\w'=w:=by
 by_cases h0:s.size=0
 ·have e:=Lp h0;subst e;go_enter func60,ntmps60
  go_wp2
  go_ret
  exact⟨rfl,rfl⟩
 ·have c:=CS h0;have b:=Ab (show Ci s=vnB s by rw[YS,zI h0,Bool.false_or]);go_enter func60,ntmps60
  go_wp2_with (go_at_call 91;refine(Fe _ _ (by unfold maxLen;omega)).mono ?_;rintro e w' ⟨rfl,a⟩;rw[a];clear a)
  go_ret
  exact⟨Ag (Aa b).symm,rfl⟩
theorem Sf (op:Int)(w:World):
  Calls jL 112 #[.int .i64 op] w fun e w'=>e= .returned (.int .i64 (Cz op))/\w'=w:=by
 go_enter func112,ntmps112
 go_wp2
 all_goals
  go_ret
  refine⟨UG ?_,rfl⟩;unfold Cz
  simp_all
  try omega
end Go.Proofs.YtppafecmccdplaaGreat
