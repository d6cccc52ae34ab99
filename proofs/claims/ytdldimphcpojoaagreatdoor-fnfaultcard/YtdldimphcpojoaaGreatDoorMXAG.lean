/-
  TS, TI, TW, TV. Own work.
-/
import Derived.Test.YtdldimphcpojoaaGreatDoorMXAA
import Derived.Test.YtdldimphcpojoaaGreatDoorNames
namespace Go.Proofs.YtdldimphcpojoaaGreatDoor
set_option maxHeartbeats 1600000
open Go.RowKit
set_option linter.unusedVariables false
theorem AG (c:Int)(w:World):
  Calls Tryz.prog 48 #[.int .u8 c] w fun e w'=>e= .returned (.bool (IG c))∧w'=w:=by
 go_enter Tryz.func48,Tryz.ntmps48
 go_wp2
 all_goals
  go_ret
  refine ⟨Ay ?_,rfl⟩;rw[Bool.eq_iff_iff]
  simp_all[IG]
  try omega
theorem AY (c:Int)(w:World):
  Calls Tryz.prog 51 #[.int .u8 c] w fun e w'=>e= .returned (.bool (dgI c))∧w'=w:=by
 go_enter Tryz.func51,Tryz.ntmps51
 go_wp2
 all_goals
  go_ret
  refine ⟨Ay ?_,rfl⟩;rw[Bool.eq_iff_iff]
  simp_all[dgI]
  try omega
theorem V0 {c:UInt8}(h:Ed c=true):IG (c.toNat:Int)=true∨(IG (c.toNat:Int)=false∧dgI (c.toNat:Int)=true)∨(IG (c.toNat:Int)=false∧dgI (c.toNat:Int)=false∧(c.toNat:Int)=95):=by
 rw[Ed,Wh] at h;cases h1:IG (c.toNat:Int)
 ·cases h2:dgI (c.toNat:Int)
  ·rw[h1,h2] at h;simp at h;exact .inr (.inr ⟨rfl,rfl,by omega⟩)
  ·exact .inr (.inl ⟨rfl,rfl⟩)
 ·exact .inl rfl
theorem Uk {c:UInt8}(h:Ed c=false):IG (c.toNat:Int)=false∧dgI (c.toNat:Int)=false∧¬ (c.toNat:Int)=95:=by
 rw[Ed,Wh] at h;simp only[Bool.or_eq_false_iff,decide_eq_false_iff_not] at h;exact ⟨h.1.1,h.1.2,h.2⟩
theorem Js (s:ByteArray)(j:Nat)(w:World)(hs:s.size≤maxLen)(h:j≤s.size):
  Calls Tryz.prog 49 #[.string s,.int .i64 j] w fun e w'=>e= .returned (.int .i64 (Dj Ed s j:Nat))∧w'=w:=by
 unfold maxLen at hs;go_enter Tryz.func49,Tryz.ntmps49
 go_wp2
 go_loop [1] (fun i=>∃ k:Nat,j≤k∧k≤s.size∧i= .int .i64 k∧Dj Ed s j=Dj Ed s k) (fun i=>s.size - (intOf i).toNat)
 case atStart=>exact ⟨j,NLN,h,rfl,rfl⟩
 case round=>
  obtain ⟨k,m,hk,rfl,he⟩:=hrel;have c:=Ab he;clear he;by_cases g:k < s.size
  ·have l:(k:Int) < (s.size:Int):=by omega
   cases a:Ed s[k]
   ·have b:=Ab (Ew g a);obtain ⟨h1,h2,h3⟩:=Uk a;have d:=Ab h1;have f:=Ab h2;clear a h1 h2;go_wp2_with (first | (go_at_call 48;refine (AG _ _).mono ?_;rintro e w' ⟨rfl,rfl⟩;rw[Aa d]) | (go_at_call 51;refine (AY _ _).mono ?_;rintro e w' ⟨rfl,rfl⟩;rw[Aa f]))
    go_ret
    exact ⟨Ek (by rw[Aa c,Aa b]),rfl⟩
   ·have b:=Ab (Ey g a);rcases V0 a with h1 | ⟨h1,h2⟩ | ⟨h1,h2,h3⟩
    ·have d:=Ab h1;clear a h1;go_wp2_with (go_at_call 48;refine (AG _ _).mono ?_;rintro e w' ⟨rfl,rfl⟩;rw[Aa d])
     go_round
     case rel=>exact ⟨k+1,by omega,by omega,by go_num,by rw[Aa c,Aa b]⟩
     case measure=>simp[intOf];omega
    ·have d:=Ab h1;have f:=Ab h2;clear a h1 h2;go_wp2_with (first | (go_at_call 48;refine (AG _ _).mono ?_;rintro e w' ⟨rfl,rfl⟩;rw[Aa d]) | (go_at_call 51;refine (AY _ _).mono ?_;rintro e w' ⟨rfl,rfl⟩;rw[Aa f]))
     go_round
     case rel=>exact ⟨k+1,by omega,by omega,by go_num,by rw[Aa c,Aa b]⟩
     case measure=>simp[intOf];omega
    ·clear a h1 h2;go_wp2_with (first | (go_at_call 48;refine (AG _ _).mono ?_;rintro e w' ⟨rfl,rfl⟩;rw[show IG 95=false from by decide]) | (go_at_call 51;refine (AY _ _).mono ?_;rintro e w' ⟨rfl,rfl⟩;rw[show dgI 95=false from by decide]))
     go_round
     case rel=>exact ⟨k+1,by omega,by omega,by go_num,by rw[Aa c,Aa b]⟩
     case measure=>simp[intOf];omega
  ·have b:=Ab (Fw (p:=Ed) (s:=s) (j:=k) (by omega));have l: ¬ ((k:Int) < (s.size:Int)):=by omega
   go_wp2
   go_ret
   exact ⟨Ek (by rw[Aa c,Aa b]),rfl⟩
set_option maxHeartbeats 800000
theorem Bz (c:Int)(w:World):
  Calls Tryz.prog 72 #[.int .u8 c] w fun e w'=>e= .returned (.bool (IG c))∧w'=w:=by
 go_enter Tryz.func72,Tryz.ntmps72
 go_wp2
 all_goals
  go_ret
  refine ⟨Ay ?_,rfl⟩;rw[Bool.eq_iff_iff]
  simp_all[IG]
  try omega
theorem IJ (c:Int)(w:World):
  Calls Tryz.prog 96 #[.int .u8 c] w fun e w'=>e= .returned (.bool (Wh c))∧w'=w:=by
 cases h1:IG c
 ·cases h2:dgI c
  ·go_enter Tryz.func96,Tryz.ntmps96
   go_wp2_with (first | (go_at_call 72;refine (Bz _ _).mono ?_;rintro e w' ⟨rfl,rfl⟩;rw[h1]) | (go_at_call 70;refine (BZ _ _).mono ?_;rintro e w' ⟨rfl,rfl⟩;rw[h2]))
   go_ret
   refine ⟨Ay ?_,rfl⟩;rw[Wh,h1,h2];simp;rfl
  ·go_enter Tryz.func96,Tryz.ntmps96
   go_wp2_with (first | (go_at_call 72;refine (Bz _ _).mono ?_;rintro e w' ⟨rfl,rfl⟩;rw[h1]) | (go_at_call 70;refine (BZ _ _).mono ?_;rintro e w' ⟨rfl,rfl⟩;rw[h2]))
   go_ret
   refine ⟨Ay ?_,rfl⟩;rw[Wh,h1,h2];simp
 ·go_enter Tryz.func96,Tryz.ntmps96
  go_wp2_with (go_at_call 72;refine (Bz _ _).mono ?_;rintro e w' ⟨rfl,rfl⟩;rw[h1])
  go_ret
  refine ⟨Ay ?_,rfl⟩;rw[Wh,h1];simp
theorem VT (s:ByteArray)(w:World)(hs:s.size≤maxLen):
  Calls Tryz.prog 94 #[.string s,.func (Fn.func 70) #[] #[]] w fun e w'=>e= .returned (.int .i64 (AK Ci (Ak s):Nat))∧w'=w:=by
 unfold maxLen at hs;rw[← Gz];go_enter Tryz.func94,Tryz.ntmps94
 go_wp2
 go_loop [5] (fun i=>∃ k:Nat,k≤s.size∧i= .int .i64 k∧Dj Ci s 0=Dj Ci s k) (fun i=>s.size - (intOf i).toNat)
 case atStart=>exact ⟨0,Nat.zero_le _,rfl,rfl⟩
 case round=>
  obtain ⟨k,hk,rfl,he⟩:=hrel;have c:=Ab he;clear he;by_cases f:k < s.size
  ·have g:(k:Int) < (s.size:Int):=by omega
   cases a:Ci s[k]
   ·have b:=Ab (Ew f a);have d:=Ab (show dgI (s[k].toNat:Int)=false from a);clear a;go_wp2_with (go_at_call 70;refine (BZ _ _).mono ?_;rintro e w' ⟨rfl,rfl⟩;rw[Aa d])
    go_ret
    exact ⟨Ek (by rw[Aa c,Aa b]),rfl⟩
   ·have b:=Ab (Ey f a);have d:=Ab (show dgI (s[k].toNat:Int)=true from a);clear a;go_wp2_with (go_at_call 70;refine (BZ _ _).mono ?_;rintro e w' ⟨rfl,rfl⟩;rw[Aa d])
    go_round
    case rel=>exact ⟨k+1,by omega,by go_num,by rw[Aa c,Aa b]⟩
    case measure=>simp[intOf];omega
  ·have b:=Ab (Fw (p:=Ci) (s:=s) (j:=k) (by omega));have g: ¬ ((k:Int) < (s.size:Int)):=by omega
   go_wp2
   go_ret
   exact ⟨Ek (by rw[Aa c,Aa b]),rfl⟩
theorem VU (s:ByteArray)(w:World)(hs:s.size≤maxLen):
  Calls Tryz.prog 94 #[.string s,.func (Fn.func 96) #[] #[]] w fun e w'=>e= .returned (.int .i64 (AK Ed (Ak s):Nat))∧w'=w:=by
 unfold maxLen at hs;rw[← Gz];go_enter Tryz.func94,Tryz.ntmps94
 go_wp2
 go_loop [5] (fun i=>∃ k:Nat,k≤s.size∧i= .int .i64 k∧Dj Ed s 0=Dj Ed s k) (fun i=>s.size - (intOf i).toNat)
 case atStart=>exact ⟨0,Nat.zero_le _,rfl,rfl⟩
 case round=>
  obtain ⟨k,hk,rfl,he⟩:=hrel;have c:=Ab he;clear he;by_cases f:k < s.size
  ·have g:(k:Int) < (s.size:Int):=by omega
   cases a:Ed s[k]
   ·have b:=Ab (Ew f a);have d:=Ab (show Wh (s[k].toNat:Int)=false from a);clear a;go_wp2_with (go_at_call 96;refine (IJ _ _).mono ?_;rintro e w' ⟨rfl,rfl⟩;rw[Aa d])
    go_ret
    exact ⟨Ek (by rw[Aa c,Aa b]),rfl⟩
   ·have b:=Ab (Ey f a);have d:=Ab (show Wh (s[k].toNat:Int)=true from a);clear a;go_wp2_with (go_at_call 96;refine (IJ _ _).mono ?_;rintro e w' ⟨rfl,rfl⟩;rw[Aa d])
    go_round
    case rel=>exact ⟨k+1,by omega,by go_num,by rw[Aa c,Aa b]⟩
    case measure=>simp[intOf];omega
  ·have b:=Ab (Fw (p:=Ed) (s:=s) (j:=k) (by omega));have g: ¬ ((k:Int) < (s.size:Int)):=by omega
   go_wp2
   go_ret
   exact ⟨Ek (by rw[Aa c,Aa b]),rfl⟩
theorem VV (s:ByteArray)(w:World)(hs:s.size≤maxLen):
  Calls Tryz.prog 94 #[.string s,.func (Fn.func 98) #[] #[]] w fun e w'=>e= .returned (.int .i64 (AK GE (Ak s):Nat))∧w'=w:=by
 unfold maxLen at hs;rw[← Gz];go_enter Tryz.func94,Tryz.ntmps94
 go_wp2
 go_loop [5] (fun i=>∃ k:Nat,k≤s.size∧i= .int .i64 k∧Dj GE s 0=Dj GE s k) (fun i=>s.size - (intOf i).toNat)
 case atStart=>exact ⟨0,Nat.zero_le _,rfl,rfl⟩
 case round=>
  obtain ⟨k,hk,rfl,he⟩:=hrel;have c:=Ab he;clear he;by_cases f:k < s.size
  ·have g:(k:Int) < (s.size:Int):=by omega
   cases a:GE s[k]
   ·have b:=Ab (Ew f a);have d:=Ab (show Ra (s[k].toNat:Int)=false from a);clear a;go_wp2_with (go_at_call 98;refine (Iw _ _).mono ?_;rintro e w' ⟨rfl,rfl⟩;rw[Aa d])
    go_ret
    exact ⟨Ek (by rw[Aa c,Aa b]),rfl⟩
   ·have b:=Ab (Ey f a);have d:=Ab (show Ra (s[k].toNat:Int)=true from a);clear a;go_wp2_with (go_at_call 98;refine (Iw _ _).mono ?_;rintro e w' ⟨rfl,rfl⟩;rw[Aa d])
    go_round
    case rel=>exact ⟨k+1,by omega,by go_num,by rw[Aa c,Aa b]⟩
    case measure=>simp[intOf];omega
  ·have b:=Ab (Fw (p:=GE) (s:=s) (j:=k) (by omega));have g: ¬ ((k:Int) < (s.size:Int)):=by omega
   go_wp2
   go_ret
   exact ⟨Ek (by rw[Aa c,Aa b]),rfl⟩
set_option maxHeartbeats 6400000
theorem PK {l:List UInt8} :Gb l=true↔l∈ED:=by rw[Gb,List.contains_iff_mem]
theorem BT {s:ByteArray}{x:List UInt8}(h:(s.toList== x)=true)(hx:x∈ED):Gb (Ak s)=true:=by
 rw[beq_iff_eq,ByteArray.toList_eq] at h;rw[PK,Ak,h];exact hx
theorem Ul {s:ByteArray}(h:∀ x∈ED,(s.toList== x)=false):Gb (Ak s)=false:=by
 cases a:Gb (Ak s)
 ·rfl
 ·have:=h _ (PK.1 a);rw[ByteArray.toList_eq,Ak] at this;simp at this
theorem Rq (s:ByteArray)(w:World):
  Calls Tryz.prog 97 #[.string s] w fun e w'=>e= .returned (.bool (Gb (Ak s)))∧w'=w:=by
 rcases Bool.eq_false_or_eq_true (s.toList== [108,101,116]) with h0 | h0
 ·rw[BT h0 (by decide)];go_enter Tryz.func97,Tryz.ntmps97
  go_wp2
  go_ret
  exact ⟨rfl,rfl⟩
 rcases Bool.eq_false_or_eq_true (s.toList== [119,104,101,110]) with h1 | h1
 ·rw[BT h1 (by decide)];go_enter Tryz.func97,Tryz.ntmps97
  go_wp2
  go_ret
  exact ⟨rfl,rfl⟩
 rcases Bool.eq_false_or_eq_true (s.toList== [101,108,115,101]) with h2 | h2
 ·rw[BT h2 (by decide)];go_enter Tryz.func97,Tryz.ntmps97
  go_wp2
  go_ret
  exact ⟨rfl,rfl⟩
 rcases Bool.eq_false_or_eq_true (s.toList== [100,101,110,121]) with h3 | h3
 ·rw[BT h3 (by decide)];go_enter Tryz.func97,Tryz.ntmps97
  go_wp2
  go_ret
  exact ⟨rfl,rfl⟩
 rcases Bool.eq_false_or_eq_true (s.toList== [103,114,97,110,116]) with h4 | h4
 ·rw[BT h4 (by decide)];go_enter Tryz.func97,Tryz.ntmps97
  go_wp2
  go_ret
  exact ⟨rfl,rfl⟩
 rcases Bool.eq_false_or_eq_true (s.toList== [105,102]) with h5 | h5
 ·rw[BT h5 (by decide)];go_enter Tryz.func97,Tryz.ntmps97
  go_wp2
  go_ret
  exact ⟨rfl,rfl⟩
 rcases Bool.eq_false_or_eq_true (s.toList== [116,104,101,110]) with h6 | h6
 ·rw[BT h6 (by decide)];go_enter Tryz.func97,Tryz.ntmps97
  go_wp2
  go_ret
  exact ⟨rfl,rfl⟩
 rcases Bool.eq_false_or_eq_true (s.toList== [110,111,116]) with h7 | h7
 ·rw[BT h7 (by decide)];go_enter Tryz.func97,Tryz.ntmps97
  go_wp2
  go_ret
  exact ⟨rfl,rfl⟩
 rcases Bool.eq_false_or_eq_true (s.toList== [97,110,100]) with h8 | h8
 ·rw[BT h8 (by decide)];go_enter Tryz.func97,Tryz.ntmps97
  go_wp2
  go_ret
  exact ⟨rfl,rfl⟩
 rcases Bool.eq_false_or_eq_true (s.toList== [111,114]) with h9 | h9
 ·rw[BT h9 (by decide)];go_enter Tryz.func97,Tryz.ntmps97
  go_wp2
  go_ret
  exact ⟨rfl,rfl⟩
 rcases Bool.eq_false_or_eq_true (s.toList== [105,110]) with h10 | h10
 ·rw[BT h10 (by decide)];go_enter Tryz.func97,Tryz.ntmps97
  go_wp2
  go_ret
  exact ⟨rfl,rfl⟩
 rcases Bool.eq_false_or_eq_true (s.toList== [119,105,116,104,105,110]) with h11 | h11
 ·rw[BT h11 (by decide)];go_enter Tryz.func97,Tryz.ntmps97
  go_wp2
  go_ret
  exact ⟨rfl,rfl⟩
 rcases Bool.eq_false_or_eq_true (s.toList== [115,105,122,101]) with h12 | h12
 ·rw[BT h12 (by decide)];go_enter Tryz.func97,Tryz.ntmps97
  go_wp2
  go_ret
  exact ⟨rfl,rfl⟩
 rcases Bool.eq_false_or_eq_true (s.toList== [116,114,117,101]) with h13 | h13
 ·rw[BT h13 (by decide)];go_enter Tryz.func97,Tryz.ntmps97
  go_wp2
  go_ret
  exact ⟨rfl,rfl⟩
 rcases Bool.eq_false_or_eq_true (s.toList== [102,97,108,115,101]) with h14 | h14
 ·rw[BT h14 (by decide)];go_enter Tryz.func97,Tryz.ntmps97
  go_wp2
  go_ret
  exact ⟨rfl,rfl⟩
 rw[Ul (s:=s) (by
  intro x hx;simp only[ED,List.mem_cons,List.not_mem_nil,or_false] at hx;rcases hx with rfl | rfl | rfl | rfl | rfl | rfl | rfl | rfl | rfl | rfl | rfl | rfl | rfl | rfl | rfl <;> assumption)]
 go_enter Tryz.func97,Tryz.ntmps97
 go_wp2
 go_ret
 exact ⟨rfl,rfl⟩
set_option maxHeartbeats 1600000
def Jp (L:List (List UInt8)):Array Value:=(L.map fun l=>Value.string (Ax l)).toArray
theorem Mu {L:List (List UInt8)}{k:Nat}{x:List UInt8}(h:L[k]? =some x):(Jp L)[k]? =some (.string (Ax x)):=by
 simp[Jp,h]
theorem II {s:ByteArray}{x:List UInt8}(h:(s.toList==(Ax x).toList)=true):Ak s=x:=by
 rw[beq_iff_eq,ByteArray.toList_eq,ByteArray.toList_eq] at h;exact h
theorem GJ {s:ByteArray}{x:List UInt8}(h:(s.toList==(Ax x).toList)=false):Ak s≠x:=by
 rw[beq_eq_false_iff_ne,ByteArray.toList_eq,ByteArray.toList_eq] at h;exact h
def FI (L:List (List UInt8)) (k:Nat) (l:List UInt8):Prop:=∀ i,i < k→L[i]? ≠some l
theorem FI.next {L:List (List UInt8)}{k:Nat}{l x:List UInt8}(h:FI L k l)(hx:L[k]? =some x)(a:l≠x):FI L (k+1) l:=fun i hi e=>by
 by_cases hk:i=k
 ·subst hk;rw[hx] at e;exact a (Option.some.inj e).symm
 ·exact h i (by omega) e
theorem FI.all {L:List (List UInt8)}{l:List UInt8}(h:FI L L.length l):L.contains l=false:=by
 rw[← Bool.not_eq_true,List.contains_iff_mem];intro hm;obtain ⟨i,hi,e⟩:=List.getElem_of_mem hm;exact h i hi (by rw[List.getElem?_eq_getElem hi,e])
theorem Mv {L:List (List UInt8)}{k:Nat}{x:List UInt8}(h:L[k]? =some x):L.contains x=true:=by
 rw[List.contains_iff_mem];exact List.mem_of_getElem? h
theorem Lo (s:ByteArray)(w:World):
  Calls Tryz.prog 50 #[.string s] w fun e w'=>e= .returned (.bool (Gb (Ak s)))∧Below w.heap.size w w':=by
 have R:An (w.alloc (.cells #[.string ⟨#[108,101,116]⟩,.string ⟨#[119,104,101,110]⟩,.string ⟨#[101,108,115,101]⟩,.string ⟨#[100,101,110,121]⟩,.string ⟨#[103,114,97,110,116]⟩,.string ⟨#[105,102]⟩,.string ⟨#[116,104,101,110]⟩,.string ⟨#[110,111,116]⟩,.string ⟨#[97,110,100]⟩,.string ⟨#[111,114]⟩,.string ⟨#[105,110]⟩,.string ⟨#[119,105,116,104,105,110]⟩,.string ⟨#[115,105,122,101]⟩,.string ⟨#[116,114,117,101]⟩,.string ⟨#[102,97,108,115,101]⟩] 9)) w.heap.size (Jp ED) 9:=An.new w (Jp ED) 9;have c:=(Below.refl w.heap.size w).alloc NLN (.cells #[.string ⟨#[108,101,116]⟩,.string ⟨#[119,104,101,110]⟩,.string ⟨#[101,108,115,101]⟩,.string ⟨#[100,101,110,121]⟩,.string ⟨#[103,114,97,110,116]⟩,.string ⟨#[105,102]⟩,.string ⟨#[116,104,101,110]⟩,.string ⟨#[110,111,116]⟩,.string ⟨#[97,110,100]⟩,.string ⟨#[111,114]⟩,.string ⟨#[105,110]⟩,.string ⟨#[119,105,116,104,105,110]⟩,.string ⟨#[115,105,122,101]⟩,.string ⟨#[116,114,117,101]⟩,.string ⟨#[102,97,108,115,101]⟩] 9);go_enter Tryz.func50,Tryz.ntmps50
 go_wp2
 generalize w.alloc (.cells #[.string ⟨#[108,101,116]⟩,.string ⟨#[119,104,101,110]⟩,.string ⟨#[101,108,115,101]⟩,.string ⟨#[100,101,110,121]⟩,.string ⟨#[103,114,97,110,116]⟩,.string ⟨#[105,102]⟩,.string ⟨#[116,104,101,110]⟩,.string ⟨#[110,111,116]⟩,.string ⟨#[97,110,100]⟩,.string ⟨#[111,114]⟩,.string ⟨#[105,110]⟩,.string ⟨#[119,105,116,104,105,110]⟩,.string ⟨#[115,105,122,101]⟩,.string ⟨#[116,114,117,101]⟩,.string ⟨#[102,97,108,115,101]⟩] 9)=f at R c ⊢;go_loop [7] (fun i=>∃ k:Nat,k≤15∧i= .int .i64 k∧FI ED k (Ak s)) (fun i=>15 - (intOf i).toNat)
 case atStart=>exact ⟨0,by omega,rfl,fun i hi=>by omega⟩
 case round=>
  obtain ⟨k,hk,rfl,a⟩:=hrel;by_cases d:k < 15
  ·have g:(k:Int) < 15:=by omega
   obtain ⟨x,hx⟩:∃ x,ED[k]? =some x:=⟨ED[k]'d,List.getElem?_eq_getElem d⟩
   have hc:=(R.cell k).trans (Mu hx);rcases Bool.eq_false_or_eq_true (s.toList==(Ax x).toList) with h | h
   ·have b:=Ab (show Gb (Ak s)=true by rw[II h];exact Mv hx);clear a hx;go_wp2
    go_ret
    exact ⟨Ay (Aa b).symm,c⟩
   ·have b:=Ab (a.next hx (GJ h));clear a hx;go_wp2
    go_round
    case rel=>exact ⟨k+1,by omega,by go_num,Aa b⟩
    case measure=>simp[intOf];omega
  ·have e:k=15:=by omega
   subst e;have b:=Ab (show Gb (Ak s)=false from FI.all a);clear a;go_wp2
   go_ret
   exact ⟨Ay (Aa b).symm,c⟩
end Go.Proofs.YtdldimphcpojoaaGreatDoor
