/-
  TS, TI, TW, TV. Own work.
-/
import Derived.Test.YtchakjeegneeoaaGreatDoorMXAC
import Derived.Test.YtchakjeegneeoaaGreatDoorMXAK
import Derived.Test.YtchakjeegneeoaaGreatDoorMXAF
namespace Go.Proofs.YtchakjeegneeoaaGreatDoor
set_option maxHeartbeats 1600000
open Go.RowKit
set_option linter.unusedVariables false
theorem AW (c:Int)(w:World):
  Calls Tryz.prog 66 #[.int .u8 c] w fun e w'=>e= .returned (.bool (JG c))∧w'=w:=by
 go_enter Tryz.func66,Tryz.ntmps66
 go_wp2
 all_goals
  go_ret
  refine ⟨Ag ?_,rfl⟩;rw[zP]
  simp_all[JG]
  try omega
theorem BQ (c:Int)(w:World):
  Calls Tryz.prog 69 #[.int .u8 c] w fun e w'=>e= .returned (.bool (dgI c))∧w'=w:=by
 go_enter Tryz.func69,Tryz.ntmps69
 go_wp2
 all_goals
  go_ret
  refine ⟨Ag ?_,rfl⟩;rw[zP]
  simp_all[dgI]
  try omega
theorem Abe {c:UInt8}(h:Ew c=true):JG (c.toNat:Int)=true∨(JG (c.toNat:Int)=false∧dgI (c.toNat:Int)=true)∨(JG (c.toNat:Int)=false∧dgI (c.toNat:Int)=false∧(c.toNat:Int)=95):=by
 rw[Ew,ZJ] at h;cases h1:JG (c.toNat:Int)
 ·cases h2:dgI (c.toNat:Int)
  ·rw[h1,h2] at h;simp at h;exact .inr (.inr ⟨rfl,rfl,by omega⟩)
  ·exact .inr (.inl ⟨rfl,rfl⟩)
 ·exact .inl rfl
theorem YQ {c:UInt8}(h:Ew c=false):JG (c.toNat:Int)=false∧dgI (c.toNat:Int)=false∧¬ (c.toNat:Int)=95:=by
 rw[Ew,ZJ] at h;simp only[Bool.or_eq_false_iff,decide_eq_false_iff_not] at h;exact ⟨h.1.1,h.1.2,h.2⟩
theorem LJ (s:ByteArray)(j:Nat)(w:World)(hs:s.size≤maxLen)(h:j≤s.size):
  Calls Tryz.prog 67 #[.string s,.int .i64 j] w fun e w'=>e= .returned (.int .i64 (Eb Ew s j:Nat))∧w'=w:=by
 unfold maxLen at hs;go_enter Tryz.func67,Tryz.ntmps67
 go_wp2
 go_loop [1] (fun i=>∃ k:Nat,j≤k∧k≤s.size∧i= .int .i64 k∧Eb Ew s j=Eb Ew s k) (fun i=>s.size - (intOf i).toNat)
 case atStart=>exact ⟨j,NLN,h,rfl,rfl⟩
 case round=>
  obtain ⟨k,m,hk,rfl,he⟩:=hrel;have c:=Ab he;clear he;by_cases g:k < s.size
  ·have l:(k:Int) < (s.size:Int):=by omega
   cases a:Ew s[k]
   ·have b:=Ab (Ft g a);obtain ⟨h1,h2,h3⟩:=YQ a;have d:=Ab h1;have f:=Ab h2;clear a h1 h2;go_wp2_with (first | (go_at_call 66;refine (AW _ _).mono ?_;rintro e w' ⟨rfl,rfl⟩;rw[Aa d]) | (go_at_call 69;refine (BQ _ _).mono ?_;rintro e w' ⟨rfl,rfl⟩;rw[Aa f]))
    go_ret
    exact ⟨Fg (by rw[Aa c,Aa b]),rfl⟩
   ·have b:=Ab (Fu g a);rcases Abe a with h1 | ⟨h1,h2⟩ | ⟨h1,h2,h3⟩
    ·have d:=Ab h1;clear a h1;go_wp2_with (go_at_call 66;refine (AW _ _).mono ?_;rintro e w' ⟨rfl,rfl⟩;rw[Aa d])
     go_round
     case rel=>exact ⟨k+1,by omega,by omega,by go_num,by rw[Aa c,Aa b]⟩
     case measure=>simp[intOf];omega
    ·have d:=Ab h1;have f:=Ab h2;clear a h1 h2;go_wp2_with (first | (go_at_call 66;refine (AW _ _).mono ?_;rintro e w' ⟨rfl,rfl⟩;rw[Aa d]) | (go_at_call 69;refine (BQ _ _).mono ?_;rintro e w' ⟨rfl,rfl⟩;rw[Aa f]))
     go_round
     case rel=>exact ⟨k+1,by omega,by omega,by go_num,by rw[Aa c,Aa b]⟩
     case measure=>simp[intOf];omega
    ·clear a h1 h2;go_wp2_with (first | (go_at_call 66;refine (AW _ _).mono ?_;rintro e w' ⟨rfl,rfl⟩;rw[show JG 95=false from by decide]) | (go_at_call 69;refine (BQ _ _).mono ?_;rintro e w' ⟨rfl,rfl⟩;rw[show dgI 95=false from by decide]))
     go_round
     case rel=>exact ⟨k+1,by omega,by omega,by go_num,by rw[Aa c,Aa b]⟩
     case measure=>simp[intOf];omega
  ·have b:=Ab (GJ (p:=Ew) (s:=s) (j:=k) (by omega));have l: ¬ ((k:Int) < (s.size:Int)):=by omega
   go_wp2
   go_ret
   exact ⟨Fg (by rw[Aa c,Aa b]),rfl⟩
set_option maxHeartbeats 800000
theorem AZ (c:Int)(w:World):
  Calls Tryz.prog 109 #[.int .u8 c] w fun e w'=>e= .returned (.bool (JG c))∧w'=w:=by
 go_enter Tryz.func109,Tryz.ntmps109
 go_wp2
 all_goals
  go_ret
  refine ⟨Ag ?_,rfl⟩;rw[zP]
  simp_all[JG]
  try omega
theorem Ky (c:Int)(w:World):
  Calls Tryz.prog 138 #[.int .u8 c] w fun e w'=>e= .returned (.bool (ZJ c))∧w'=w:=by
 cases h1:JG c
 ·cases h2:dgI c
  ·go_enter Tryz.func138,Tryz.ntmps138
   go_wp2_with (first | (go_at_call 109;refine (AZ _ _).mono ?_;rintro e w' ⟨rfl,rfl⟩;rw[h1]) | (go_at_call 107;refine (Cm _ _).mono ?_;rintro e w' ⟨rfl,rfl⟩;rw[h2]))
   go_ret
   refine ⟨Ag ?_,rfl⟩;rw[ZJ,h1,h2];simp;rfl
  ·go_enter Tryz.func138,Tryz.ntmps138
   go_wp2_with (first | (go_at_call 109;refine (AZ _ _).mono ?_;rintro e w' ⟨rfl,rfl⟩;rw[h1]) | (go_at_call 107;refine (Cm _ _).mono ?_;rintro e w' ⟨rfl,rfl⟩;rw[h2]))
   go_ret
   refine ⟨Ag ?_,rfl⟩;rw[ZJ,h1,h2];simp
 ·go_enter Tryz.func138,Tryz.ntmps138
  go_wp2_with (go_at_call 109;refine (AZ _ _).mono ?_;rintro e w' ⟨rfl,rfl⟩;rw[h1])
  go_ret
  refine ⟨Ag ?_,rfl⟩;rw[ZJ,h1];simp
theorem Aa6 (s:ByteArray)(w:World)(hs:s.size≤maxLen):
  Calls Tryz.prog 136 #[.string s,.func (Fn.func 107) #[] #[]] w fun e w'=>e= .returned (.int .i64 (AR DJ (Ap s):Nat))∧w'=w:=by
 unfold maxLen at hs;rw[← Ja];go_enter Tryz.func136,Tryz.ntmps136
 go_wp2
 go_loop [5] (fun i=>∃ k:Nat,k≤s.size∧i= .int .i64 k∧Eb DJ s 0=Eb DJ s k) (fun i=>s.size - (intOf i).toNat)
 case atStart=>exact ⟨0,zF _,rfl,rfl⟩
 case round=>
  obtain ⟨k,hk,rfl,he⟩:=hrel;have c:=Ab he;clear he;by_cases f:k < s.size
  ·have g:(k:Int) < (s.size:Int):=by omega
   cases a:DJ s[k]
   ·have b:=Ab (Ft f a);have d:=Ab (show dgI (s[k].toNat:Int)=false from a);clear a;go_wp2_with (go_at_call 107;refine (Cm _ _).mono ?_;rintro e w' ⟨rfl,rfl⟩;rw[Aa d])
    go_ret
    exact ⟨Fg (by rw[Aa c,Aa b]),rfl⟩
   ·have b:=Ab (Fu f a);have d:=Ab (show dgI (s[k].toNat:Int)=true from a);clear a;go_wp2_with (go_at_call 107;refine (Cm _ _).mono ?_;rintro e w' ⟨rfl,rfl⟩;rw[Aa d])
    go_round
    case rel=>exact ⟨k+1,by omega,by go_num,by rw[Aa c,Aa b]⟩
    case measure=>simp[intOf];omega
  ·have b:=Ab (GJ (p:=DJ) (s:=s) (j:=k) (by omega));have g: ¬ ((k:Int) < (s.size:Int)):=by omega
   go_wp2
   go_ret
   exact ⟨Fg (by rw[Aa c,Aa b]),rfl⟩
theorem Ox (s:ByteArray)(w:World)(hs:s.size≤maxLen):
  Calls Tryz.prog 136 #[.string s,.func (Fn.func 138) #[] #[]] w fun e w'=>e= .returned (.int .i64 (AR Ew (Ap s):Nat))∧w'=w:=by
 unfold maxLen at hs;rw[← Ja];go_enter Tryz.func136,Tryz.ntmps136
 go_wp2
 go_loop [5] (fun i=>∃ k:Nat,k≤s.size∧i= .int .i64 k∧Eb Ew s 0=Eb Ew s k) (fun i=>s.size - (intOf i).toNat)
 case atStart=>exact ⟨0,zF _,rfl,rfl⟩
 case round=>
  obtain ⟨k,hk,rfl,he⟩:=hrel;have c:=Ab he;clear he;by_cases f:k < s.size
  ·have g:(k:Int) < (s.size:Int):=by omega
   cases a:Ew s[k]
   ·have b:=Ab (Ft f a);have d:=Ab (show ZJ (s[k].toNat:Int)=false from a);clear a;go_wp2_with (go_at_call 138;refine (Ky _ _).mono ?_;rintro e w' ⟨rfl,rfl⟩;rw[Aa d])
    go_ret
    exact ⟨Fg (by rw[Aa c,Aa b]),rfl⟩
   ·have b:=Ab (Fu f a);have d:=Ab (show ZJ (s[k].toNat:Int)=true from a);clear a;go_wp2_with (go_at_call 138;refine (Ky _ _).mono ?_;rintro e w' ⟨rfl,rfl⟩;rw[Aa d])
    go_round
    case rel=>exact ⟨k+1,by omega,by go_num,by rw[Aa c,Aa b]⟩
    case measure=>simp[intOf];omega
  ·have b:=Ab (GJ (p:=Ew) (s:=s) (j:=k) (by omega));have g: ¬ ((k:Int) < (s.size:Int)):=by omega
   go_wp2
   go_ret
   exact ⟨Fg (by rw[Aa c,Aa b]),rfl⟩
theorem Aa7 (s:ByteArray)(w:World)(hs:s.size≤maxLen):
  Calls Tryz.prog 136 #[.string s,.func (Fn.func 140) #[] #[]] w fun e w'=>e= .returned (.int .i64 (AR KO (Ap s):Nat))∧w'=w:=by
 unfold maxLen at hs;rw[← Ja];go_enter Tryz.func136,Tryz.ntmps136
 go_wp2
 go_loop [5] (fun i=>∃ k:Nat,k≤s.size∧i= .int .i64 k∧Eb KO s 0=Eb KO s k) (fun i=>s.size - (intOf i).toNat)
 case atStart=>exact ⟨0,zF _,rfl,rfl⟩
 case round=>
  obtain ⟨k,hk,rfl,he⟩:=hrel;have c:=Ab he;clear he;by_cases f:k < s.size
  ·have g:(k:Int) < (s.size:Int):=by omega
   cases a:KO s[k]
   ·have b:=Ab (Ft f a);have d:=Ab (show US (s[k].toNat:Int)=false from a);clear a;go_wp2_with (go_at_call 140;refine (Fh _ _).mono ?_;rintro e w' ⟨rfl,rfl⟩;rw[Aa d])
    go_ret
    exact ⟨Fg (by rw[Aa c,Aa b]),rfl⟩
   ·have b:=Ab (Fu f a);have d:=Ab (show US (s[k].toNat:Int)=true from a);clear a;go_wp2_with (go_at_call 140;refine (Fh _ _).mono ?_;rintro e w' ⟨rfl,rfl⟩;rw[Aa d])
    go_round
    case rel=>exact ⟨k+1,by omega,by go_num,by rw[Aa c,Aa b]⟩
    case measure=>simp[intOf];omega
  ·have b:=Ab (GJ (p:=KO) (s:=s) (j:=k) (by omega));have g: ¬ ((k:Int) < (s.size:Int)):=by omega
   go_wp2
   go_ret
   exact ⟨Fg (by rw[Aa c,Aa b]),rfl⟩
set_option maxHeartbeats 6400000
theorem Uy {l:List UInt8} :Gz l=true↔l∈FJ:=by rw[Gz,Z2]
theorem Cb {s:ByteArray}{x:List UInt8}(h:(s.toList== x)=true)(hx:x∈FJ):Gz (Ap s)=true:=by
 rw[zN,za] at h;rw[Uy,Ap,h];exact hx
theorem YR {s:ByteArray}(h:∀ x∈FJ,(s.toList== x)=false):Gz (Ap s)=false:=by
 cases a:Gz (Ap s)
 ·rfl
 ·have:=h _ (Uy.1 a);rw[za,Ap] at this;simp at this
theorem OD (s:ByteArray)(w:World):
  Calls Tryz.prog 139 #[.string s] w fun e w'=>e= .returned (.bool (Gz (Ap s)))∧w'=w:=by
 rcases zk (s.toList== [108,101,116]) with h0 | h0
 ·rw[Cb h0 (by decide)];go_enter Tryz.func139,Tryz.ntmps139
  go_wp2
  go_ret
  exact ⟨rfl,rfl⟩
 rcases zk (s.toList== [119,104,101,110]) with h1 | h1
 ·rw[Cb h1 (by decide)];go_enter Tryz.func139,Tryz.ntmps139
  go_wp2
  go_ret
  exact ⟨rfl,rfl⟩
 rcases zk (s.toList== [101,108,115,101]) with h2 | h2
 ·rw[Cb h2 (by decide)];go_enter Tryz.func139,Tryz.ntmps139
  go_wp2
  go_ret
  exact ⟨rfl,rfl⟩
 rcases zk (s.toList== [100,101,110,121]) with h3 | h3
 ·rw[Cb h3 (by decide)];go_enter Tryz.func139,Tryz.ntmps139
  go_wp2
  go_ret
  exact ⟨rfl,rfl⟩
 rcases zk (s.toList== [103,114,97,110,116]) with h4 | h4
 ·rw[Cb h4 (by decide)];go_enter Tryz.func139,Tryz.ntmps139
  go_wp2
  go_ret
  exact ⟨rfl,rfl⟩
 rcases zk (s.toList== [105,102]) with h5 | h5
 ·rw[Cb h5 (by decide)];go_enter Tryz.func139,Tryz.ntmps139
  go_wp2
  go_ret
  exact ⟨rfl,rfl⟩
 rcases zk (s.toList== [116,104,101,110]) with h6 | h6
 ·rw[Cb h6 (by decide)];go_enter Tryz.func139,Tryz.ntmps139
  go_wp2
  go_ret
  exact ⟨rfl,rfl⟩
 rcases zk (s.toList== [110,111,116]) with h7 | h7
 ·rw[Cb h7 (by decide)];go_enter Tryz.func139,Tryz.ntmps139
  go_wp2
  go_ret
  exact ⟨rfl,rfl⟩
 rcases zk (s.toList== [97,110,100]) with h8 | h8
 ·rw[Cb h8 (by decide)];go_enter Tryz.func139,Tryz.ntmps139
  go_wp2
  go_ret
  exact ⟨rfl,rfl⟩
 rcases zk (s.toList== [111,114]) with h9 | h9
 ·rw[Cb h9 (by decide)];go_enter Tryz.func139,Tryz.ntmps139
  go_wp2
  go_ret
  exact ⟨rfl,rfl⟩
 rcases zk (s.toList== [105,110]) with h10 | h10
 ·rw[Cb h10 (by decide)];go_enter Tryz.func139,Tryz.ntmps139
  go_wp2
  go_ret
  exact ⟨rfl,rfl⟩
 rcases zk (s.toList== [119,105,116,104,105,110]) with h11 | h11
 ·rw[Cb h11 (by decide)];go_enter Tryz.func139,Tryz.ntmps139
  go_wp2
  go_ret
  exact ⟨rfl,rfl⟩
 rcases zk (s.toList== [115,105,122,101]) with h12 | h12
 ·rw[Cb h12 (by decide)];go_enter Tryz.func139,Tryz.ntmps139
  go_wp2
  go_ret
  exact ⟨rfl,rfl⟩
 rcases zk (s.toList== [116,114,117,101]) with h13 | h13
 ·rw[Cb h13 (by decide)];go_enter Tryz.func139,Tryz.ntmps139
  go_wp2
  go_ret
  exact ⟨rfl,rfl⟩
 rcases zk (s.toList== [102,97,108,115,101]) with h14 | h14
 ·rw[Cb h14 (by decide)];go_enter Tryz.func139,Tryz.ntmps139
  go_wp2
  go_ret
  exact ⟨rfl,rfl⟩
 rw[YR (s:=s) (by
  intro x hx;simp only[FJ,zE,List.not_mem_nil,or_false] at hx;rcases hx with rfl | rfl | rfl | rfl | rfl | rfl | rfl | rfl | rfl | rfl | rfl | rfl | rfl | rfl | rfl <;> assumption)]
 go_enter Tryz.func139,Tryz.ntmps139
 go_wp2
 go_ret
 exact ⟨rfl,rfl⟩
set_option maxHeartbeats 1600000
def LH (L:List (List UInt8)):Array Value:=(L.map fun l=>Value.string (AB l)).toArray
theorem Qu {L:List (List UInt8)}{k:Nat}{x:List UInt8}(h:L[k]? =some x):(LH L)[k]? =some (.string (AB x)):=by
 simp[LH,h]
theorem Kw {s:ByteArray}{x:List UInt8}(h:(s.toList==(AB x).toList)=true):Ap s=x:=by
 rw[zN,za,za] at h;exact h
theorem Jo {s:ByteArray}{x:List UInt8}(h:(s.toList==(AB x).toList)=false):Ap s≠x:=by
 rw[zB,za,za] at h;exact h
def GX (L:List (List UInt8)) (k:Nat) (l:List UInt8):Prop:=∀ i,i < k→L[i]? ≠some l
theorem GX.next {L:List (List UInt8)}{k:Nat}{l x:List UInt8}(h:GX L k l)(hx:L[k]? =some x)(a:l≠x):GX L (k+1) l:=fun i hi e=>by
 by_cases hk:i=k
 ·subst hk;rw[hx] at e;exact a (Option.some.inj e).symm
 ·exact h i (by omega) e
theorem GX.all {L:List (List UInt8)}{l:List UInt8}(h:GX L L.length l):L.contains l=false:=by
 rw[← Bool.not_eq_true,Z2];intro a;obtain ⟨i,hi,e⟩:=Z1 a;exact h i hi (by rw[zH hi,e])
theorem Qv {L:List (List UInt8)}{k:Nat}{x:List UInt8}(h:L[k]? =some x):L.contains x=true:=by
 rw[Z2];exact z5 h
theorem OB (s:ByteArray)(w:World):
  Calls Tryz.prog 68 #[.string s] w fun e w'=>e= .returned (.bool (Gz (Ap s)))∧Below w.heap.size w w':=by
 have R:Al (w.alloc (.cells #[.string ⟨#[108,101,116]⟩,.string ⟨#[119,104,101,110]⟩,.string ⟨#[101,108,115,101]⟩,.string ⟨#[100,101,110,121]⟩,.string ⟨#[103,114,97,110,116]⟩,.string ⟨#[105,102]⟩,.string ⟨#[116,104,101,110]⟩,.string ⟨#[110,111,116]⟩,.string ⟨#[97,110,100]⟩,.string ⟨#[111,114]⟩,.string ⟨#[105,110]⟩,.string ⟨#[119,105,116,104,105,110]⟩,.string ⟨#[115,105,122,101]⟩,.string ⟨#[116,114,117,101]⟩,.string ⟨#[102,97,108,115,101]⟩] 9)) w.heap.size (LH FJ) 9:=Al.new w (LH FJ) 9;have c:=(Below.refl w.heap.size w).alloc NLN (.cells #[.string ⟨#[108,101,116]⟩,.string ⟨#[119,104,101,110]⟩,.string ⟨#[101,108,115,101]⟩,.string ⟨#[100,101,110,121]⟩,.string ⟨#[103,114,97,110,116]⟩,.string ⟨#[105,102]⟩,.string ⟨#[116,104,101,110]⟩,.string ⟨#[110,111,116]⟩,.string ⟨#[97,110,100]⟩,.string ⟨#[111,114]⟩,.string ⟨#[105,110]⟩,.string ⟨#[119,105,116,104,105,110]⟩,.string ⟨#[115,105,122,101]⟩,.string ⟨#[116,114,117,101]⟩,.string ⟨#[102,97,108,115,101]⟩] 9);go_enter Tryz.func68,Tryz.ntmps68
 go_wp2
 generalize w.alloc (.cells #[.string ⟨#[108,101,116]⟩,.string ⟨#[119,104,101,110]⟩,.string ⟨#[101,108,115,101]⟩,.string ⟨#[100,101,110,121]⟩,.string ⟨#[103,114,97,110,116]⟩,.string ⟨#[105,102]⟩,.string ⟨#[116,104,101,110]⟩,.string ⟨#[110,111,116]⟩,.string ⟨#[97,110,100]⟩,.string ⟨#[111,114]⟩,.string ⟨#[105,110]⟩,.string ⟨#[119,105,116,104,105,110]⟩,.string ⟨#[115,105,122,101]⟩,.string ⟨#[116,114,117,101]⟩,.string ⟨#[102,97,108,115,101]⟩] 9)=W at R c ⊢;go_loop [7] (fun i=>∃ k:Nat,k≤15∧i= .int .i64 k∧GX FJ k (Ap s)) (fun i=>15 - (intOf i).toNat)
 case atStart=>exact ⟨0,by omega,rfl,fun i hi=>by omega⟩
 case round=>
  obtain ⟨k,hk,rfl,a⟩:=hrel;by_cases d:k < 15
  ·have f:(k:Int) < 15:=by omega
   obtain ⟨x,hx⟩:∃ x,FJ[k]? =some x:=⟨FJ[k]'d,zH d⟩
   have hc:=(R.cell k).trans (Qu hx);rcases zk (s.toList==(AB x).toList) with h | h
   ·have b:=Ab (show Gz (Ap s)=true by rw[Kw h];exact Qv hx);clear a hx;go_wp2
    go_ret
    exact ⟨Ag (Aa b).symm,c⟩
   ·have b:=Ab (a.next hx (Jo h));clear a hx;go_wp2
    go_round
    case rel=>exact ⟨k+1,by omega,by go_num,Aa b⟩
    case measure=>simp[intOf];omega
  ·have e:k=15:=by omega
   subst e;have b:=Ab (show Gz (Ap s)=false from GX.all a);clear a;go_wp2
   go_ret
   exact ⟨Ag (Aa b).symm,c⟩
end Go.Proofs.YtchakjeegneeoaaGreatDoor
