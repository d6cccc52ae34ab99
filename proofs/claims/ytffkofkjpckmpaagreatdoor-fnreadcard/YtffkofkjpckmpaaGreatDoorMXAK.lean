/-
  TS, TI, TW, TV. Own work.
-/
import Derived.Test.YtffkofkjpckmpaaGreatDoorMXAI
import Derived.Test.YtffkofkjpckmpaaGreatDoorMXAE
import Derived.Test.YtffkofkjpckmpaaGreatDoorMXAA
import Derived.Test.YtffkofkjpckmpaaGreatDoorMXAD
namespace Go.Proofs.YtffkofkjpckmpaaGreatDoor
set_option maxHeartbeats 1600000
open Go.RowKit
set_option linter.unusedVariables false
theorem A8 (c:Int)(w:World):
  Calls Tryz.prog 69 #[.int .u8 c] w fun e w'=>e= .returned (.bool (I2 c))∧w'=w:=by
 go_enter Tryz.func69,Tryz.ntmps69
 go_wp2
 all_goals
  go_ret
  refine ⟨Ah ?_,rfl⟩;rw[zO]
  simp_all[I2]
  try omega
theorem BU (c:Int)(w:World):
  Calls Tryz.prog 72 #[.int .u8 c] w fun e w'=>e= .returned (.bool (dgI c))∧w'=w:=by
 go_enter Tryz.func72,Tryz.ntmps72
 go_wp2
 all_goals
  go_ret
  refine ⟨Ah ?_,rfl⟩;rw[zO]
  simp_all[dgI]
  try omega
theorem ZW {c:UInt8}(h:Dk c=true):I2 (c.toNat:Int)=true∨(I2 (c.toNat:Int)=false∧dgI (c.toNat:Int)=true)∨(I2 (c.toNat:Int)=false∧dgI (c.toNat:Int)=false∧(c.toNat:Int)=95):=by
 rw[Dk,Vr] at h;cases h1:I2 (c.toNat:Int)
 ·cases h2:dgI (c.toNat:Int)
  ·rw[h1,h2] at h;simp at h;exact .inr (.inr ⟨rfl,rfl,by omega⟩)
  ·exact .inr (.inl ⟨rfl,rfl⟩)
 ·exact .inl rfl
theorem XG {c:UInt8}(h:Dk c=false):I2 (c.toNat:Int)=false∧dgI (c.toNat:Int)=false∧¬ (c.toNat:Int)=95:=by
 rw[Dk,Vr] at h;simp only[Bool.or_eq_false_iff,yH] at h;exact ⟨h.1.1,h.1.2,h.2⟩
theorem La (s:ByteArray)(j:Nat)(w:World)(hs:s.size≤maxLen)(h:j≤s.size):
  Calls Tryz.prog 70 #[.string s,.int .i64 j] w fun e w'=>e= .returned (.int .i64 (DF Dk s j:Nat))∧w'=w:=by
 unfold maxLen at hs;go_enter Tryz.func70,Tryz.ntmps70
 go_wp2
 go_loop [1] (fun i=>∃ k:Nat,j≤k∧k≤s.size∧i= .int .i64 k∧DF Dk s j=DF Dk s k) (fun i=>s.size - (intOf i).toNat)
 case atStart=>exact ⟨j,NLN,h,rfl,rfl⟩
 case round=>
  obtain ⟨k,m,hk,rfl,he⟩:=hrel;have c:=Ab he;clear he;by_cases g:k < s.size
  ·have l:(k:Int) < (s.size:Int):=by omega
   cases a:Dk s[k]
   ·have b:=Ab (E9 g a);obtain ⟨h1,h2,h3⟩:=XG a;have d:=Ab h1;have f:=Ab h2;clear a h1 h2;go_wp2_with (first | (go_at_call 69;refine (A8 _ _).mono ?_;rintro e w' ⟨rfl,rfl⟩;rw[Aa d]) | (go_at_call 72;refine (BU _ _).mono ?_;rintro e w' ⟨rfl,rfl⟩;rw[Aa f]))
    go_ret
    exact ⟨ER (by rw[Aa c,Aa b]),rfl⟩
   ·have b:=Ab (Fa g a);rcases ZW a with h1 | ⟨h1,h2⟩ | ⟨h1,h2,h3⟩
    ·have d:=Ab h1;clear a h1;go_wp2_with (go_at_call 69;refine (A8 _ _).mono ?_;rintro e w' ⟨rfl,rfl⟩;rw[Aa d])
     go_round
     case rel=>exact ⟨k+1,by omega,by omega,by go_num,by rw[Aa c,Aa b]⟩
     case measure=>simp[intOf];omega
    ·have d:=Ab h1;have f:=Ab h2;clear a h1 h2;go_wp2_with (first | (go_at_call 69;refine (A8 _ _).mono ?_;rintro e w' ⟨rfl,rfl⟩;rw[Aa d]) | (go_at_call 72;refine (BU _ _).mono ?_;rintro e w' ⟨rfl,rfl⟩;rw[Aa f]))
     go_round
     case rel=>exact ⟨k+1,by omega,by omega,by go_num,by rw[Aa c,Aa b]⟩
     case measure=>simp[intOf];omega
    ·clear a h1 h2;go_wp2_with (first | (go_at_call 69;refine (A8 _ _).mono ?_;rintro e w' ⟨rfl,rfl⟩;rw[show I2 95=false from by decide]) | (go_at_call 72;refine (BU _ _).mono ?_;rintro e w' ⟨rfl,rfl⟩;rw[show dgI 95=false from by decide]))
     go_round
     case rel=>exact ⟨k+1,by omega,by omega,by go_num,by rw[Aa c,Aa b]⟩
     case measure=>simp[intOf];omega
  ·have b:=Ab (Gp (p:=Dk) (s:=s) (j:=k) (by omega));have l: ¬ ((k:Int) < (s.size:Int)):=by omega
   go_wp2
   go_ret
   exact ⟨ER (by rw[Aa c,Aa b]),rfl⟩
set_option maxHeartbeats 800000
theorem Bc (c:Int)(w:World):
  Calls Tryz.prog 104 #[.int .u8 c] w fun e w'=>e= .returned (.bool (I2 c))∧w'=w:=by
 go_enter Tryz.func104,Tryz.ntmps104
 go_wp2
 all_goals
  go_ret
  refine ⟨Ah ?_,rfl⟩;rw[zO]
  simp_all[I2]
  try omega
theorem J8 (c:Int)(w:World):
  Calls Tryz.prog 106 #[.int .u8 c] w fun e w'=>e= .returned (.bool (Vr c))∧w'=w:=by
 cases h1:I2 c
 ·cases h2:dgI c
  ·go_enter Tryz.func106,Tryz.ntmps106
   go_wp2_with (first | (go_at_call 104;refine (Bc _ _).mono ?_;rintro e w' ⟨rfl,rfl⟩;rw[h1]) | (go_at_call 118;refine (Cm _ _).mono ?_;rintro e w' ⟨rfl,rfl⟩;rw[h2]))
   go_ret
   refine ⟨Ah ?_,rfl⟩;rw[Vr,h1,h2];simp;rfl
  ·go_enter Tryz.func106,Tryz.ntmps106
   go_wp2_with (first | (go_at_call 104;refine (Bc _ _).mono ?_;rintro e w' ⟨rfl,rfl⟩;rw[h1]) | (go_at_call 118;refine (Cm _ _).mono ?_;rintro e w' ⟨rfl,rfl⟩;rw[h2]))
   go_ret
   refine ⟨Ah ?_,rfl⟩;rw[Vr,h1,h2];simp
 ·go_enter Tryz.func106,Tryz.ntmps106
  go_wp2_with (go_at_call 104;refine (Bc _ _).mono ?_;rintro e w' ⟨rfl,rfl⟩;rw[h1])
  go_ret
  refine ⟨Ah ?_,rfl⟩;rw[Vr,h1];simp
theorem ZO (s:ByteArray)(w:World)(hs:s.size≤maxLen):
  Calls Tryz.prog 105 #[.string s,.func (Fn.func 118) #[] #[]] w fun e w'=>e= .returned (.int .i64 (AR CK (Aj s):Nat))∧w'=w:=by
 unfold maxLen at hs;rw[← IJ];go_enter Tryz.func105,Tryz.ntmps105
 go_wp2
 go_loop [5] (fun i=>∃ k:Nat,k≤s.size∧i= .int .i64 k∧DF CK s 0=DF CK s k) (fun i=>s.size - (intOf i).toNat)
 case atStart=>exact ⟨0,zN _,rfl,rfl⟩
 case round=>
  obtain ⟨k,hk,rfl,he⟩:=hrel;have c:=Ab he;clear he;by_cases f:k < s.size
  ·have g:(k:Int) < (s.size:Int):=by omega
   cases a:CK s[k]
   ·have b:=Ab (E9 f a);have d:=Ab (show dgI (s[k].toNat:Int)=false from a);clear a;go_wp2_with (go_at_call 118;refine (Cm _ _).mono ?_;rintro e w' ⟨rfl,rfl⟩;rw[Aa d])
    go_ret
    exact ⟨ER (by rw[Aa c,Aa b]),rfl⟩
   ·have b:=Ab (Fa f a);have d:=Ab (show dgI (s[k].toNat:Int)=true from a);clear a;go_wp2_with (go_at_call 118;refine (Cm _ _).mono ?_;rintro e w' ⟨rfl,rfl⟩;rw[Aa d])
    go_round
    case rel=>exact ⟨k+1,by omega,by go_num,by rw[Aa c,Aa b]⟩
    case measure=>simp[intOf];omega
  ·have b:=Ab (Gp (p:=CK) (s:=s) (j:=k) (by omega));have g: ¬ ((k:Int) < (s.size:Int)):=by omega
   go_wp2
   go_ret
   exact ⟨ER (by rw[Aa c,Aa b]),rfl⟩
theorem Nv (s:ByteArray)(w:World)(hs:s.size≤maxLen):
  Calls Tryz.prog 105 #[.string s,.func (Fn.func 106) #[] #[]] w fun e w'=>e= .returned (.int .i64 (AR Dk (Aj s):Nat))∧w'=w:=by
 unfold maxLen at hs;rw[← IJ];go_enter Tryz.func105,Tryz.ntmps105
 go_wp2
 go_loop [5] (fun i=>∃ k:Nat,k≤s.size∧i= .int .i64 k∧DF Dk s 0=DF Dk s k) (fun i=>s.size - (intOf i).toNat)
 case atStart=>exact ⟨0,zN _,rfl,rfl⟩
 case round=>
  obtain ⟨k,hk,rfl,he⟩:=hrel;have c:=Ab he;clear he;by_cases f:k < s.size
  ·have g:(k:Int) < (s.size:Int):=by omega
   cases a:Dk s[k]
   ·have b:=Ab (E9 f a);have d:=Ab (show Vr (s[k].toNat:Int)=false from a);clear a;go_wp2_with (go_at_call 106;refine (J8 _ _).mono ?_;rintro e w' ⟨rfl,rfl⟩;rw[Aa d])
    go_ret
    exact ⟨ER (by rw[Aa c,Aa b]),rfl⟩
   ·have b:=Ab (Fa f a);have d:=Ab (show Vr (s[k].toNat:Int)=true from a);clear a;go_wp2_with (go_at_call 106;refine (J8 _ _).mono ?_;rintro e w' ⟨rfl,rfl⟩;rw[Aa d])
    go_round
    case rel=>exact ⟨k+1,by omega,by go_num,by rw[Aa c,Aa b]⟩
    case measure=>simp[intOf];omega
  ·have b:=Ab (Gp (p:=Dk) (s:=s) (j:=k) (by omega));have g: ¬ ((k:Int) < (s.size:Int)):=by omega
   go_wp2
   go_ret
   exact ⟨ER (by rw[Aa c,Aa b]),rfl⟩
theorem ZP (s:ByteArray)(w:World)(hs:s.size≤maxLen):
  Calls Tryz.prog 105 #[.string s,.func (Fn.func 103) #[] #[]] w fun e w'=>e= .returned (.int .i64 (AR Jo (Aj s):Nat))∧w'=w:=by
 unfold maxLen at hs;rw[← IJ];go_enter Tryz.func105,Tryz.ntmps105
 go_wp2
 go_loop [5] (fun i=>∃ k:Nat,k≤s.size∧i= .int .i64 k∧DF Jo s 0=DF Jo s k) (fun i=>s.size - (intOf i).toNat)
 case atStart=>exact ⟨0,zN _,rfl,rfl⟩
 case round=>
  obtain ⟨k,hk,rfl,he⟩:=hrel;have c:=Ab he;clear he;by_cases f:k < s.size
  ·have g:(k:Int) < (s.size:Int):=by omega
   cases a:Jo s[k]
   ·have b:=Ab (E9 f a);have d:=Ab (show TG (s[k].toNat:Int)=false from a);clear a;go_wp2_with (go_at_call 103;refine (ES _ _).mono ?_;rintro e w' ⟨rfl,rfl⟩;rw[Aa d])
    go_ret
    exact ⟨ER (by rw[Aa c,Aa b]),rfl⟩
   ·have b:=Ab (Fa f a);have d:=Ab (show TG (s[k].toNat:Int)=true from a);clear a;go_wp2_with (go_at_call 103;refine (ES _ _).mono ?_;rintro e w' ⟨rfl,rfl⟩;rw[Aa d])
    go_round
    case rel=>exact ⟨k+1,by omega,by go_num,by rw[Aa c,Aa b]⟩
    case measure=>simp[intOf];omega
  ·have b:=Ab (Gp (p:=Jo) (s:=s) (j:=k) (by omega));have g: ¬ ((k:Int) < (s.size:Int)):=by omega
   go_wp2
   go_ret
   exact ⟨ER (by rw[Aa c,Aa b]),rfl⟩
set_option maxHeartbeats 6400000
theorem Tn {l:List UInt8} :Fc l=true↔l∈Ff:=by rw[Fc,yB]
theorem Ce {s:ByteArray}{x:List UInt8}(h:(s.toList== x)=true)(hx:x∈Ff):Fc (Aj s)=true:=by
 rw[zI,zZ] at h;rw[Tn,Aj,h];exact hx
theorem XH {s:ByteArray}(h:∀ x∈Ff,(s.toList== x)=false):Fc (Aj s)=false:=by
 cases a:Fc (Aj s)
 ·rfl
 ·have:=h _ (Tn.1 a);rw[zZ,Aj] at this;simp at this
theorem NB (s:ByteArray)(w:World):
  Calls Tryz.prog 107 #[.string s] w fun e w'=>e= .returned (.bool (Fc (Aj s)))∧w'=w:=by
 rcases ze (s.toList== [108,101,116]) with h0 | h0
 ·rw[Ce h0 (by decide)];go_enter Tryz.func107,Tryz.ntmps107
  go_wp2
  go_ret
  exact ⟨rfl,rfl⟩
 rcases ze (s.toList== [119,104,101,110]) with h1 | h1
 ·rw[Ce h1 (by decide)];go_enter Tryz.func107,Tryz.ntmps107
  go_wp2
  go_ret
  exact ⟨rfl,rfl⟩
 rcases ze (s.toList== [101,108,115,101]) with h2 | h2
 ·rw[Ce h2 (by decide)];go_enter Tryz.func107,Tryz.ntmps107
  go_wp2
  go_ret
  exact ⟨rfl,rfl⟩
 rcases ze (s.toList== [100,101,110,121]) with h3 | h3
 ·rw[Ce h3 (by decide)];go_enter Tryz.func107,Tryz.ntmps107
  go_wp2
  go_ret
  exact ⟨rfl,rfl⟩
 rcases ze (s.toList== [103,114,97,110,116]) with h4 | h4
 ·rw[Ce h4 (by decide)];go_enter Tryz.func107,Tryz.ntmps107
  go_wp2
  go_ret
  exact ⟨rfl,rfl⟩
 rcases ze (s.toList== [105,102]) with h5 | h5
 ·rw[Ce h5 (by decide)];go_enter Tryz.func107,Tryz.ntmps107
  go_wp2
  go_ret
  exact ⟨rfl,rfl⟩
 rcases ze (s.toList== [116,104,101,110]) with h6 | h6
 ·rw[Ce h6 (by decide)];go_enter Tryz.func107,Tryz.ntmps107
  go_wp2
  go_ret
  exact ⟨rfl,rfl⟩
 rcases ze (s.toList== [110,111,116]) with h7 | h7
 ·rw[Ce h7 (by decide)];go_enter Tryz.func107,Tryz.ntmps107
  go_wp2
  go_ret
  exact ⟨rfl,rfl⟩
 rcases ze (s.toList== [97,110,100]) with h8 | h8
 ·rw[Ce h8 (by decide)];go_enter Tryz.func107,Tryz.ntmps107
  go_wp2
  go_ret
  exact ⟨rfl,rfl⟩
 rcases ze (s.toList== [111,114]) with h9 | h9
 ·rw[Ce h9 (by decide)];go_enter Tryz.func107,Tryz.ntmps107
  go_wp2
  go_ret
  exact ⟨rfl,rfl⟩
 rcases ze (s.toList== [105,110]) with h10 | h10
 ·rw[Ce h10 (by decide)];go_enter Tryz.func107,Tryz.ntmps107
  go_wp2
  go_ret
  exact ⟨rfl,rfl⟩
 rcases ze (s.toList== [119,105,116,104,105,110]) with h11 | h11
 ·rw[Ce h11 (by decide)];go_enter Tryz.func107,Tryz.ntmps107
  go_wp2
  go_ret
  exact ⟨rfl,rfl⟩
 rcases ze (s.toList== [115,105,122,101]) with h12 | h12
 ·rw[Ce h12 (by decide)];go_enter Tryz.func107,Tryz.ntmps107
  go_wp2
  go_ret
  exact ⟨rfl,rfl⟩
 rcases ze (s.toList== [116,114,117,101]) with h13 | h13
 ·rw[Ce h13 (by decide)];go_enter Tryz.func107,Tryz.ntmps107
  go_wp2
  go_ret
  exact ⟨rfl,rfl⟩
 rcases ze (s.toList== [102,97,108,115,101]) with h14 | h14
 ·rw[Ce h14 (by decide)];go_enter Tryz.func107,Tryz.ntmps107
  go_wp2
  go_ret
  exact ⟨rfl,rfl⟩
 rw[XH (s:=s) (by
  intro x hx;simp only[Ff,zG,List.not_mem_nil,or_false] at hx;rcases hx with rfl | rfl | rfl | rfl | rfl | rfl | rfl | rfl | rfl | rfl | rfl | rfl | rfl | rfl | rfl <;> assumption)]
 go_enter Tryz.func107,Tryz.ntmps107
 go_wp2
 go_ret
 exact ⟨rfl,rfl⟩
set_option maxHeartbeats 1600000
def KZ (L:List (List UInt8)):Array Value:=(L.map fun l=>Value.string (AB l)).toArray
theorem Px {L:List (List UInt8)}{k:Nat}{x:List UInt8}(h:L[k]? =some x):(KZ L)[k]? =some (.string (AB x)):=by
 simp[KZ,h]
theorem J6 {s:ByteArray}{x:List UInt8}(h:(s.toList==(AB x).toList)=true):Aj s=x:=by
 rw[zI,zZ,zZ] at h;exact h
theorem I3 {s:ByteArray}{x:List UInt8}(h:(s.toList==(AB x).toList)=false):Aj s≠x:=by
 rw[zA,zZ,zZ] at h;exact h
def GH (L:List (List UInt8)) (k:Nat) (l:List UInt8):Prop:=∀ i,i < k→L[i]? ≠some l
theorem GH.next {L:List (List UInt8)}{k:Nat}{l x:List UInt8}(h:GH L k l)(hx:L[k]? =some x)(a:l≠x):GH L (k+1) l:=fun i hi e=>by
 by_cases hk:i=k
 ·subst hk;rw[hx] at e;exact a (Option.some.inj e).symm
 ·exact h i (by omega) e
theorem GH.all {L:List (List UInt8)}{l:List UInt8}(h:GH L L.length l):L.contains l=false:=by
 rw[← Bool.not_eq_true,yB];intro hm;obtain ⟨i,hi,e⟩:=yE hm;exact h i hi (by rw[zM hi,e])
theorem Py {L:List (List UInt8)}{k:Nat}{x:List UInt8}(h:L[k]? =some x):L.contains x=true:=by
 rw[yB];exact Z7 h
theorem Ny (s:ByteArray)(w:World):
  Calls Tryz.prog 71 #[.string s] w fun e w'=>e= .returned (.bool (Fc (Aj s)))∧Below w.heap.size w w':=by
 have R:Am (w.alloc (.cells #[.string ⟨#[108,101,116]⟩,.string ⟨#[119,104,101,110]⟩,.string ⟨#[101,108,115,101]⟩,.string ⟨#[100,101,110,121]⟩,.string ⟨#[103,114,97,110,116]⟩,.string ⟨#[105,102]⟩,.string ⟨#[116,104,101,110]⟩,.string ⟨#[110,111,116]⟩,.string ⟨#[97,110,100]⟩,.string ⟨#[111,114]⟩,.string ⟨#[105,110]⟩,.string ⟨#[119,105,116,104,105,110]⟩,.string ⟨#[115,105,122,101]⟩,.string ⟨#[116,114,117,101]⟩,.string ⟨#[102,97,108,115,101]⟩] 9)) w.heap.size (KZ Ff) 9:=Am.new w (KZ Ff) 9;have c:=(Below.refl w.heap.size w).alloc NLN (.cells #[.string ⟨#[108,101,116]⟩,.string ⟨#[119,104,101,110]⟩,.string ⟨#[101,108,115,101]⟩,.string ⟨#[100,101,110,121]⟩,.string ⟨#[103,114,97,110,116]⟩,.string ⟨#[105,102]⟩,.string ⟨#[116,104,101,110]⟩,.string ⟨#[110,111,116]⟩,.string ⟨#[97,110,100]⟩,.string ⟨#[111,114]⟩,.string ⟨#[105,110]⟩,.string ⟨#[119,105,116,104,105,110]⟩,.string ⟨#[115,105,122,101]⟩,.string ⟨#[116,114,117,101]⟩,.string ⟨#[102,97,108,115,101]⟩] 9);go_enter Tryz.func71,Tryz.ntmps71
 go_wp2
 generalize w.alloc (.cells #[.string ⟨#[108,101,116]⟩,.string ⟨#[119,104,101,110]⟩,.string ⟨#[101,108,115,101]⟩,.string ⟨#[100,101,110,121]⟩,.string ⟨#[103,114,97,110,116]⟩,.string ⟨#[105,102]⟩,.string ⟨#[116,104,101,110]⟩,.string ⟨#[110,111,116]⟩,.string ⟨#[97,110,100]⟩,.string ⟨#[111,114]⟩,.string ⟨#[105,110]⟩,.string ⟨#[119,105,116,104,105,110]⟩,.string ⟨#[115,105,122,101]⟩,.string ⟨#[116,114,117,101]⟩,.string ⟨#[102,97,108,115,101]⟩] 9)=f at R c ⊢;go_loop [7] (fun i=>∃ k:Nat,k≤15∧i= .int .i64 k∧GH Ff k (Aj s)) (fun i=>15 - (intOf i).toNat)
 case atStart=>exact ⟨0,by omega,rfl,fun i hi=>by omega⟩
 case round=>
  obtain ⟨k,hk,rfl,a⟩:=hrel;by_cases d:k < 15
  ·have g:(k:Int) < 15:=by omega
   obtain ⟨x,hx⟩:∃ x,Ff[k]? =some x:=⟨Ff[k]'d,zM d⟩
   have hc:=(R.cell k).trans (Px hx);rcases ze (s.toList==(AB x).toList) with h | h
   ·have b:=Ab (show Fc (Aj s)=true by rw[J6 h];exact Py hx);clear a hx;go_wp2
    go_ret
    exact ⟨Ah (Aa b).symm,c⟩
   ·have b:=Ab (a.next hx (I3 h));clear a hx;go_wp2
    go_round
    case rel=>exact ⟨k+1,by omega,by go_num,Aa b⟩
    case measure=>simp[intOf];omega
  ·have e:k=15:=by omega
   subst e;have b:=Ab (show Fc (Aj s)=false from GH.all a);clear a;go_wp2
   go_ret
   exact ⟨Ah (Aa b).symm,c⟩
end Go.Proofs.YtffkofkjpckmpaaGreatDoor
