/-
  TW, TV, VPA, VPB. Own work.
-/
import Derived.Test.YtoplnhndilmlcaaGreatDoorMXAE
import Derived.Test.YtoplnhndilmlcaaGreatDoorMXAC
import Derived.Deep.RegionHeld3
namespace Go.Proofs.YtoplnhndilmlcaaGreatDoor
set_option maxHeartbeats 6400000
open Go.RowKit
set_option linter.unusedVariables false
theorem RU {l:List UInt8} :FF l=true↔l∈EC:=by rw[FF,List.contains_iff_mem]
theorem BD {s:ByteArray}{x:List UInt8}(h:(s.toList== x)=true)(hx:x∈EC):FF (Al s)=true:=by
 rw[beq_iff_eq,ByteArray.toList_eq] at h;rw[RU,Al,h];exact hx
theorem Wo {s:ByteArray}(h:∀ x∈EC,(s.toList== x)=false):FF (Al s)=false:=by
 cases a:FF (Al s)
 ·rfl
 ·have:=h _ (RU.1 a);rw[ByteArray.toList_eq,Al] at this;simp at this
theorem ML (s:ByteArray)(w:World):
  Calls Tryz.prog 96 #[.string s] w fun e w'=>e= .returned (.bool (FF (Al s)))∧w'=w:=by
 rcases Bool.eq_false_or_eq_true (s.toList== [108,101,116]) with h0 | h0
 ·rw[BD h0 (by decide)];go_enter Tryz.func96,Tryz.ntmps96
  go_wp2
  go_ret
  exact ⟨rfl,rfl⟩
 rcases Bool.eq_false_or_eq_true (s.toList== [119,104,101,110]) with h1 | h1
 ·rw[BD h1 (by decide)];go_enter Tryz.func96,Tryz.ntmps96
  go_wp2
  go_ret
  exact ⟨rfl,rfl⟩
 rcases Bool.eq_false_or_eq_true (s.toList== [101,108,115,101]) with h2 | h2
 ·rw[BD h2 (by decide)];go_enter Tryz.func96,Tryz.ntmps96
  go_wp2
  go_ret
  exact ⟨rfl,rfl⟩
 rcases Bool.eq_false_or_eq_true (s.toList== [100,101,110,121]) with h3 | h3
 ·rw[BD h3 (by decide)];go_enter Tryz.func96,Tryz.ntmps96
  go_wp2
  go_ret
  exact ⟨rfl,rfl⟩
 rcases Bool.eq_false_or_eq_true (s.toList== [103,114,97,110,116]) with h4 | h4
 ·rw[BD h4 (by decide)];go_enter Tryz.func96,Tryz.ntmps96
  go_wp2
  go_ret
  exact ⟨rfl,rfl⟩
 rcases Bool.eq_false_or_eq_true (s.toList== [105,102]) with h5 | h5
 ·rw[BD h5 (by decide)];go_enter Tryz.func96,Tryz.ntmps96
  go_wp2
  go_ret
  exact ⟨rfl,rfl⟩
 rcases Bool.eq_false_or_eq_true (s.toList== [116,104,101,110]) with h6 | h6
 ·rw[BD h6 (by decide)];go_enter Tryz.func96,Tryz.ntmps96
  go_wp2
  go_ret
  exact ⟨rfl,rfl⟩
 rcases Bool.eq_false_or_eq_true (s.toList== [110,111,116]) with h7 | h7
 ·rw[BD h7 (by decide)];go_enter Tryz.func96,Tryz.ntmps96
  go_wp2
  go_ret
  exact ⟨rfl,rfl⟩
 rcases Bool.eq_false_or_eq_true (s.toList== [97,110,100]) with h8 | h8
 ·rw[BD h8 (by decide)];go_enter Tryz.func96,Tryz.ntmps96
  go_wp2
  go_ret
  exact ⟨rfl,rfl⟩
 rcases Bool.eq_false_or_eq_true (s.toList== [111,114]) with h9 | h9
 ·rw[BD h9 (by decide)];go_enter Tryz.func96,Tryz.ntmps96
  go_wp2
  go_ret
  exact ⟨rfl,rfl⟩
 rcases Bool.eq_false_or_eq_true (s.toList== [105,110]) with h10 | h10
 ·rw[BD h10 (by decide)];go_enter Tryz.func96,Tryz.ntmps96
  go_wp2
  go_ret
  exact ⟨rfl,rfl⟩
 rcases Bool.eq_false_or_eq_true (s.toList== [119,105,116,104,105,110]) with h11 | h11
 ·rw[BD h11 (by decide)];go_enter Tryz.func96,Tryz.ntmps96
  go_wp2
  go_ret
  exact ⟨rfl,rfl⟩
 rcases Bool.eq_false_or_eq_true (s.toList== [115,105,122,101]) with h12 | h12
 ·rw[BD h12 (by decide)];go_enter Tryz.func96,Tryz.ntmps96
  go_wp2
  go_ret
  exact ⟨rfl,rfl⟩
 rcases Bool.eq_false_or_eq_true (s.toList== [116,114,117,101]) with h13 | h13
 ·rw[BD h13 (by decide)];go_enter Tryz.func96,Tryz.ntmps96
  go_wp2
  go_ret
  exact ⟨rfl,rfl⟩
 rcases Bool.eq_false_or_eq_true (s.toList== [102,97,108,115,101]) with h14 | h14
 ·rw[BD h14 (by decide)];go_enter Tryz.func96,Tryz.ntmps96
  go_wp2
  go_ret
  exact ⟨rfl,rfl⟩
 rw[Wo (s:=s) (by
  intro x hx;simp only[EC,List.mem_cons,List.not_mem_nil,or_false] at hx;rcases hx with rfl | rfl | rfl | rfl | rfl | rfl | rfl | rfl | rfl | rfl | rfl | rfl | rfl | rfl | rfl <;> assumption)]
 go_enter Tryz.func96,Tryz.ntmps96
 go_wp2
 go_ret
 exact ⟨rfl,rfl⟩
set_option maxHeartbeats 1600000
def PN (L:List (List UInt8)):Array Value:=(L.map fun l=>Value.string (Bg l)).toArray
theorem Wm {L:List (List UInt8)}{k:Nat}{x:List UInt8}(h:L[k]? =some x):(PN L)[k]? =some (.string (Bg x)):=by
 simp[PN,h]
theorem PO {s:ByteArray}{x:List UInt8}(h:(s.toList==(Bg x).toList)=true):Al s=x:=by
 rw[beq_iff_eq,ByteArray.toList_eq,ByteArray.toList_eq] at h;exact h
theorem Ns {s:ByteArray}{x:List UInt8}(h:(s.toList==(Bg x).toList)=false):Al s≠x:=by
 rw[beq_eq_false_iff_ne,ByteArray.toList_eq,ByteArray.toList_eq] at h;exact h
def Iv (L:List (List UInt8)) (k:Nat) (l:List UInt8):Prop:=∀ i,i < k→L[i]? ≠some l
theorem Iv.next {L:List (List UInt8)}{k:Nat}{l x:List UInt8}(h:Iv L k l)(hx:L[k]? =some x)(a:l≠x):Iv L (k+1) l:=fun i hi e=>by
 by_cases hk:i=k
 ·subst hk;rw[hx] at e;exact a (Option.some.inj e).symm
 ·exact h i (by omega) e
theorem Iv.all {L:List (List UInt8)}{l:List UInt8}(h:Iv L L.length l):L.contains l=false:=by
 rw[← Bool.not_eq_true,List.contains_iff_mem];intro hm;obtain ⟨i,hi,e⟩:=List.getElem_of_mem hm;exact h i hi (by rw[List.getElem?_eq_getElem hi,e])
theorem Wn {L:List (List UInt8)}{k:Nat}{x:List UInt8}(h:L[k]? =some x):L.contains x=true:=by
 rw[List.contains_iff_mem];exact List.mem_of_getElem? h
theorem TJ (s:ByteArray)(w:World):
  Calls Tryz.prog 74 #[.string s] w fun e w'=>e= .returned (.bool (FF (Al s)))∧Below w.heap.size w w':=by
 have R:Aj (w.alloc (.cells #[.string ⟨#[108,101,116]⟩,.string ⟨#[119,104,101,110]⟩,.string ⟨#[101,108,115,101]⟩,.string ⟨#[100,101,110,121]⟩,.string ⟨#[103,114,97,110,116]⟩,.string ⟨#[105,102]⟩,.string ⟨#[116,104,101,110]⟩,.string ⟨#[110,111,116]⟩,.string ⟨#[97,110,100]⟩,.string ⟨#[111,114]⟩,.string ⟨#[105,110]⟩,.string ⟨#[119,105,116,104,105,110]⟩,.string ⟨#[115,105,122,101]⟩,.string ⟨#[116,114,117,101]⟩,.string ⟨#[102,97,108,115,101]⟩] 9)) w.heap.size (PN EC) 9:=Aj.new w (PN EC) 9;have c:=(Below.refl w.heap.size w).alloc NLN (.cells #[.string ⟨#[108,101,116]⟩,.string ⟨#[119,104,101,110]⟩,.string ⟨#[101,108,115,101]⟩,.string ⟨#[100,101,110,121]⟩,.string ⟨#[103,114,97,110,116]⟩,.string ⟨#[105,102]⟩,.string ⟨#[116,104,101,110]⟩,.string ⟨#[110,111,116]⟩,.string ⟨#[97,110,100]⟩,.string ⟨#[111,114]⟩,.string ⟨#[105,110]⟩,.string ⟨#[119,105,116,104,105,110]⟩,.string ⟨#[115,105,122,101]⟩,.string ⟨#[116,114,117,101]⟩,.string ⟨#[102,97,108,115,101]⟩] 9);go_enter Tryz.func74,Tryz.ntmps74
 go_wp2
 generalize w.alloc (.cells #[.string ⟨#[108,101,116]⟩,.string ⟨#[119,104,101,110]⟩,.string ⟨#[101,108,115,101]⟩,.string ⟨#[100,101,110,121]⟩,.string ⟨#[103,114,97,110,116]⟩,.string ⟨#[105,102]⟩,.string ⟨#[116,104,101,110]⟩,.string ⟨#[110,111,116]⟩,.string ⟨#[97,110,100]⟩,.string ⟨#[111,114]⟩,.string ⟨#[105,110]⟩,.string ⟨#[119,105,116,104,105,110]⟩,.string ⟨#[115,105,122,101]⟩,.string ⟨#[116,114,117,101]⟩,.string ⟨#[102,97,108,115,101]⟩] 9)=f at R c ⊢;go_loop [7] (fun i=>∃ k:Nat,k≤15∧i= .int .i64 k∧Iv EC k (Al s)) (fun i=>15 - (intOf i).toNat)
 case atStart=>exact ⟨0,by omega,rfl,fun i hi=>by omega⟩
 case round=>
  obtain ⟨k,hk,rfl,a⟩:=hrel;by_cases d:k < 15
  ·have g:(k:Int) < 15:=by omega
   obtain ⟨x,hx⟩:∃ x,EC[k]? =some x:=⟨EC[k]'d,List.getElem?_eq_getElem d⟩
   have hc:=(R.cell k).trans (Wm hx);rcases Bool.eq_false_or_eq_true (s.toList==(Bg x).toList) with h | h
   ·have b:=Ab (show FF (Al s)=true by rw[PO h];exact Wn hx);clear a hx;go_wp2
    go_ret
    exact ⟨Ag (Aa b).symm,c⟩
   ·have b:=Ab (a.next hx (Ns h));clear a hx;go_wp2
    go_round
    case rel=>exact ⟨k+1,by omega,by go_num,Aa b⟩
    case measure=>simp[intOf];omega
  ·have e:k=15:=by omega
   subst e;have b:=Ab (show FF (Al s)=false from Iv.all a);clear a;go_wp2
   go_ret
   exact ⟨Ag (Aa b).symm,c⟩
theorem Wp (p:UInt8→Bool)(r:List UInt8):AN p r=r.length↔r.all p=true:=by
 constructor
 ·intro h;have:=RR p r
  rwa[h,List.take_length] at this
 ·intro h;have e:r.takeWhile p=r:=by
   induction r with
   | nil=>rfl
   | cons c r a=>
    rw[List.all_cons,Bool.and_eq_true] at h;rw[List.takeWhile_cons,if_pos h.1,a h.2]
  rw[AN,e]
theorem Ou {s:ByteArray}(h0: 0 < s.size):Bq s=(decide (s.size≤32) && KW (s[0].toNat:Int) && decide (AN DJ (Al s)=s.size) && !FF (Al s)):=by
 have h:=BY s 0 h0;rw[List.drop_zero] at h;have a:(Al s).length=s.size:=Av s;have b:decide (AN DJ (Al s)=s.size)=(Al s).all DJ:=by rw[← a,Bool.eq_iff_iff,decide_eq_true_iff];exact Wp DJ (Al s)
 rw[b,← a];generalize (Al s).drop (0+1)=q at h;rw[Bq,h];rfl
theorem Kv {s:ByteArray}(h0:s.size=0):Bq s=false:=by
 have:Al s= []:=List.eq_nil_of_length_eq_zero (by rw[Av];exact h0);rw[Bq,this]
theorem Dl (s:ByteArray)(w:World)(hs:s.size≤1048576):
  Calls Tryz.prog 36 #[.string s] w fun e w'=>e= .returned (.bool (Bq s))∧Below w.heap.size w w':=by
 by_cases h0:s.size=0
 ·have k: ¬ ((0 :Int) < (s.size:Int)):=by omega
  rw[Kv h0];go_enter Tryz.func36,Tryz.ntmps36
  go_wp2
  go_ret
  exact ⟨rfl,BRN⟩
 have l: 0 < s.size:=by omega
 have k:(0 :Int) < (s.size:Int):=by omega
 have c:=Ab (Ou l);by_cases g:s.size≤32
 case neg=>
  have m: ¬ ((s.size:Int)≤32):=by omega
  have o:(32 :Int) < (s.size:Int):=by omega
  go_enter Tryz.func36,Tryz.ntmps36
  go_wp2
  go_ret
  exact ⟨Ag (by rw[Aa c];simp[g]),BRN⟩
 have m:(s.size:Int)≤32:=by omega
 cases d:KW (s[0].toNat:Int)
 ·have b:=Ab d;clear d;go_enter Tryz.func36,Tryz.ntmps36
  go_wp2_with (go_at_call 72;refine (Cl _ _).mono ?_;rintro e w' ⟨rfl,a⟩;rw[Aa b,a];clear a)
  go_ret
  exact ⟨Ag (by rw[Aa c,Aa b];simp),BRN⟩
 have b:=Ab d;clear d;have h:=Ab (Hu DJ s);by_cases i:AN DJ (Al s)=s.size
 ·have n:(((AN DJ (Al s):Nat):Int)==(s.size:Int))=true:=beq_iff_eq.2 (by omega);go_enter Tryz.func36,Tryz.ntmps36
  go_wp2_with (first | (go_at_call 72;refine (Cl _ _).mono ?_;rintro e w' ⟨rfl,a⟩;rw[Aa b,a];clear a) | (go_at_call 73;refine (Oq s 0 _ (by unfold maxLen;omega) (by omega)).mono ?_;rintro e w' ⟨rfl,a⟩;rw[Aa h,a];clear a))
  refine (TJ s _).mono ?_;rintro e p ⟨rfl,j⟩;cases a:FF (Al s)
  ·have f:=Ab a;clear a;go_wp2
   go_ret
   exact ⟨Ag (by rw[Aa c,Aa b,Aa f];simp[g,i]),j⟩
  ·have f:=Ab a;clear a;go_wp2
   go_ret
   exact ⟨Ag (by rw[Aa c,Aa f];simp),j⟩
 ·have n:(((AN DJ (Al s):Nat):Int)==(s.size:Int))=false:=beq_eq_false_iff_ne.2 (by omega);go_enter Tryz.func36,Tryz.ntmps36
  go_wp2_with (first | (go_at_call 72;refine (Cl _ _).mono ?_;rintro e w' ⟨rfl,a⟩;rw[Aa b,a];clear a) | (go_at_call 73;refine (Oq s 0 _ (by unfold maxLen;omega) (by omega)).mono ?_;rintro e w' ⟨rfl,a⟩;rw[Aa h,a];clear a))
  go_ret
  exact ⟨Ag (by rw[Aa c];simp[i]),BRN⟩
theorem CZ (s:ByteArray)(w:World)(hs:s.size≤1048576):
  Calls Tryz.prog 58 #[.string s] w fun e w'=>e= .returned (.bool (Bq s))∧w'=w:=by
 by_cases h0:s.size=0
 ·rw[Kv h0];have he:=Fz h0;subst he;go_enter Tryz.func58,Tryz.ntmps58
  go_wp2
  go_ret
  exact ⟨rfl,rfl⟩
 have j: 0 < s.size:=by omega
 have m:(0 :Int) < (s.size:Int):=by omega
 have n:=FN h0;have c:=Ab (Ou j);by_cases g:s.size≤32
 case neg=>
  have k: ¬ ((s.size:Int)≤32):=by omega
  have o:(32 :Int) < (s.size:Int):=by omega
  go_enter Tryz.func58,Tryz.ntmps58
  go_wp2
  go_ret
  exact ⟨Ag (by rw[Aa c];simp[g]),rfl⟩
 have k:(s.size:Int)≤32:=by omega
 cases d:KW (s[0].toNat:Int)
 ·have b:=Ab d;clear d;go_enter Tryz.func58,Tryz.ntmps58
  go_wp2_with (go_at_call 93;refine (AQ _ _).mono ?_;rintro e w' ⟨rfl,a⟩;rw[Aa b,a];clear a)
  go_ret
  exact ⟨Ag (by rw[Aa c,Aa b];simp),rfl⟩
 have b:=Ab d;clear d;by_cases h:AN DJ (Al s)=s.size
 ·have l:(((AN DJ (Al s):Nat):Int)==(s.size:Int))=true:=beq_iff_eq.2 (by omega);go_enter Tryz.func58,Tryz.ntmps58
  go_wp2_with (first | (go_at_call 93;refine (AQ _ _).mono ?_;rintro e w' ⟨rfl,a⟩;rw[Aa b,a];clear a) | (go_at_call 94;refine (MI s _ (by unfold maxLen;omega)).mono ?_;rintro e w' ⟨rfl,a⟩;rw[a];clear a))
  refine (ML s _).mono ?_;rintro e p ⟨rfl,i⟩;rw[i];clear i;cases a:FF (Al s)
  ·have f:=Ab a;clear a;go_wp2
   go_ret
   exact ⟨Ag (by rw[Aa c,Aa b,Aa f];simp[g,h]),rfl⟩
  ·have f:=Ab a;clear a;go_wp2
   go_ret
   exact ⟨Ag (by rw[Aa c,Aa f];simp),rfl⟩
 ·have l:(((AN DJ (Al s):Nat):Int)==(s.size:Int))=false:=beq_eq_false_iff_ne.2 (by omega);go_enter Tryz.func58,Tryz.ntmps58
  go_wp2_with (first | (go_at_call 93;refine (AQ _ _).mono ?_;rintro e w' ⟨rfl,a⟩;rw[Aa b,a];clear a) | (go_at_call 94;refine (MI s _ (by unfold maxLen;omega)).mono ?_;rintro e w' ⟨rfl,a⟩;rw[a];clear a))
  go_ret
  exact ⟨Ag (by rw[Aa c];simp[h]),rfl⟩
theorem Iw (s:ByteArray):BP s=(decide (s.size≤32) && Ic s.data.toList):=rfl
theorem TK (s:ByteArray):BP s=(decide (s.size=0) || vnB s):=by
 rw[Iw,vnB];by_cases h:s.size=0
 ·have e:=Fz h;subst e;rfl
 ·rw[show decide (s.size=0)=false from decide_eq_false h,Bool.false_or,show decide (1≤s.size∧s.size≤32)=decide (s.size≤32) by rw[decide_eq_decide];omega]
theorem Jp (s:ByteArray)(w:World)(hs:s.size≤1048576):
  Calls Tryz.prog 70 #[.string s] w fun e w'=>e= .returned (.bool (BP s))∧w'=w:=by
 by_cases h0:s.size=0
 ·have e:=Fz h0;subst e;go_enter Tryz.func70,Tryz.ntmps70
  go_wp2
  go_ret
  exact ⟨rfl,rfl⟩
 ·have c:=FN h0;have b:=Ab (show BP s=vnB s by rw[TK,decide_eq_false h0,Bool.false_or]);go_enter Tryz.func70,Tryz.ntmps70
  go_wp2_with (go_at_call 104;refine (EJ _ _ (by unfold maxLen;omega)).mono ?_;rintro e w' ⟨rfl,a⟩;rw[a];clear a)
  go_ret
  exact ⟨Ag (Aa b).symm,rfl⟩
theorem MP (op:Int)(w:World):
  Calls Tryz.prog 69 #[.int .i64 op] w fun e w'=>e= .returned (.int .i64 (Fx op))∧w'=w:=by
 go_enter Tryz.func69,Tryz.ntmps69
 go_wp2
 all_goals
  go_ret
  refine ⟨Ek ?_,rfl⟩;unfold Fx
  simp_all
  try omega
set_option maxRecDepth 100000
set_option maxHeartbeats 3200000
theorem PP {w:World}{b:Nat}{v0 v1 a c d:Value}{t:TypeId}(R:Aj w b #[v0,v1,a,c,d] t):w.cell? ⟨b,0,none⟩=some v0∧w.cell? ⟨b,1,none⟩=some v1∧w.cell? ⟨b,2,none⟩=some a∧w.cell? ⟨b,3,none⟩=some c∧w.cell? ⟨b,4,none⟩=some d∧∀ j,w.frozen? ⟨b,j,none⟩=false:=
 ⟨by simpa using R.cell 0,by simpa using R.cell 1,by simpa using R.cell 2,by simpa using R.cell 3,by simpa using R.cell 4,fun j=>R.frozen j⟩
theorem Bb.drew' {w:World}{a:Option Addr}{n c:Nat}{b:List ByteArray}(h:Bb w a n c b):Bb w.drew a n c b:=⟨h.len,h.cap,h.small,h.sizes,h.cells⟩
theorem Cu (s:ByteArray):s.toList= []↔s.size=0:=by
 rw[ByteArray.toList_eq,← List.length_eq_zero_iff];have:s.data.toList.length=s.size:=by simp
 rw[this]
def ndV (op num:Int) (text:ByteArray) (an:Option Addr) (nn cn:Nat) (ak:Option Addr) (nk ck:Nat):Value:= .agg #[.int .i64 op,.int .i64 num,.string text,.slice an nn cn,.slice ak nk ck]
theorem Jq (x:Nd)(an:Option Addr)(nn r:Nat)(s:Option Addr)(j t:Nat)(w:World)(E:Bb w an nn r x.names)(I:j=x.kids.length)(hs:x.text.size≤1048576)(hk:j≤1048576):
  Calls Tryz.prog 35 #[ndV x.op x.num x.text an nn r s j t,.bool false] w fun e w'=>e= .returned (.bool (Aq x))∧Below w.heap.size w w':=by
 have J:=E.len;obtain ⟨op,num,text,names,kids⟩:=x;simp only at E I hs J ⊢;have K:=Aj.new w #[.int .i64 op,.int .i64 num,.string text,.slice an nn r,.slice s j t] 80;have F:=(Below.refl w.heap.size w).alloc NLN (.cells #[.int .i64 op,.int .i64 num,.string text,.slice an nn r,.slice s j t] 80);have T:(w.alloc (.cells #[.int .i64 op,.int .i64 num,.string text,.slice an nn r,.slice s j t] 80)).heap.size=w.heap.size+1:=by simp
 have W:=Ab J;have X:=Ab I;clear J I;have a:=Ab (show Aq ⟨op,num,text,names,kids⟩=(decide ((kids.length:Int)=Fx op) && (if op=1 then decide (0≤num) && decide (text.size=0) && decide (names.length=0) else if op=2 then BP text && decide (num=0) && decide (names.length=0) else if op=3 then decide (num=0∨num=1) && decide (text.size=0) && decide (names.length=0) else if op=4 then EN names && decide (num=0) && decide (text.size=0) else if op=5 then Bq text && decide (num=0) && decide (names.length=0) else if op=6∨op=7 then false else decide (num=0) && decide (text.size=0) && decide (names.length=0))) from rfl);rw[← Aa X,← Aa W] at a;generalize Aq ⟨op,num,text,names,kids⟩=aa at a ⊢;unfold ndV;go_enter Tryz.func35,Tryz.ntmps35
 go_wp2_with fail
 obtain ⟨c,c1,c2,c3,c4,d⟩:=PP K;generalize w.alloc (.cells #[.int .i64 op,.int .i64 num,.string text,.slice an nn r,.slice s j t] 80)=v at *;by_cases y:(j:Int)=Fx op
 case neg=>
  have ek:((j:Int) != Fx op)=true:=bne_iff_ne.2 y;go_region_held3 (fun w'=>w'.cell? ⟨w.heap.size,4,none⟩=some (.slice s j t)∧w'.cell? ⟨w.heap.size,0,none⟩=some (.int .i64 op)) (go_keep)
   ((go_at_call 69;refine (MP _ _).mono ?_;rintro e Y ⟨rfl,z⟩;rw[z];clear z))
  all_goals
   go_wp2
   go_ret
   exact ⟨Ag (by rw[Aa a,decide_eq_false y];rfl),F.drew⟩
 have ek:((j:Int) != Fx op)=false:=by rw[y];simp
 have u:=Ab y;clear y;go_region_held3 (fun w'=>w'.cell? ⟨w.heap.size,4,none⟩=some (.slice s j t)∧w'.cell? ⟨w.heap.size,0,none⟩=some (.int .i64 op)) (go_keep)
  ((go_at_call 69;refine (MP _ _).mono ?_;rintro e Y ⟨rfl,z⟩;rw[z];clear z))
 have h:Aj v.drew w.heap.size #[.int .i64 op,.int .i64 num,.string text,.slice an nn r,.slice s j t] 80:=⟨K.out⟩
 have b:Below w.heap.size w v.drew:=F.drew;have k:Bb v.drew an nn r names:=(E.below F NLN).drew';have L:v.drew.heap.size=w.heap.size+1:=T;clear K F c c1 c2 c3 c4 d E T;generalize v.drew=H at h b k L ⊢;have l:=h.alloc (.cells #[.int .i64 op,.int .i64 0,.string ⟨#[]⟩,.slice none 0 0,.slice none 0 0] 80);have g:=b.alloc (by omega) (.cells #[.int .i64 op,.int .i64 0,.string ⟨#[]⟩,.slice none 0 0,.slice none 0 0] 80);have m:=k.below ((Below.refl H.heap.size H).alloc NLN (.cells #[.int .i64 op,.int .i64 0,.string ⟨#[]⟩,.slice none 0 0,.slice none 0 0] 80)) NLN;have i:=Aj.new H #[.int .i64 op,.int .i64 0,.string ⟨#[]⟩,.slice none 0 0,.slice none 0 0] 80;rw[L] at i;have ab:(H.alloc (.cells #[.int .i64 op,.int .i64 0,.string ⟨#[]⟩,.slice none 0 0,.slice none 0 0] 80)).heap.size=w.heap.size+2:=by simp[L]
 obtain ⟨c,c1,c2,c3,c4,d⟩:=PP h;have ac:=Cu text;by_cases M:op=1
 ·subst M;have a:=Ab ((Aa a).trans (by rw[decide_eq_true (Aa u),if_pos rfl,Bool.true_and]));go_wp2
  all_goals
   go_ret
   refine ⟨Ag ?_,b.alloc (by omega) _⟩;rw[Aa a];have o:((nn:Int)== 0)=decide (nn=0):=by rw[Bool.eq_iff_iff];simp
   clear a h l i b g k m c c1 c2 c3 c4 d
   simp_all
   try omega
 by_cases N:op=2
 ·subst N;have a:=Ab ((Aa a).trans (by rw[decide_eq_true (Aa u),if_neg (by omega),if_pos rfl,Bool.true_and]));cases hq:BP text
  ·have f:=Ab hq;clear hq;go_wp2_with (go_at_call 70;refine (Jp _ _ hs).mono ?_;rintro e w' ⟨rfl,n⟩;rw[Aa f,n];clear n)
   all_goals
    go_ret
    refine ⟨Ag ?_,b.alloc (by omega) _⟩;rw[Aa a];have hq:=Aa f;have o:((nn:Int)== 0)=decide (nn=0):=by rw[Bool.eq_iff_iff];simp
    clear a h l i b g k m c c1 c2 c3 c4 d
    simp_all
    try omega
  ·have f:=Ab hq;clear hq;go_wp2_with (go_at_call 70;refine (Jp _ _ hs).mono ?_;rintro e w' ⟨rfl,n⟩;rw[Aa f,n];clear n)
   all_goals
    go_ret
    refine ⟨Ag ?_,b.alloc (by omega) _⟩;rw[Aa a];have hq:=Aa f;have o:((nn:Int)== 0)=decide (nn=0):=by rw[Bool.eq_iff_iff];simp
    clear a h l i b g k m c c1 c2 c3 c4 d
    simp_all
    try omega
 by_cases O:op=3
 ·subst O;have a:=Ab ((Aa a).trans (by rw[decide_eq_true (Aa u),if_neg (by omega),if_neg (by omega),if_pos rfl,Bool.true_and]));go_wp2
  all_goals
   go_ret
   refine ⟨Ag ?_,b.alloc (by omega) _⟩;rw[Aa a];have o:((nn:Int)== 0)=decide (nn=0):=by rw[Bool.eq_iff_iff];simp
   clear a h l i b g k m c c1 c2 c3 c4 d
   simp_all
   try omega
 by_cases P:op=4
 ·subst P;have a:=Ab ((Aa a).trans (by rw[decide_eq_true (Aa u),if_neg (by omega),if_neg (by omega),if_neg (by omega),if_pos rfl,Bool.true_and]));cases hq:EN names
  ·have f:=Ab hq;clear hq;go_wp2_with (go_at_call 71;refine (MC _ _ _ _ _ m).mono ?_;rintro e w' ⟨rfl,n⟩;rw[Aa f,n];clear n)
   all_goals
    go_ret
    refine ⟨Ag ?_,b.alloc (by omega) _⟩;rw[Aa a];have hq:=Aa f;have o:((nn:Int)== 0)=decide (nn=0):=by rw[Bool.eq_iff_iff];simp
    clear a h l i b g k m c c1 c2 c3 c4 d
    simp_all
    try omega
  ·have f:=Ab hq;clear hq;go_wp2_with (go_at_call 71;refine (MC _ _ _ _ _ m).mono ?_;rintro e w' ⟨rfl,n⟩;rw[Aa f,n];clear n)
   all_goals
    go_ret
    refine ⟨Ag ?_,b.alloc (by omega) _⟩;rw[Aa a];have hq:=Aa f;have o:((nn:Int)== 0)=decide (nn=0):=by rw[Bool.eq_iff_iff];simp
    clear a h l i b g k m c c1 c2 c3 c4 d
    simp_all
    try omega
 by_cases Q:op=5
 ·subst Q;have a:=Ab ((Aa a).trans (by rw[decide_eq_true (Aa u),if_neg (by omega),if_neg (by omega),if_neg (by omega),if_neg (by omega),if_pos rfl,Bool.true_and]));cases hq:Bq text
  ·have f:=Ab hq;clear hq;go_wp2_with fail
   refine (Dl _ _ hs).mono ?_;rintro e Z ⟨rfl,q⟩;rw[Aa f];have A:=l.after q NLN;have B:=i.after q NLN;have C:=g.trans (q.mono g.size);clear h l i g k m c c1 c2 c3 c4 d q;obtain ⟨c,c1,c2,c3,c4,d⟩:=PP A;obtain ⟨R,d1,d2,d3,d4,S⟩:=PP B;go_wp2
   all_goals
    go_ret
    refine ⟨Ag ?_,C⟩;rw[Aa a];have hq:=Aa f;have o:((nn:Int)== 0)=decide (nn=0):=by rw[Bool.eq_iff_iff];simp
    clear a A B C b c c1 c2 c3 c4 d R d1 d2 d3 d4 S
    simp_all
    try omega
  ·have f:=Ab hq;clear hq;go_wp2_with fail
   refine (Dl _ _ hs).mono ?_;rintro e Z ⟨rfl,q⟩;rw[Aa f];have A:=l.after q NLN;have B:=i.after q NLN;have C:=g.trans (q.mono g.size);clear h l i g k m c c1 c2 c3 c4 d q;obtain ⟨c,c1,c2,c3,c4,d⟩:=PP A;obtain ⟨R,d1,d2,d3,d4,S⟩:=PP B;go_wp2
   all_goals
    go_ret
    refine ⟨Ag ?_,C.setCell (p:=⟨w.heap.size+1,2,none⟩) (by show w.heap.size≤w.heap.size+1;omega) _⟩;rw[Aa a];have hq:=Aa f;have o:((nn:Int)== 0)=decide (nn=0):=by rw[Bool.eq_iff_iff];simp
    clear a A B C b c c1 c2 c3 c4 d R d1 d2 d3 d4 S
    simp_all
    try omega
 by_cases U:op=6
 ·subst U;have a:=Ab ((Aa a).trans (by rw[decide_eq_true (Aa u),if_neg (by omega),if_neg (by omega),if_neg (by omega),if_neg (by omega),if_neg (by omega),if_pos (by omega),Bool.true_and]));go_wp2
  all_goals
   go_ret
   refine ⟨Ag ?_,b.alloc (by omega) _⟩;rw[Aa a];have o:((nn:Int)== 0)=decide (nn=0):=by rw[Bool.eq_iff_iff];simp
   clear a h l i b g k m c c1 c2 c3 c4 d
   simp_all
   try omega
 by_cases V:op=7
 ·subst V;have a:=Ab ((Aa a).trans (by rw[decide_eq_true (Aa u),if_neg (by omega),if_neg (by omega),if_neg (by omega),if_neg (by omega),if_neg (by omega),if_pos (by omega),Bool.true_and]));go_wp2
  all_goals
   go_ret
   refine ⟨Ag ?_,b.alloc (by omega) _⟩;rw[Aa a];have o:((nn:Int)== 0)=decide (nn=0):=by rw[Bool.eq_iff_iff];simp
   clear a h l i b g k m c c1 c2 c3 c4 d
   simp_all
   try omega
 have a:=Ab ((Aa a).trans (by rw[decide_eq_true (Aa u),if_neg M,if_neg N,if_neg O,if_neg P,if_neg Q,if_neg (by omega),Bool.true_and]));have ad:=beq_eq_false_iff_ne.2 M;have ae:=beq_eq_false_iff_ne.2 N;have af:=beq_eq_false_iff_ne.2 O;have ag:=beq_eq_false_iff_ne.2 P;have ah:=beq_eq_false_iff_ne.2 Q;have ai:=beq_eq_false_iff_ne.2 U;have aj:=beq_eq_false_iff_ne.2 V;go_wp2
 all_goals
  go_ret
  refine ⟨Ag ?_,b.alloc (by omega) _⟩;rw[Aa a];have o:((nn:Int)== 0)=decide (nn=0):=by rw[Bool.eq_iff_iff];simp
  clear a h l i b g k m c c1 c2 c3 c4 d
  simp_all
  try omega
end Go.Proofs.YtoplnhndilmlcaaGreatDoor
