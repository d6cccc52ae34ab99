/-
  TW, TV, VPA. Own work.
-/
import Derived.Test.YtcpdodmoheebaaaGreatDoorTI
import Derived.Test.YtcpdodmoheebaaaGreatDoorMXAC
namespace Go.Proofs.YtcpdodmoheebaaaGreatDoor
set_option maxHeartbeats 6400000
open Go.RowKit
set_option linter.unusedVariables false
theorem Iq {l:List UInt8} :Dc l=true↔l∈Cx:=by rw [Dc,List.contains_iff_mem]
theorem AQ {s:ByteArray}{x:List UInt8}(h:(s.toList== x)=true)(hx:x∈Cx):Dc (Ad s)=true:=by
 rw [beq_iff_eq,ByteArray.toList_eq] at h
 rw [Iq,Ad,h];exact hx
theorem J6 {s:ByteArray}(h:∀ x∈Cx,(s.toList== x)=false):Dc (Ad s)=false:=by
 cases a:Dc (Ad s)
 ·rfl
 ·have:=h _ (Iq.1 a)
  rw [ByteArray.toList_eq,Ad] at this
  simp at this
theorem I3 (s:ByteArray)(w:World):
  Calls Tryz.prog 58 #[.string s] w fun e w'=>e= .returned (.bool (Dc (Ad s)))∧w'=w:=by
 rcases Bool.eq_false_or_eq_true (s.toList== [108,101,116]) with h0 | h0
 ·rw [AQ h0 (by decide)]
  go_enter Tryz.func58,Tryz.ntmps58
  go_wp2
  go_ret
  exact ⟨rfl,rfl⟩
 rcases Bool.eq_false_or_eq_true (s.toList== [119,104,101,110]) with h1 | h1
 ·rw [AQ h1 (by decide)]
  go_enter Tryz.func58,Tryz.ntmps58
  go_wp2
  go_ret
  exact ⟨rfl,rfl⟩
 rcases Bool.eq_false_or_eq_true (s.toList== [101,108,115,101]) with h2 | h2
 ·rw [AQ h2 (by decide)]
  go_enter Tryz.func58,Tryz.ntmps58
  go_wp2
  go_ret
  exact ⟨rfl,rfl⟩
 rcases Bool.eq_false_or_eq_true (s.toList== [100,101,110,121]) with h3 | h3
 ·rw [AQ h3 (by decide)]
  go_enter Tryz.func58,Tryz.ntmps58
  go_wp2
  go_ret
  exact ⟨rfl,rfl⟩
 rcases Bool.eq_false_or_eq_true (s.toList== [103,114,97,110,116]) with h4 | h4
 ·rw [AQ h4 (by decide)]
  go_enter Tryz.func58,Tryz.ntmps58
  go_wp2
  go_ret
  exact ⟨rfl,rfl⟩
 rcases Bool.eq_false_or_eq_true (s.toList== [105,102]) with h5 | h5
 ·rw [AQ h5 (by decide)]
  go_enter Tryz.func58,Tryz.ntmps58
  go_wp2
  go_ret
  exact ⟨rfl,rfl⟩
 rcases Bool.eq_false_or_eq_true (s.toList== [116,104,101,110]) with h6 | h6
 ·rw [AQ h6 (by decide)]
  go_enter Tryz.func58,Tryz.ntmps58
  go_wp2
  go_ret
  exact ⟨rfl,rfl⟩
 rcases Bool.eq_false_or_eq_true (s.toList== [110,111,116]) with h7 | h7
 ·rw [AQ h7 (by decide)]
  go_enter Tryz.func58,Tryz.ntmps58
  go_wp2
  go_ret
  exact ⟨rfl,rfl⟩
 rcases Bool.eq_false_or_eq_true (s.toList== [97,110,100]) with h8 | h8
 ·rw [AQ h8 (by decide)]
  go_enter Tryz.func58,Tryz.ntmps58
  go_wp2
  go_ret
  exact ⟨rfl,rfl⟩
 rcases Bool.eq_false_or_eq_true (s.toList== [111,114]) with h9 | h9
 ·rw [AQ h9 (by decide)]
  go_enter Tryz.func58,Tryz.ntmps58
  go_wp2
  go_ret
  exact ⟨rfl,rfl⟩
 rcases Bool.eq_false_or_eq_true (s.toList== [105,110]) with h10 | h10
 ·rw [AQ h10 (by decide)]
  go_enter Tryz.func58,Tryz.ntmps58
  go_wp2
  go_ret
  exact ⟨rfl,rfl⟩
 rcases Bool.eq_false_or_eq_true (s.toList== [119,105,116,104,105,110]) with h11 | h11
 ·rw [AQ h11 (by decide)]
  go_enter Tryz.func58,Tryz.ntmps58
  go_wp2
  go_ret
  exact ⟨rfl,rfl⟩
 rcases Bool.eq_false_or_eq_true (s.toList== [115,105,122,101]) with h12 | h12
 ·rw [AQ h12 (by decide)]
  go_enter Tryz.func58,Tryz.ntmps58
  go_wp2
  go_ret
  exact ⟨rfl,rfl⟩
 rcases Bool.eq_false_or_eq_true (s.toList== [116,114,117,101]) with h13 | h13
 ·rw [AQ h13 (by decide)]
  go_enter Tryz.func58,Tryz.ntmps58
  go_wp2
  go_ret
  exact ⟨rfl,rfl⟩
 rcases Bool.eq_false_or_eq_true (s.toList== [102,97,108,115,101]) with h14 | h14
 ·rw [AQ h14 (by decide)]
  go_enter Tryz.func58,Tryz.ntmps58
  go_wp2
  go_ret
  exact ⟨rfl,rfl⟩
 rw [J6 (s:=s) (by
  intro x hx
  simp only [Cx,List.mem_cons,List.not_mem_nil,or_false] at hx
  rcases hx with rfl | rfl | rfl | rfl | rfl | rfl | rfl | rfl | rfl | rfl | rfl | rfl | rfl | rfl | rfl <;> assumption)]
 go_enter Tryz.func58,Tryz.ntmps58
 go_wp2
 go_ret
 exact ⟨rfl,rfl⟩
set_option maxHeartbeats 1600000
def Ek (L:List (List UInt8)):Array Value:=(L.map fun l=>Value.string (Bo l)).toArray
theorem F8 {L:List (List UInt8)}{k:Nat}{x:List UInt8}(h:L[k]? =some x):(Ek L)[k]? =some (.string (Bo x)):=by
 simp [Ek,h]
theorem DP {s:ByteArray}{x:List UInt8}(h:(s.toList==(Bo x).toList)=true):Ad s=x:=by
 rw [beq_iff_eq,ByteArray.toList_eq,ByteArray.toList_eq] at h
 exact h
theorem Df {s:ByteArray}{x:List UInt8}(h:(s.toList==(Bo x).toList)=false):Ad s≠x:=by
 rw [beq_eq_false_iff_ne,ByteArray.toList_eq,ByteArray.toList_eq] at h
 exact h
def CI (L:List (List UInt8)) (k:Nat) (l:List UInt8):Prop:=∀ i,i < k→L[i]? ≠some l
theorem CI.next {L:List (List UInt8)}{k:Nat}{l x:List UInt8}(h:CI L k l)(hx:L[k]? =some x)(b:l≠x):CI L (k+1) l:=fun a d e=>by
 by_cases c:a=k
 ·subst c;rw [hx] at e;exact b (Option.some.inj e).symm
 ·exact h a (by omega) e
theorem CI.all {L:List (List UInt8)}{l:List UInt8}(h:CI L L.length l):L.contains l=false:=by
 rw [← Bool.not_eq_true,List.contains_iff_mem]
 intro hm
 obtain ⟨b,a,e⟩:=List.getElem_of_mem hm
 exact h b a (by rw [List.getElem?_eq_getElem a,e])
theorem F9 {L:List (List UInt8)}{k:Nat}{x:List UInt8}(h:L[k]? =some x):L.contains x=true:=by
 rw [List.contains_iff_mem];exact List.mem_of_getElem? h
theorem Fq (s:ByteArray)(w:World):
  Calls Tryz.prog 23 #[.string s] w fun e w'=>e= .returned (.bool (Dc (Ad s)))∧Below w.heap.size w w':=by
 have f:Ao (w.alloc (.cells #[.string ⟨#[108,101,116]⟩,.string ⟨#[119,104,101,110]⟩,.string ⟨#[101,108,115,101]⟩,.string ⟨#[100,101,110,121]⟩,.string ⟨#[103,114,97,110,116]⟩,.string ⟨#[105,102]⟩,.string ⟨#[116,104,101,110]⟩,.string ⟨#[110,111,116]⟩,.string ⟨#[97,110,100]⟩,.string ⟨#[111,114]⟩,.string ⟨#[105,110]⟩,.string ⟨#[119,105,116,104,105,110]⟩,.string ⟨#[115,105,122,101]⟩,.string ⟨#[116,114,117,101]⟩,.string ⟨#[102,97,108,115,101]⟩] 9)) w.heap.size (Ek Cx) 9:=Ao.new w (Ek Cx) 9
 have d:=(Below.refl w.heap.size w).alloc (Nat.le_refl _) (.cells #[.string ⟨#[108,101,116]⟩,.string ⟨#[119,104,101,110]⟩,.string ⟨#[101,108,115,101]⟩,.string ⟨#[100,101,110,121]⟩,.string ⟨#[103,114,97,110,116]⟩,.string ⟨#[105,102]⟩,.string ⟨#[116,104,101,110]⟩,.string ⟨#[110,111,116]⟩,.string ⟨#[97,110,100]⟩,.string ⟨#[111,114]⟩,.string ⟨#[105,110]⟩,.string ⟨#[119,105,116,104,105,110]⟩,.string ⟨#[115,105,122,101]⟩,.string ⟨#[116,114,117,101]⟩,.string ⟨#[102,97,108,115,101]⟩] 9)
 go_enter Tryz.func23,Tryz.ntmps23
 go_wp2
 generalize w.alloc (.cells #[.string ⟨#[108,101,116]⟩,.string ⟨#[119,104,101,110]⟩,.string ⟨#[101,108,115,101]⟩,.string ⟨#[100,101,110,121]⟩,.string ⟨#[103,114,97,110,116]⟩,.string ⟨#[105,102]⟩,.string ⟨#[116,104,101,110]⟩,.string ⟨#[110,111,116]⟩,.string ⟨#[97,110,100]⟩,.string ⟨#[111,114]⟩,.string ⟨#[105,110]⟩,.string ⟨#[119,105,116,104,105,110]⟩,.string ⟨#[115,105,122,101]⟩,.string ⟨#[116,114,117,101]⟩,.string ⟨#[102,97,108,115,101]⟩] 9)=i at f d ⊢
 go_loop [7] (fun c=>∃ k:Nat,k≤15∧c= .int .i64 k∧CI Cx k (Ad s)) (fun c=>15 - (intOf c).toNat)
 case atStart=>exact ⟨0,by omega,rfl,fun c j=>by omega⟩
 case round=>
  obtain ⟨k,l,rfl,a⟩:=hrel
  by_cases g:k < 15
  ·have m:(k:Int) < 15:=by omega
   obtain ⟨x,hx⟩:∃ x,Cx[k]? =some x:=⟨Cx[k]'g,List.getElem?_eq_getElem g⟩
   have hc:=(f.cell k).trans (F8 hx)
   rcases Bool.eq_false_or_eq_true (s.toList==(Bo x).toList) with h | h
   ·have b:=Ab (show Dc (Ad s)=true by rw [DP h];exact F9 hx)
    clear a hx
    go_wp2
    go_ret
    exact ⟨Ak (Aa b).symm,d⟩
   ·have b:=Ab (a.next hx (Df h))
    clear a hx
    go_wp2
    go_round
    case rel=>exact ⟨k+1,by omega,by go_num,Aa b⟩
    case measure=>simp [intOf];omega
  ·have e:k=15:=by omega
   subst e
   have b:=Ab (show Dc (Ad s)=false from CI.all a)
   clear a
   go_wp2
   go_ret
   exact ⟨Ak (Aa b).symm,d⟩
theorem J7 (p:UInt8→Bool)(r:List UInt8):Ap p r=r.length↔r.all p=true:=by
 constructor
 ·intro h
  have:=Bs p r
  rwa [h,List.take_length] at this
 ·intro h
  have e:r.takeWhile p=r:=by
   induction r with
   | nil=>rfl
   | cons c r a=>
    rw [List.all_cons,Bool.and_eq_true] at h
    rw [List.takeWhile_cons,if_pos h.1,a h.2]
  rw [Ap,e]
theorem J8 {s:ByteArray}(h0: 0 < s.size):BA s=(decide (s.size≤32) && DO (s[0].toNat:Int) && decide (Ap BU (Ad s)=s.size) && !Dc (Ad s)):=by
 have h:=AD s 0 h0
 rw [List.drop_zero] at h
 have hl:(Ad s).length=s.size:=Ag s
 have a:decide (Ap BU (Ad s)=s.size)=(Ad s).all BU:=by rw [← hl,Bool.eq_iff_iff,decide_eq_true_iff];exact J7 BU (Ad s)
 rw [a,← hl]
 generalize (Ad s).drop (0+1)=b at h
 rw [BA,h]
 rfl
theorem Is {s:ByteArray}(h0:s.size=0):BA s=false:=by
 have:Ad s= []:=List.eq_nil_of_length_eq_zero (by rw [Ag];exact h0)
 rw [BA,this]
theorem Bw (s:ByteArray)(w:World)(hs:s.size≤1048576):
  Calls Tryz.prog 70 #[.string s] w fun e w'=>e= .returned (.bool (BA s))∧Below w.heap.size w w':=by
 by_cases h0:s.size=0
 ·have j: ¬ ((0 :Int) < (s.size:Int)):=by omega
  rw [Is h0]
  go_enter Tryz.func70,Tryz.ntmps70
  go_wp2
  go_ret
  exact ⟨rfl,Below.refl _ _⟩
 have k: 0 < s.size:=by omega
 have j:(0 :Int) < (s.size:Int):=by omega
 have c:=Ab (J8 k)
 by_cases f:s.size≤32
 case neg=>
  have l: ¬ ((s.size:Int)≤32):=by omega
  have n:(32 :Int) < (s.size:Int):=by omega
  go_enter Tryz.func70,Tryz.ntmps70
  go_wp2
  go_ret
  exact ⟨Ak (by rw [Aa c];simp [f]),Below.refl _ _⟩
 have l:(s.size:Int)≤32:=by omega
 cases hl:DO (s[0].toNat:Int)
 ·have b:=Ab hl
  clear hl
  go_enter Tryz.func70,Tryz.ntmps70
  go_wp2_with (go_at_call 21;refine (Am _ _).mono ?_;rintro e w' ⟨rfl,a⟩;rw [Aa b,a];clear a)
  go_ret
  exact ⟨Ak (by rw [Aa c,Aa b];simp),Below.refl _ _⟩
 have b:=Ab hl
 clear hl
 have g:=Ab (C5 BU s)
 by_cases h:Ap BU (Ad s)=s.size
 ·have m:(((Ap BU (Ad s):Nat):Int)==(s.size:Int))=true:=beq_iff_eq.2 (by omega)
  go_enter Tryz.func70,Tryz.ntmps70
  go_wp2_with (first | (go_at_call 21;refine (Am _ _).mono ?_;rintro e w' ⟨rfl,a⟩;rw [Aa b,a];clear a) | (go_at_call 22;refine (En s 0 _ (by unfold maxLen;omega) (by omega)).mono ?_;rintro e w' ⟨rfl,a⟩;rw [Aa g,a];clear a))
  refine (Fq s _).mono ?_
  rintro e o ⟨rfl,i⟩
  cases a:Dc (Ad s)
  ·have d:=Ab a
   clear a
   go_wp2
   go_ret
   exact ⟨Ak (by rw [Aa c,Aa b,Aa d];simp [f,h]),i⟩
  ·have d:=Ab a
   clear a
   go_wp2
   go_ret
   exact ⟨Ak (by rw [Aa c,Aa d];simp),i⟩
 ·have m:(((Ap BU (Ad s):Nat):Int)==(s.size:Int))=false:=beq_eq_false_iff_ne.2 (by omega)
  go_enter Tryz.func70,Tryz.ntmps70
  go_wp2_with (first | (go_at_call 21;refine (Am _ _).mono ?_;rintro e w' ⟨rfl,a⟩;rw [Aa b,a];clear a) | (go_at_call 22;refine (En s 0 _ (by unfold maxLen;omega) (by omega)).mono ?_;rintro e w' ⟨rfl,a⟩;rw [Aa g,a];clear a))
  go_ret
  exact ⟨Ak (by rw [Aa c];simp [h]),Below.refl _ _⟩
theorem I8 (s:ByteArray):BP s=(decide (s.size≤32) && EA s.data.toList):=rfl
theorem I9 (s:ByteArray):BP s=(decide (s.size=0) || vnB s):=by
 rw [I8,vnB]
 by_cases h:s.size=0
 ·have e:=Dg h
  subst e
  rfl
 ·rw [show decide (s.size=0)=false from decide_eq_false h,Bool.false_or,show decide (1≤s.size∧s.size≤32)=decide (s.size≤32) by rw [decide_eq_decide];omega]
theorem DV (s:ByteArray)(w:World)(hs:s.size≤1048576):
  Calls Tryz.prog 79 #[.string s] w fun e w'=>e= .returned (.bool (BP s))∧w'=w:=by
 by_cases h0:s.size=0
 ·have e:=Dg h0
  subst e
  go_enter Tryz.func79,Tryz.ntmps79
  go_wp2
  go_ret
  exact ⟨rfl,rfl⟩
 ·have c:=CA h0
  have b:=Ab (show BP s=vnB s by rw [I9,decide_eq_false h0,Bool.false_or])
  go_enter Tryz.func79,Tryz.ntmps79
  go_wp2_with (go_at_call 88;refine (Cg _ _ (by unfold maxLen;omega)).mono ?_;rintro e w' ⟨rfl,a⟩;rw [a];clear a)
  go_ret
  exact ⟨Ak (Aa b).symm,rfl⟩
theorem FC (op:Int)(w:World):
  Calls Tryz.prog 78 #[.int .i64 op] w fun e w'=>e= .returned (.int .i64 (Dl op))∧w'=w:=by
 go_enter Tryz.func78,Tryz.ntmps78
 go_wp2
 all_goals
  go_ret
  refine ⟨BW ?_,rfl⟩
  unfold Dl
  simp_all
  try omega
end Go.Proofs.YtcpdodmoheebaaaGreatDoor
