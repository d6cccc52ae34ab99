/-
  DVC, DVD, DVE, DVQ, VPN. Own work.
-/
import Derived.Test.YtedlocniojlhfaaGreatDoorMXAI
import Derived.Test.YtedlocniojlhfaaGreatDoorMXAL
import Derived.Test.YtedlocniojlhfaaGreatDoorMXAB
import Derived.Test.YtedlocniojlhfaaGreatDoorVPK
import Derived.Deep.AppendLies
namespace Go.Proofs.YtedlocniojlhfaaGreatDoor
set_option maxRecDepth 100000
set_option maxHeartbeats 1600000
open Go.RowKit
set_option linter.unusedVariables false

variable {aS aO aZ aW:Addr} {G:Nat→Prop}

def VIs (G:Nat→Prop) (w:World) (x:Value):Vv→Prop
 | .bool b=>x=.iface 119 (.bool b)
 | .int n=>x=.iface 151 (.int .i64 n)∧I64 n
 | .text s=>x=.iface 154 (.string s)
 | .set ss=>∃ a n c,x=.iface 146 (.slice a n c)∧Strs w a n c ss∧ss.length≤1048576∧∀ ad,a=some ad→0<n→G ad.block

theorem VIs.below {w w':World} {B:Nat} {x:Value} {v:Vv} (h:VIs G w x v) (hb:Below B w w') (hB:w.heap.size≤B):VIs G w' x v:=by
 cases v with
 | bool b=>exact h
 | int n=>exact h
 | text s=>exact h
 | set ss =>
  obtain ⟨a,n,c,h1,h2⟩:=h
  exact ⟨a,n,c,h1,h2.1.below hb hB,h2.2⟩

theorem VIs.form {w:World} {x:Value} {v:Vv} (h:VIs G w x v):∃ t u,x=.iface t u:=by
 cases v with
 | bool b=>exact ⟨_,_,h⟩
 | int n=>exact ⟨_,_,h.1⟩
 | text s=>exact ⟨_,_,h⟩
 | set ss=>obtain ⟨_,_,_,h,_⟩:=h;exact ⟨_,_,h⟩

theorem tm_bool (xT:TypeId) (v:Value) (w:World):(Instr.typeAssert (.iface 119 v) xT 119 false).run Tryz.prog w=.ok v w:=by simp [Instr.typeAssert,run_underlying Tryz.underlying119]
theorem tk_bool (xT:TypeId) (v:Value) (w:World):(Instr.typeAssert (.iface 119 v) xT 119 true).run Tryz.prog w=.ok (.tuple #[v,.bool true]) w:=by simp [Instr.typeAssert,run_underlying Tryz.underlying119]
theorem tm_int (xT:TypeId) (v:Value) (w:World):(Instr.typeAssert (.iface 151 v) xT 151 false).run Tryz.prog w=.ok v w:=by simp [Instr.typeAssert,run_underlying Tryz.underlying151]
theorem tk_int (xT:TypeId) (v:Value) (w:World):(Instr.typeAssert (.iface 151 v) xT 151 true).run Tryz.prog w=.ok (.tuple #[v,.bool true]) w:=by simp [Instr.typeAssert,run_underlying Tryz.underlying151]
theorem tm_text (xT:TypeId) (v:Value) (w:World):(Instr.typeAssert (.iface 154 v) xT 154 false).run Tryz.prog w=.ok v w:=by simp [Instr.typeAssert,run_underlying Tryz.underlying154]
theorem tk_text (xT:TypeId) (v:Value) (w:World):(Instr.typeAssert (.iface 154 v) xT 154 true).run Tryz.prog w=.ok (.tuple #[v,.bool true]) w:=by simp [Instr.typeAssert,run_underlying Tryz.underlying154]
theorem tm_set (xT:TypeId) (v:Value) (w:World):(Instr.typeAssert (.iface 146 v) xT 146 false).run Tryz.prog w=.ok v w:=by simp [Instr.typeAssert,run_underlying Tryz.underlying146]
theorem tk_set (xT:TypeId) (v:Value) (w:World):(Instr.typeAssert (.iface 146 v) xT 146 true).run Tryz.prog w=.ok (.tuple #[v,.bool true]) w:=by simp [Instr.typeAssert,run_underlying Tryz.underlying146]

theorem errV_form {c:Int} (h:1≤c∧c≤4):∃ a,errV aS aO aZ aW c=.iface 262 (.pointer (some a)):=by
 rcases (show c=1∨c=2∨c=3∨c=4 by omega) with rfl | rfl | rfl | rfl
 ·exact ⟨_,rfl⟩
 ·exact ⟨_,rfl⟩
 ·exact ⟨_,rfl⟩
 ·exact ⟨_,rfl⟩

def OAns (G:Nat→Prop) (aS aO aZ aW:Addr) (o:Ev) (w:World) (r:Ending) (w':World):Prop :=
 (match o with
  | .ok v=>∃ x,r=.returned (.tuple #[x,.nilIface])∧VIs G w' x v
  | .err c=>∃ x,r=.returned (.tuple #[x,errV aS aO aZ aW c])∧1≤c∧c≤4)∧Below w.heap.size w w'

theorem fit_i64 (v:Int):I64 (fit v).1:=by
 unfold fit
 split
 ·rename_i h;exact ⟨h.1,h.2⟩
 ·exact ⟨by decide,by decide⟩

theorem calcF_i64 (op a b:Int):I64 (calcF op a b).1:=by
 unfold calcF divF modF
 repeat' split
 all_goals first | exact fit_i64 _ | exact ⟨by decide,by decide⟩

theorem fit_code4 (v:Int):0≤(fit v).2∧(fit v).2≤4:=by unfold fit;split <;> simp

theorem calcF_code4 (op a b:Int):0≤(calcF op a b).2∧(calcF op a b).2≤4:=by
 unfold calcF divF modF
 repeat' split
 all_goals first | exact fit_code4 _ | decide

theorem attrValue_any (cl us:ByteArray) (lv nw:Int) (a1:Option Addr) (n1 c1:Nat) (s1:List ByteArray) (a2:Option Addr) (n2 c2:Nat) (s2:List ByteArray) (w:World) (hl:I64 lv) (hn:I64 nw) (h1:Strs w a1 n1 c1 s1) (h2:Strs w a2 n2 c2 s2) (l1:s1.length≤1048576) (l2:s2.length≤1048576) (g1:∀ ad,a1=some ad→0<n1→G ad.block) (g2:∀ ad,a2=some ad→0<n2→G ad.block) (num:Int) (h:0≤num∧num<6) :
  Calls Tryz.prog 86 #[.agg #[.string cl,.string us,.int .i64 lv,.int .i64 nw,.slice a1 n1 c1,.slice a2 n2 c2],.int .i64 num] w fun r w'=>(∃ x,r=.returned x∧VIs G w' x (attrV ⟨cl,us,lv,nw,s1,s2⟩ num))∧Below w.heap.size w w':=by
 have B0:=(Below.refl w.heap.size w).alloc nl (.cells #[.string cl,.string us,.int .i64 lv,.int .i64 nw,.slice a1 n1 c1,.slice a2 n2 c2] 40)
 have H1:=h1.below B0 nl
 have H2:=h2.below B0 nl
 rcases (show num=0∨num=1∨num=2∨num=3∨num=4∨num=5 by omega) with rfl | rfl | rfl | rfl | rfl | rfl
 ·go_enter Tryz.func86,Tryz.ntmps86
  go_wp2_with fail
  go_ret
  exact ⟨⟨_,rfl,rfl⟩,B0⟩
 ·go_enter Tryz.func86,Tryz.ntmps86
  go_wp2_with fail
  go_ret
  exact ⟨⟨_,rfl,rfl⟩,B0⟩
 ·go_enter Tryz.func86,Tryz.ntmps86
  go_wp2_with fail
  go_ret
  exact ⟨⟨_,rfl,rfl,hl⟩,B0⟩
 ·go_enter Tryz.func86,Tryz.ntmps86
  go_wp2_with fail
  go_ret
  exact ⟨⟨_,rfl,rfl,hn⟩,B0⟩
 ·go_enter Tryz.func86,Tryz.ntmps86
  go_wp2_with fail
  go_ret
  exact ⟨⟨_,rfl,_,_,_,rfl,H1,l1,g1⟩,B0⟩
 ·go_enter Tryz.func86,Tryz.ntmps86
  go_wp2_with fail
  go_ret
  exact ⟨⟨_,rfl,_,_,_,rfl,H2,l2,g2⟩,B0⟩

theorem decided_any (op:Int) (x:Value) (v:Vv) (w:World) (hx:VIs G w x v) (ht:op=25∨op=26→v.ty=1) :
  Calls Tryz.prog 115 #[.int .i64 op,x] w fun r w'=>r=.returned (.bool (dec1 op v))∧w'=w:=by
 have tmb:=tm_bool
 by_cases h25:op=25
 ·obtain ⟨b,rfl⟩:=Vv.bool_of (ht (.inl h25))
  subst h25
  have e:x=.iface 119 (.bool b):=hx
  subst e
  go_enter Tryz.func115,Tryz.ntmps115
  go_wp2_with fail
  go_ret
  exact ⟨rfl,rfl⟩
 by_cases h26:op=26
 ·obtain ⟨b,rfl⟩:=Vv.bool_of (ht (.inr h26))
  subst h26
  have e:x=.iface 119 (.bool b):=hx
  subst e
  go_enter Tryz.func115,Tryz.ntmps115
  go_wp2_with fail
  go_ret
  exact ⟨rfl,rfl⟩
 ·have HX:=hide (show dec1 op v=false by cases v <;> simp [dec1,h25,h26])
  have e25:(op == 25)=false:=beq_eq_false_iff_ne.2 h25
  have e26:(op == 26)=false:=beq_eq_false_iff_ne.2 h26
  obtain ⟨t,u,rfl⟩:=hx.form
  clear h25 h26 hx ht
  go_enter Tryz.func115,Tryz.ntmps115
  go_wp2_with fail
  go_ret
  exact ⟨by rw [uh HX];rfl,rfl⟩

theorem one_any (op:Int) (x:Value) (v:Vv) (t:Int) (w:World) (hs:Sent w aS aO aZ aW) (hx:VIs G w x v) (ht:nz (tyOp op [v.ty])=some t) :
  Calls Tryz.prog 114 #[.int .i64 op,x] w (OAns G aS aO aZ aW (evUn op v) w):=by
 have tmb:=tm_bool
 have tmi:=tm_int
 have tms:=tm_set
 rcases tyOp1_inv ht with ⟨rfl,hv,_⟩ | ⟨rfl,hv,_⟩ | ⟨rfl,hv,_⟩
 ·obtain ⟨n,rfl⟩:=Vv.int_of hv
  obtain ⟨rfl,hn⟩:x=.iface 151 (.int .i64 n)∧I64 n:=hx
  have HC:=hide (calculate_any 2 0 n w hs ⟨by decide,by decide⟩ hn)
  have h1:=calcF_code4 2 0 n
  have h2:=calcF_i64 2 0 n
  have HE:=hide (show evUn 8 (.int n)=ofCalc (calcF 2 0 n) from rfl)
  generalize calcF 2 0 n=p at HC h1 h2 HE
  obtain ⟨p1,p2⟩:=p
  clear hv
  by_cases h0:p2=0
  ·subst h0
   go_enter Tryz.func114,Tryz.ntmps114
   go_wp2_with fail
   refine (uh HC).mono ?_
   rintro r w1 ⟨rfl,hb1⟩
   dsimp only [pairV,errV,if_true]
   go_wp2_with fail
   refine bodyPost_ret (v:=.tuple #[.iface 151 (.int .i64 p1),.nilIface]) (by simp [results,Tryz.results114,go_sem]) rfl ?_
   rw [uh HE]
   exact ⟨⟨_,rfl,rfl,h2⟩,hb1⟩
  ·obtain ⟨a,ha⟩:=errV_form (aS:=aS) (aO:=aO) (aZ:=aZ) (aW:=aW) (c:=p2) (by dsimp only at h1;omega)
   have Hp:=hide h0
   have Hh:=hide h1
   clear h0 h1
   go_enter Tryz.func114,Tryz.ntmps114
   go_wp2_with fail
   refine (uh HC).mono ?_
   rintro r w1 ⟨rfl,hb1⟩
   dsimp only [pairV]
   rw [ha]
   go_wp2_with fail
   refine bodyPost_ret (v:=.tuple #[.iface 151 (.int .i64 p1),.iface 262 (.pointer (some a))]) (by simp [results,Tryz.results114,go_sem]) rfl ?_
   rw [uh HE,ofCalc,if_neg (uh Hp)]
   have:=uh Hh
   have:=uh Hp
   exact ⟨⟨_,by rw [ha],by dsimp only at *;omega,by dsimp only at *;omega⟩,hb1⟩
 ·obtain ⟨b,rfl⟩:=Vv.bool_of hv
  have e:x=.iface 119 (.bool b):=hx
  subst e
  go_enter Tryz.func114,Tryz.ntmps114
  go_wp2_with fail
  refine bodyPost_ret (v:=.tuple #[.iface 119 (.bool (!b)),.nilIface]) (by simp [results,Tryz.results114,go_sem]) rfl ?_
  exact ⟨⟨_,rfl,rfl⟩,Below.refl _ _⟩
 ·obtain ⟨ss,rfl⟩:=Vv.set_of hv
  obtain ⟨a,n,c,rfl,hS,_⟩:=hx
  have hl:=hS.len
  have hc:n≤maxLen:=Nat.le_trans hS.cap hS.small
  have hi:I64 (n:Int):=⟨by omega,by unfold maxLen at hc;omega⟩
  subst hl
  go_enter Tryz.func114,Tryz.ntmps114
  go_wp2_with fail
  refine bodyPost_ret (v:=.tuple #[.iface 151 (.int .i64 ss.length),.nilIface]) (by simp [results,Tryz.results114,go_sem]) rfl ?_
  exact ⟨⟨_,rfl,rfl,hi⟩,Below.refl _ _⟩

end Go.Proofs.YtedlocniojlhfaaGreatDoor

namespace Go.Proofs.YtedlocniojlhfaaGreatDoor
set_option maxRecDepth 100000
set_option maxHeartbeats 3200000
open Go.RowKit
set_option linter.unusedVariables false

theorem tlE (x s:ByteArray):(x.toList == s.toList)=true↔x=s:=by
 rw [beq_iff_eq]
 constructor
 ·intro h
  rw [ByteArray.toList_eq,ByteArray.toList_eq] at h
  cases x;cases s
  simp only [ByteArray.mk.injEq]
  exact Array.toList_inj.1 h
 ·rintro rfl;rfl

theorem nth_at {ss:List ByteArray} {j:Nat} (h:j<ss.length):nth ss j=ss[j]:=by simp [nth,h]

theorem eq_iff_nth {A B:List ByteArray} (hl:A.length=B.length):A=B↔∀ j,j<A.length→nth A j=nth B j:=by
 constructor
 ·rintro rfl j _;rfl
 ·intro h
  refine List.ext_getElem hl (fun j h1 h2=>?_)
  have:=h j h1
  rwa [nth_at h1,nth_at h2] at this

open Classical in
theorem equalS_any (a b:Option Addr) (n c m d:Nat) (A B:List ByteArray) (w:World) (h1:Strs w a n c A) (h2:Strs w b m d B) :
  Calls Tryz.prog 175 #[.slice a n c,.slice b m d] w fun e w'=>e=.returned (.bool (decide (A=B)))∧Below w.heap.size w w':=by
 have s1:n≤9223372036854775807:=by have:=h1.cap;have:=h1.small;unfold maxLen at this;omega
 have s2:m≤9223372036854775807:=by have:=h2.cap;have:=h2.small;unfold maxLen at this;omega
 have HA:=hide h1.len
 have HB:=hide h2.len
 by_cases hnm:n=m
 ·have enm:((n:Int) != (m:Int))=false:=by rw [hnm];simp
  have HE:=hide (eq_iff_nth (A:=A) (B:=B) (by rw [← h1.len,← h2.len,hnm]))
  have Hnm:=hide hnm
  clear hnm
  go_enter Tryz.func175,Tryz.ntmps175
  go_wp2_with fail
  go_loopw [13] (fun i wr=>∃ k:Nat,k≤n∧i=.int .i64 k∧Below w.heap.size w wr∧Hid (∀ j,j<k→nth A j=nth B j)) (fun i _=>n - (intOf i).toNat)
  case atStart=>exact ⟨0,by omega,rfl,Below.refl _ _,hide (fun j h=>absurd h (by omega))⟩
  case round =>
   obtain ⟨k,hk,rfl,B1,Ha⟩:=hrel
   by_cases hlt:k<n
   ·have ilt:(k:Int)<(n:Int):=by omega
    have ilm:(k:Int)<(m:Int):=by have:=uh Hnm;omega
    obtain ⟨b1,o1,rfl,hl1,c1⟩:=(h1.below B1 nl).cells k hlt
    obtain ⟨b2,o2,rfl,hl2,c2⟩:=(h2.below B1 nl).cells k (by have:=uh Hnm;omega)
    have Hno:=hide (show nth A k≠nth B k→decide (A=B)=false from fun e=>decide_eq_false (fun e'=>e ((uh HE).1 e' k (by rw [← uh HA];exact hlt))))
    have HN:=hide (show nth A k=nth B k→∀ j,j<k+1→nth A j=nth B j from fun e j h'=>by
     by_cases ej:j=k
     ·subst ej;exact e
     ·exact uh Ha j (by omega))
    have Hlt:=hide hlt
    clear Ha hlt
    have BD:=B1.drew
    generalize nth A k=x at c1 Hno HN
    generalize nth B k=y at c2 Hno HN
    by_cases hxy:x=y
    ·have exy:(x.toList == y.toList)=true:=(tlE x y).2 hxy
     have nxy:(x.toList != y.toList)=false:=by rw [bne,exy];rfl
     have HN2:=hide (uh HN hxy)
     clear hxy Hno HN
     go_wp2_with fail
     go_region
     go_wp2_with fail
     go_roundw
     case rel=>exact ⟨k+1,uh Hlt,by go_num,BD,HN2⟩
     case measure=>have:=uh Hlt;simp [intOf];omega
    ·have exy:(x.toList == y.toList)=false:=by rw [Bool.eq_false_iff];exact fun h=>hxy ((tlE x y).1 h)
     have nxy:(x.toList != y.toList)=true:=by rw [bne,exy];rfl
     have HX:=hide (uh Hno hxy)
     clear hxy Hno HN
     go_wp2_with fail
     go_region
     go_wp2_with fail
     go_ret
     exact ⟨ret_bool (uh HX).symm,BD⟩
   ·have e:k=n:=by omega
    subst e
    have HX:=hide (show decide (A=B)=true from decide_eq_true ((uh HE).2 (fun j hj=>uh Ha j (by have:=uh HA;omega))))
    go_wp2_with fail
    go_ret
    exact ⟨ret_bool (uh HX).symm,B1⟩
 ·have enm:((n:Int) != (m:Int))=true:=bne_iff_ne.2 (by omega)
  have HX:=hide (show decide (A=B)=false from decide_eq_false (fun e=>hnm (by rw [h1.len,h2.len,e])))
  clear hnm
  go_enter Tryz.func175,Tryz.ntmps175
  go_wp2_with fail
  go_ret
  exact ⟨ret_bool (uh HX).symm,Below.refl _ _⟩

theorem memN {s:ByteArray} {A:List ByteArray}:s∈A↔∃ j,j<A.length∧nth A j=s:=by
 constructor
 ·intro h
  obtain ⟨j,hj,rfl⟩:=List.getElem_of_mem h
  exact ⟨j,hj,nth_at hj⟩
 ·rintro ⟨j,hj,rfl⟩
  rw [nth_at hj]
  exact List.getElem_mem hj

theorem indexS_any (a:Option Addr) (n c:Nat) (A:List ByteArray) (s:ByteArray) (w:World) (h1:Strs w a n c A) :
  Calls Tryz.prog 148 #[.slice a n c,.string s] w fun e w'=>(∃ k:Int,e=.returned (.int .i64 k)∧(0≤k↔s∈A))∧Below w.heap.size w w':=by
 have s1:n≤9223372036854775807:=by have:=h1.cap;have:=h1.small;unfold maxLen at this;omega
 have HA:=hide h1.len
 go_enter Tryz.func148,Tryz.ntmps148
 go_wp2_with fail
 go_loopw [8] (fun i wr=>∃ k:Nat,k≤n∧i=.int .i64 k∧Below w.heap.size w wr∧Hid (∀ j,j<k→nth A j≠s)) (fun i _=>n - (intOf i).toNat)
 case atStart=>exact ⟨0,by omega,rfl,Below.refl _ _,hide (fun j h=>absurd h (by omega))⟩
 case round =>
  obtain ⟨k,hk,rfl,B1,Ha⟩:=hrel
  by_cases hlt:k<n
  ·have ilt:(k:Int)<(n:Int):=by omega
   obtain ⟨b1,o1,rfl,hl1,c1⟩:=(h1.below B1 nl).cells k hlt
   have Hyes:=hide (show nth A k=s→s∈A from fun e=>memN.2 ⟨k,by rw [← uh HA];exact hlt,e⟩)
   have HN:=hide (show nth A k≠s→∀ j,j<k+1→nth A j≠s from fun e j h'=>by
    by_cases ej:j=k
    ·subst ej;exact e
    ·exact uh Ha j (by omega))
   have Hlt:=hide hlt
   clear Ha hlt
   have BD:=B1.drew
   generalize nth A k=x at c1 Hyes HN
   by_cases hxy:x=s
   ·have exy:(s.toList == x.toList)=true:=(tlE s x).2 hxy.symm
    have HX:=hide (uh Hyes hxy)
    clear hxy Hyes HN
    go_wp2_with fail
    go_ret
    exact ⟨⟨k,rfl,⟨fun _=>uh HX,fun _=>by omega⟩⟩,B1⟩
   ·have exy:(s.toList == x.toList)=false:=by rw [Bool.eq_false_iff];exact fun h=>hxy ((tlE s x).1 h).symm
    have HX:=hide (uh HN hxy)
    clear hxy Hyes HN
    go_wp2_with fail
    go_roundw
    case rel=>exact ⟨k+1,uh Hlt,by go_num,B1,HX⟩
    case measure=>have:=uh Hlt;simp [intOf];omega
  ·have e:k=n:=by omega
   subst e
   have HX:=hide (show s ∉ A from fun h=>by
    obtain ⟨j,hj,e⟩:=memN.1 h
    exact uh Ha j (by rw [uh HA];exact hj) e)
   go_wp2_with fail
   go_ret
   exact ⟨⟨-1,rfl,⟨fun h=>absurd h (by decide),fun h=>absurd h (uh HX)⟩⟩,B1⟩

open Classical in
theorem containsS_any (a:Option Addr) (n c:Nat) (A:List ByteArray) (s:ByteArray) (w:World) (h1:Strs w a n c A) :
  Calls Tryz.prog 134 #[.slice a n c,.string s] w fun e w'=>e=.returned (.bool (decide (s∈A)))∧Below w.heap.size w w':=by
 go_enter Tryz.func134,Tryz.ntmps134
 go_wp2_with fail
 refine (indexS_any _ _ _ A s _ h1).mono ?_
 rintro r w1 ⟨⟨k,rfl,hk⟩,hb1⟩
 have HK:=hide hk
 clear hk
 by_cases h0:0≤k
 ·have HX:=hide (decide_eq_true ((uh HK).1 h0))
  dsimp only
  go_wp2_with fail
  go_ret
  exact ⟨by rw [uh HX];rfl,hb1⟩
 ·have HX:=hide (decide_eq_false (fun h=>h0 ((uh HK).2 h)))
  dsimp only
  go_wp2_with fail
  go_ret
  exact ⟨by rw [uh HX];rfl,hb1⟩

end Go.Proofs.YtedlocniojlhfaaGreatDoor

namespace Go.Proofs.YtedlocniojlhfaaGreatDoor
set_option maxRecDepth 100000
set_option maxHeartbeats 3200000
open Go.RowKit
set_option linter.unusedVariables false

variable {aS aO aZ aW:Addr} {G:Nat→Prop}

theorem nums_any (op a b:Int) (w:World) (hs:Sent w aS aO aZ aW) (ha:I64 a) (hb:I64 b) (ho:op=11∨op=12∨op=13∨op=14∨op=15∨op=21∨op=22) :
  Calls Tryz.prog 136 #[.int .i64 op,.int .i64 a,.int .i64 b] w (OAns G aS aO aZ aW (evBin op (.int a) (.int b)) w):=by
 rcases ho with rfl | rfl | rfl | rfl | rfl | rfl | rfl
 ·have HC:=hide (calculate_any 1 a b w hs ha hb)
  have h1:=calcF_code4 1 a b
  have h2:=calcF_i64 1 a b
  have HE:=hide (evBin_num (op:=11) (a:=a) (b:=b) (by decide))
  rw [show (11:Int) - 10=1 by decide] at HE
  generalize calcF 1 a b=p at HC h1 h2 HE
  obtain ⟨p1,p2⟩:=p
  by_cases h0:p2=0
  ·subst h0
   go_enter Tryz.func136,Tryz.ntmps136
   go_wp2_with fail
   refine (uh HC).mono ?_
   rintro r w1 ⟨rfl,hb1⟩
   dsimp only [pairV,errV,if_true]
   go_wp2_with fail
   refine bodyPost_ret (v:=.tuple #[.iface 151 (.int .i64 p1),.nilIface]) (by simp [results,Tryz.results136,go_sem]) rfl ?_
   rw [uh HE]
   exact ⟨⟨_,rfl,rfl,h2⟩,hb1⟩
  ·obtain ⟨e,he⟩:=errV_form (aS:=aS) (aO:=aO) (aZ:=aZ) (aW:=aW) (c:=p2) (by dsimp only at h1;omega)
   have Hp:=hide h0
   have Hh:=hide h1
   clear h0 h1
   go_enter Tryz.func136,Tryz.ntmps136
   go_wp2_with fail
   refine (uh HC).mono ?_
   rintro r w1 ⟨rfl,hb1⟩
   dsimp only [pairV]
   rw [he]
   go_wp2_with fail
   refine bodyPost_ret (v:=.tuple #[.iface 151 (.int .i64 p1),.iface 262 (.pointer (some e))]) (by simp [results,Tryz.results136,go_sem]) rfl ?_
   rw [uh HE,ofCalc,if_neg (uh Hp)]
   have:=uh Hh
   have:=uh Hp
   exact ⟨⟨_,by rw [he],by dsimp only at *;omega,by dsimp only at *;omega⟩,hb1⟩
 ·have HC:=hide (calculate_any 2 a b w hs ha hb)
  have h1:=calcF_code4 2 a b
  have h2:=calcF_i64 2 a b
  have HE:=hide (evBin_num (op:=12) (a:=a) (b:=b) (by decide))
  rw [show (12:Int) - 10=2 by decide] at HE
  generalize calcF 2 a b=p at HC h1 h2 HE
  obtain ⟨p1,p2⟩:=p
  by_cases h0:p2=0
  ·subst h0
   go_enter Tryz.func136,Tryz.ntmps136
   go_wp2_with fail
   refine (uh HC).mono ?_
   rintro r w1 ⟨rfl,hb1⟩
   dsimp only [pairV,errV,if_true]
   go_wp2_with fail
   refine bodyPost_ret (v:=.tuple #[.iface 151 (.int .i64 p1),.nilIface]) (by simp [results,Tryz.results136,go_sem]) rfl ?_
   rw [uh HE]
   exact ⟨⟨_,rfl,rfl,h2⟩,hb1⟩
  ·obtain ⟨e,he⟩:=errV_form (aS:=aS) (aO:=aO) (aZ:=aZ) (aW:=aW) (c:=p2) (by dsimp only at h1;omega)
   have Hp:=hide h0
   have Hh:=hide h1
   clear h0 h1
   go_enter Tryz.func136,Tryz.ntmps136
   go_wp2_with fail
   refine (uh HC).mono ?_
   rintro r w1 ⟨rfl,hb1⟩
   dsimp only [pairV]
   rw [he]
   go_wp2_with fail
   refine bodyPost_ret (v:=.tuple #[.iface 151 (.int .i64 p1),.iface 262 (.pointer (some e))]) (by simp [results,Tryz.results136,go_sem]) rfl ?_
   rw [uh HE,ofCalc,if_neg (uh Hp)]
   have:=uh Hh
   have:=uh Hp
   exact ⟨⟨_,by rw [he],by dsimp only at *;omega,by dsimp only at *;omega⟩,hb1⟩
 ·have HC:=hide (calculate_any 3 a b w hs ha hb)
  have h1:=calcF_code4 3 a b
  have h2:=calcF_i64 3 a b
  have HE:=hide (evBin_num (op:=13) (a:=a) (b:=b) (by decide))
  rw [show (13:Int) - 10=3 by decide] at HE
  generalize calcF 3 a b=p at HC h1 h2 HE
  obtain ⟨p1,p2⟩:=p
  by_cases h0:p2=0
  ·subst h0
   go_enter Tryz.func136,Tryz.ntmps136
   go_wp2_with fail
   refine (uh HC).mono ?_
   rintro r w1 ⟨rfl,hb1⟩
   dsimp only [pairV,errV,if_true]
   go_wp2_with fail
   refine bodyPost_ret (v:=.tuple #[.iface 151 (.int .i64 p1),.nilIface]) (by simp [results,Tryz.results136,go_sem]) rfl ?_
   rw [uh HE]
   exact ⟨⟨_,rfl,rfl,h2⟩,hb1⟩
  ·obtain ⟨e,he⟩:=errV_form (aS:=aS) (aO:=aO) (aZ:=aZ) (aW:=aW) (c:=p2) (by dsimp only at h1;omega)
   have Hp:=hide h0
   have Hh:=hide h1
   clear h0 h1
   go_enter Tryz.func136,Tryz.ntmps136
   go_wp2_with fail
   refine (uh HC).mono ?_
   rintro r w1 ⟨rfl,hb1⟩
   dsimp only [pairV]
   rw [he]
   go_wp2_with fail
   refine bodyPost_ret (v:=.tuple #[.iface 151 (.int .i64 p1),.iface 262 (.pointer (some e))]) (by simp [results,Tryz.results136,go_sem]) rfl ?_
   rw [uh HE,ofCalc,if_neg (uh Hp)]
   have:=uh Hh
   have:=uh Hp
   exact ⟨⟨_,by rw [he],by dsimp only at *;omega,by dsimp only at *;omega⟩,hb1⟩
 ·have HC:=hide (calculate_any 4 a b w hs ha hb)
  have h1:=calcF_code4 4 a b
  have h2:=calcF_i64 4 a b
  have HE:=hide (evBin_num (op:=14) (a:=a) (b:=b) (by decide))
  rw [show (14:Int) - 10=4 by decide] at HE
  generalize calcF 4 a b=p at HC h1 h2 HE
  obtain ⟨p1,p2⟩:=p
  by_cases h0:p2=0
  ·subst h0
   go_enter Tryz.func136,Tryz.ntmps136
   go_wp2_with fail
   refine (uh HC).mono ?_
   rintro r w1 ⟨rfl,hb1⟩
   dsimp only [pairV,errV,if_true]
   go_wp2_with fail
   refine bodyPost_ret (v:=.tuple #[.iface 151 (.int .i64 p1),.nilIface]) (by simp [results,Tryz.results136,go_sem]) rfl ?_
   rw [uh HE]
   exact ⟨⟨_,rfl,rfl,h2⟩,hb1⟩
  ·obtain ⟨e,he⟩:=errV_form (aS:=aS) (aO:=aO) (aZ:=aZ) (aW:=aW) (c:=p2) (by dsimp only at h1;omega)
   have Hp:=hide h0
   have Hh:=hide h1
   clear h0 h1
   go_enter Tryz.func136,Tryz.ntmps136
   go_wp2_with fail
   refine (uh HC).mono ?_
   rintro r w1 ⟨rfl,hb1⟩
   dsimp only [pairV]
   rw [he]
   go_wp2_with fail
   refine bodyPost_ret (v:=.tuple #[.iface 151 (.int .i64 p1),.iface 262 (.pointer (some e))]) (by simp [results,Tryz.results136,go_sem]) rfl ?_
   rw [uh HE,ofCalc,if_neg (uh Hp)]
   have:=uh Hh
   have:=uh Hp
   exact ⟨⟨_,by rw [he],by dsimp only at *;omega,by dsimp only at *;omega⟩,hb1⟩
 ·have HC:=hide (calculate_any 5 a b w hs ha hb)
  have h1:=calcF_code4 5 a b
  have h2:=calcF_i64 5 a b
  have HE:=hide (evBin_num (op:=15) (a:=a) (b:=b) (by decide))
  rw [show (15:Int) - 10=5 by decide] at HE
  generalize calcF 5 a b=p at HC h1 h2 HE
  obtain ⟨p1,p2⟩:=p
  by_cases h0:p2=0
  ·subst h0
   go_enter Tryz.func136,Tryz.ntmps136
   go_wp2_with fail
   refine (uh HC).mono ?_
   rintro r w1 ⟨rfl,hb1⟩
   dsimp only [pairV,errV,if_true]
   go_wp2_with fail
   refine bodyPost_ret (v:=.tuple #[.iface 151 (.int .i64 p1),.nilIface]) (by simp [results,Tryz.results136,go_sem]) rfl ?_
   rw [uh HE]
   exact ⟨⟨_,rfl,rfl,h2⟩,hb1⟩
  ·obtain ⟨e,he⟩:=errV_form (aS:=aS) (aO:=aO) (aZ:=aZ) (aW:=aW) (c:=p2) (by dsimp only at h1;omega)
   have Hp:=hide h0
   have Hh:=hide h1
   clear h0 h1
   go_enter Tryz.func136,Tryz.ntmps136
   go_wp2_with fail
   refine (uh HC).mono ?_
   rintro r w1 ⟨rfl,hb1⟩
   dsimp only [pairV]
   rw [he]
   go_wp2_with fail
   refine bodyPost_ret (v:=.tuple #[.iface 151 (.int .i64 p1),.iface 262 (.pointer (some e))]) (by simp [results,Tryz.results136,go_sem]) rfl ?_
   rw [uh HE,ofCalc,if_neg (uh Hp)]
   have:=uh Hh
   have:=uh Hp
   exact ⟨⟨_,by rw [he],by dsimp only at *;omega,by dsimp only at *;omega⟩,hb1⟩
 ·go_enter Tryz.func136,Tryz.ntmps136
  go_wp2_with fail
  refine bodyPost_ret (v:=.tuple #[.iface 119 (.bool (decide (a<b))),.nilIface]) (by simp [results,Tryz.results136,go_sem]) rfl ?_
  exact ⟨⟨_,rfl,rfl⟩,Below.refl _ _⟩
 ·go_enter Tryz.func136,Tryz.ntmps136
  go_wp2_with fail
  refine bodyPost_ret (v:=.tuple #[.iface 119 (.bool (decide (a≤b))),.nilIface]) (by simp [results,Tryz.results136,go_sem]) rfl ?_
  exact ⟨⟨_,rfl,rfl⟩,Below.refl _ _⟩

theorem sizes_of {w:World} {a:Option Addr} {n c:Nat} {ss:List ByteArray} (h:Strs w a n c ss):∀ j,j<ss.length→(nth ss j).size≤maxLen:=fun j hj=>h.sizes j (by rw [h.len];exact hj)

theorem own_good {w w1:World} {e:TypeId} {size n k c:Nat} {x:Option Addr} {xs:List Value} (h:w1.ownsRow w.heap.size e size (.slice x k c) n xs) (hG:∀ b,w.heap.size≤b→G b):∀ ad,x=some ad→0<k→G ad.block:=fun ad e _=>hG _ (h.lt ad.block (by rw [e];rfl)).1

theorem sets_any (op:Int) (a:Option Addr) (n c:Nat) (ss:List ByteArray) (b:Option Addr) (m d:Nat) (tt:List ByteArray) (w:World) (hs:Sent w aS aO aZ aW) (h1:Strs w a n c ss) (h2:Strs w b m d tt) (l1:ss.length≤1048576) (hG:∀ b,w.heap.size≤b→G b) (ho:op=16∨op=17∨op=18∨op=24) :
  Calls Tryz.prog 135 #[.int .i64 op,.slice a n c,.slice b m d] w (OAns G aS aO aZ aW (evBin op (.set ss) (.set tt)) w):=by
 rcases ho with rfl | rfl | rfl | rfl
 ·have HC:=hide (unite_any a n c ss b m d tt w hs h1 h2)
  go_enter Tryz.func135,Tryz.ntmps135
  go_wp2_with fail
  refine (uh HC).mono ?_
  rintro r w1 ⟨x,cx,K,e,rfl,O1,hb1,hU⟩
  have HU:=hide hU
  have hS:=Strs.of_owns O1 (hU.sizes (sizes_of h1) (sizes_of h2))
  have HG:=hide (own_good O1 hG)
  have hc:=hU.code
  clear hU O1
  by_cases h0:e=0
  ·subst h0
   dsimp only [errV,if_true]
   go_wp2_with fail
   refine bodyPost_ret (v:=.tuple #[.iface 146 (.slice x K.length cx),.nilIface]) (by simp [results,Tryz.results135,go_sem]) rfl ?_
   rw [evBin_union,unionK_of (uh HU)]
   exact ⟨⟨_,rfl,_,_,_,rfl,hS,by have:=(uh HU).len;show K.length≤1048576;omega,uh HG⟩,hb1⟩
  ·obtain ⟨q,hq⟩:=errV_form (aS:=aS) (aO:=aO) (aZ:=aZ) (aW:=aW) (c:=e) (by omega)
   have Hp:=hide h0
   have Hh:=hide hc
   clear h0 hc
   rw [hq]
   dsimp only
   go_wp2_with fail
   refine bodyPost_ret (v:=.tuple #[.iface 146 (.slice x K.length cx),.iface 262 (.pointer (some q))]) (by simp [results,Tryz.results135,go_sem]) rfl ?_
   rw [evBin_union,unionK_of (uh HU),ofUnion,if_neg (uh Hp)]
   have:=uh Hh
   have:=uh Hp
   exact ⟨⟨_,by rw [hq],by dsimp only at *;omega,by dsimp only at *;omega⟩,hb1⟩
 ·have HC:=hide (iMeet_any a n c ss b m d tt w h1 h2)
  have HZ:=hide (meet_sizes ss tt (sizes_of h1))
  have HW:=hide (Nat.le_trans (meet_len ss tt) l1)
  generalize hL:meetL ss tt=K at HZ HW
  have HL:=hide hL
  clear hL
  go_enter Tryz.func135,Tryz.ntmps135
  go_wp2_with fail
  refine (uh HC).mono ?_
  rintro r w1 ⟨x,cx,rfl,O1,hb1⟩
  rw [uh HL] at O1 ⊢
  have hS:=Strs.of_owns O1 (uh HZ)
  have HG:=hide (own_good O1 hG)
  clear O1
  dsimp only
  go_wp2_with fail
  refine bodyPost_ret (v:=.tuple #[.iface 146 (.slice x K.length cx),.nilIface]) (by simp [results,Tryz.results135,go_sem]) rfl ?_
  rw [evBin_meet,uh HL]
  exact ⟨⟨_,rfl,_,_,_,rfl,hS,uh HW,uh HG⟩,hb1⟩
 ·have HC:=hide (iMinus_any a n c ss b m d tt w h1 h2)
  have HZ:=hide (minus_sizes ss tt (sizes_of h1))
  have HW:=hide (Nat.le_trans (minus_len ss tt) l1)
  generalize hL:minusL ss tt=K at HZ HW
  have HL:=hide hL
  clear hL
  go_enter Tryz.func135,Tryz.ntmps135
  go_wp2_with fail
  refine (uh HC).mono ?_
  rintro r w1 ⟨x,cx,rfl,O1,hb1⟩
  rw [uh HL] at O1 ⊢
  have hS:=Strs.of_owns O1 (uh HZ)
  have HG:=hide (own_good O1 hG)
  clear O1
  dsimp only
  go_wp2_with fail
  refine bodyPost_ret (v:=.tuple #[.iface 146 (.slice x K.length cx),.nilIface]) (by simp [results,Tryz.results135,go_sem]) rfl ?_
  rw [evBin_minus,uh HL]
  exact ⟨⟨_,rfl,_,_,_,rfl,hS,uh HW,uh HG⟩,hb1⟩
 ·have HC:=hide (iWithin_any a n c ss b m d tt w h1 h2)
  go_enter Tryz.func135,Tryz.ntmps135
  go_wp2_with fail
  refine (uh HC).mono ?_
  rintro r w1 ⟨rfl,hb1⟩
  generalize hW:withinB ss tt=q
  have HW:=hide hW
  clear hW
  dsimp only
  go_wp2_with fail
  refine bodyPost_ret (v:=.tuple #[.iface 119 (.bool q),.nilIface]) (by simp [results,Tryz.results135,go_sem]) rfl ?_
  rw [evBin_within,uh HW]
  exact ⟨⟨_,rfl,rfl⟩,hb1⟩

theorem ms_bool (b:Bool):∀ w,(method 406 119 (.bool b) "loop.example/s01308/impl.same").run Tryz.prog w=.ok (173,(.bool b)) w:=fun _=>by kernel_rfl
theorem ms_int (n:Int):∀ w,(method 406 151 (.int .i64 n) "loop.example/s01308/impl.same").run Tryz.prog w=.ok (178,(.int .i64 n)) w:=fun _=>by kernel_rfl
theorem ms_text (s:ByteArray):∀ w,(method 406 154 (.string s) "loop.example/s01308/impl.same").run Tryz.prog w=.ok (179,(.string s)) w:=fun _=>by kernel_rfl
theorem ms_set (a:Option Addr) (n c:Nat):∀ w,(method 406 146 (.slice a n c) "loop.example/s01308/impl.same").run Tryz.prog w=.ok (174,(.slice a n c)) w:=fun _=>by kernel_rfl

def SmAns (v u:Vv) (w:World) (r:Ending) (w':World):Prop:=r=.returned (.bool (sameV v u))∧Below w.heap.size w w'

open Classical in
theorem same_bool_b (a b:Bool):sameV (.bool a) (.bool b)=(a == b):=by
 rw [sameV]
 by_cases h:a=b
 ·subst h;simp
 ·rw [decide_eq_false (fun e=>h (by cases e;rfl))];exact (beq_eq_false_iff_ne.2 h).symm
open Classical in
theorem same_int_b (a b:Int):sameV (.int a) (.int b)=(a == b):=by
 rw [sameV]
 by_cases h:a=b
 ·subst h;simp
 ·rw [decide_eq_false (fun e=>h (by cases e;rfl))];exact (beq_eq_false_iff_ne.2 h).symm
open Classical in
theorem same_text_b (a b:ByteArray):sameV (.text a) (.text b)=(a.toList == b.toList):=by
 rw [sameV]
 by_cases h:a=b
 ·subst h;simp
 ·rw [decide_eq_false (fun e=>h (by cases e;rfl))]
  symm
  rw [Bool.eq_false_iff]
  exact fun k=>h ((tlE a b).1 k)
open Classical in
theorem same_set_b (a b:List ByteArray):sameV (.set a) (.set b)=decide (a=b):=by
 rw [sameV]
 by_cases h:a=b
 ·subst h;simp
 ·rw [decide_eq_false (fun e=>h (by cases e;rfl)),decide_eq_false h]

theorem sameB_any (a b:Bool) (w:World):Calls Tryz.prog 173 #[.bool a,.iface 119 (.bool b)] w (SmAns (.bool a) (.bool b) w):=by
 have t1:=tk_bool
 go_enter Tryz.func173,Tryz.ntmps173
 go_wp2_with fail
 go_ret
 exact ⟨by rw [same_bool_b];rfl,Below.refl _ _⟩

theorem sameI_any (a b:Int) (w:World):Calls Tryz.prog 178 #[.int .i64 a,.iface 151 (.int .i64 b)] w (SmAns (.int a) (.int b) w):=by
 have t1:=tk_int
 have HX:=hide (same_int_b a b)
 generalize (a == b)=q at HX
 go_enter Tryz.func178,Tryz.ntmps178
 go_wp2_with fail
 go_ret
 exact ⟨by rw [same_int_b];rfl,Below.refl _ _⟩

theorem sameT_any (a b:ByteArray) (w:World):Calls Tryz.prog 179 #[.string a,.iface 154 (.string b)] w (SmAns (.text a) (.text b) w):=by
 have t1:=tk_text
 go_enter Tryz.func179,Tryz.ntmps179
 go_wp2_with fail
 go_ret
 exact ⟨by rw [same_text_b];rfl,Below.refl _ _⟩

theorem sameS_any (a:Option Addr) (n c:Nat) (ss:List ByteArray) (b:Option Addr) (m d:Nat) (tt:List ByteArray) (w:World) (h1:Strs w a n c ss) (h2:Strs w b m d tt):Calls Tryz.prog 174 #[.slice a n c,.iface 146 (.slice b m d)] w (SmAns (.set ss) (.set tt) w):=by
 have t1:=tk_set
 have HC:=hide (equalS_any a b n c m d ss tt w h1 h2)
 have HX:=hide (same_set_b ss tt)
 generalize sameV (.set ss) (.set tt)=q at HX
 rw [← uh HX] at HC
 go_enter Tryz.func174,Tryz.ntmps174
 go_wp2_with fail
 refine (uh HC).mono ?_
 rintro r w1 ⟨rfl,hb1⟩
 dsimp only
 go_wp2_with fail
 go_ret
 exact ⟨by rw [same_set_b,← uh HX];rfl,hb1⟩

end Go.Proofs.YtedlocniojlhfaaGreatDoor

namespace Go.Proofs.YtedlocniojlhfaaGreatDoor
set_option maxRecDepth 100000
set_option maxHeartbeats 6400000
open Go.RowKit
set_option linter.unusedVariables false

def ZS (w:World) (a:Option Addr) (c:Nat):Prop:=(a=none→c=0)∧∀ ad,a=some ad→∃ cs,Row w ad.block cs 9

theorem ZS.below {w w':World} {B:Nat} {a:Option Addr} {c:Nat} (h:ZS w a c) (hb:Below B w w') (hB:w.heap.size≤B):ZS w' a c:=⟨h.1,fun ad e=>by
 obtain ⟨cs,r⟩:=h.2 ad e
 exact ⟨cs,r.after hb hB⟩⟩

theorem ZS.setCell {w:World} {a:Option Addr} {c:Nat} (h:ZS w a c) (b j:Nat) (u:Value):ZS (w.setCell ⟨b,j,none⟩ u) a c:=⟨h.1,fun ad e=>by
 obtain ⟨cs,r⟩:=h.2 ad e
 by_cases hp:ad.block=b
 ·rw [hp] at r ⊢
  exact ⟨_,r.set j u⟩
 ·exact ⟨cs,r.setFar hp u⟩⟩

theorem ZS.of_owns {w:World} {B:Nat} {x:Option Addr} {n cx:Nat} {xs:List Value} (h:w.ownsRow B 9 1 (.slice x n cx) n xs):ZS w x cx:=by
 rcases h.2 with ⟨q,_⟩ | ⟨g,cap,cur,q,_,hg,_⟩
 ·simp only [Value.slice.injEq] at q
  obtain ⟨rfl,_,rfl⟩:=q
  exact ⟨fun _=>rfl,fun ad e=>nomatch e⟩
 ·simp only [Value.slice.injEq] at q
  obtain ⟨rfl,_,rfl⟩:=q
  exact ⟨fun e=>(nomatch e),fun ad e=>⟨cur,by cases e;exact ⟨hg⟩⟩⟩

def MVs (w:World) (num:Int) (text:ByteArray) (a:Option Addr) (n c:Nat):Vv→Prop
 | .bool b=>num=(if b then 1 else 0)∧text=⟨#[]⟩∧a=none∧n=0∧c=0
 | .int k=>(num=k∧I64 k)∧text=⟨#[]⟩∧a=none∧n=0∧c=0
 | .text s=>num=0∧text=s∧a=none∧n=0∧c=0
 | .set ss=>num=0∧text=⟨#[]⟩∧Strs w a n c ss∧ss.length≤1048576∧ZS w a c

theorem MVs.below {w w':World} {B:Nat} {num:Int} {text:ByteArray} {a:Option Addr} {n c:Nat} {v:Vv} (h:MVs w num text a n c v) (hb:Below B w w') (hB:w.heap.size≤B):MVs w' num text a n c v:=by
 cases v with
 | bool b=>exact h
 | int k=>exact h
 | text s=>exact h
 | set ss =>
  obtain ⟨h1,h2,h3,h4,h5⟩:=h
  exact ⟨h1,h2,h3.below hb hB,h4,h5.below hb hB⟩

def Vv.names:Vv→List ByteArray
 | .set ss=>ss
 | _=>[]

theorem MVs.strs {w:World} {num:Int} {text:ByteArray} {a:Option Addr} {n c:Nat} {v:Vv} (h:MVs w num text a n c v):Strs w a n c v.names∧v.names.length≤1048576∧(a=none→c=0):=by
 have nil:Strs w none 0 0 []:=⟨rfl,nl,Nat.zero_le _,fun j h=>absurd h (by omega),fun j h=>absurd h (by omega)⟩
 cases v with
 | bool b=>obtain ⟨_,_,rfl,rfl,rfl⟩:=h;exact ⟨nil,Nat.zero_le _,fun _=>rfl⟩
 | int k=>obtain ⟨_,_,rfl,rfl,rfl⟩:=h;exact ⟨nil,Nat.zero_le _,fun _=>rfl⟩
 | text s=>obtain ⟨_,_,rfl,rfl,rfl⟩:=h;exact ⟨nil,Nat.zero_le _,fun _=>rfl⟩
 | set ss=>exact ⟨h.2.2.1,h.2.2.2.1,h.2.2.2.2.1⟩

open Classical in
noncomputable def eqP (num num':Int) (text text':ByteArray) (A A':List ByteArray):Bool:=decide (num=num'∧text=text'∧A=A')

open Classical in
theorem MVs.same {w:World} {num num':Int} {text text':ByteArray} {a a':Option Addr} {n c n' c':Nat} {v u:Vv} (h:MVs w num text a n c v) (h':MVs w num' text' a' n' c' u) (ht:v.ty=u.ty):sameV v u=eqP num num' text text' v.names u.names:=by
 rw [sameV,eqP,decide_eq_decide]
 cases v with
 | bool b =>
  obtain ⟨d,rfl⟩:=Vv.bool_of (v:=u) ht.symm
  obtain ⟨rfl,rfl,_⟩:=h
  obtain ⟨rfl,rfl,_⟩:=h'
  cases b <;> cases d <;> simp [Vv.names]
 | int k =>
  obtain ⟨d,rfl⟩:=Vv.int_of (v:=u) ht.symm
  obtain ⟨⟨rfl,_⟩,rfl,_⟩:=h
  obtain ⟨⟨rfl,_⟩,rfl,_⟩:=h'
  simp [Vv.names]
 | text s =>
  obtain ⟨d,rfl⟩:=Vv.text_of (v:=u) ht.symm
  obtain ⟨rfl,rfl,_⟩:=h
  obtain ⟨rfl,rfl,_⟩:=h'
  simp [Vv.names]
 | set ss =>
  obtain ⟨d,rfl⟩:=Vv.set_of (v:=u) ht.symm
  obtain ⟨rfl,rfl,_⟩:=h
  obtain ⟨rfl,rfl,_⟩:=h'
  simp [Vv.names]

def MAns (o:Ev) (w:World) (r:Ending) (w':World):Prop :=
 (∃ code num text a n c,r=.returned (.agg #[.int .i64 code,.int .i64 num,.string text,.slice a n c])∧(match o with
  | .ok v=>code=0∧MVs w' num text a n c v
  | .err e=>code=e∧e≠0))∧Below w.heap.size w w'

theorem l3truth_any (b:Bool) (w:World):Calls Tryz.prog 104 #[.bool b] w (MAns (.ok (.bool b)) w):=by
 have B0:∀ cs,Below w.heap.size w (w.alloc (.cells cs 96)):=fun cs=>(Below.refl w.heap.size w).alloc nl _
 cases b with
 | true =>
  go_enter Tryz.func104,Tryz.ntmps104
  go_wp2_with fail
  refine bodyPost_ret (v:=.agg #[.int .i64 0,.int .i64 1,.string ⟨#[]⟩,.slice none 0 0]) (by simp [results,Tryz.results104,go_sem]) rfl ?_
  exact ⟨⟨_,_,_,_,_,_,rfl,rfl,rfl,rfl,rfl,rfl,rfl⟩,B0 _⟩
 | false =>
  go_enter Tryz.func104,Tryz.ntmps104
  go_wp2_with fail
  refine bodyPost_ret (v:=.agg #[.int .i64 0,.int .i64 0,.string ⟨#[]⟩,.slice none 0 0]) (by simp [results,Tryz.results104,go_sem]) rfl ?_
  exact ⟨⟨_,_,_,_,_,_,rfl,rfl,rfl,rfl,rfl,rfl,rfl⟩,B0 _⟩

open Classical in
theorem l3same_any (c0 num:Int) (text:ByteArray) (a:Option Addr) (n c:Nat) (A:List ByteArray) (c0' num':Int) (text':ByteArray) (a':Option Addr) (n' c':Nat) (A':List ByteArray) (w:World) (h:Strs w a n c A) (h':Strs w a' n' c' A') :
  Calls Tryz.prog 105 #[.agg #[.int .i64 c0,.int .i64 num,.string text,.slice a n c],.agg #[.int .i64 c0',.int .i64 num',.string text',.slice a' n' c']] w fun r w'=>r=.returned (.bool (eqP num num' text text' A A'))∧Below w.heap.size w w':=by
 have B0:=((Below.refl w.heap.size w).alloc nl (.cells #[.int .i64 c0,.int .i64 num,.string text,.slice a n c] 96)).alloc (by simp) (.cells #[.int .i64 c0',.int .i64 num',.string text',.slice a' n' c'] 96)
 have R0:=(Row.new w #[.int .i64 c0,.int .i64 num,.string text,.slice a n c] 96).alloc (.cells #[.int .i64 c0',.int .i64 num',.string text',.slice a' n' c'] 96)
 have R1:=Row.new (w.alloc (.cells #[.int .i64 c0,.int .i64 num,.string text,.slice a n c] 96)) #[.int .i64 c0',.int .i64 num',.string text',.slice a' n' c'] 96
 simp only [World.size_alloc] at R1
 have H0:=h.below B0 nl
 have H1:=h'.below B0 nl
 have s1:n≤9223372036854775807:=by have:=h.cap;have:=h.small;unfold maxLen at this;omega
 have s2:n'≤9223372036854775807:=by have:=h'.cap;have:=h'.small;unfold maxLen at this;omega
 have HA:=hide h.len
 have HB:=hide h'.len
 clear h h'
 by_cases hn:num=num'
 ·have en:(num != num')=false:=by rw [hn];simp
  by_cases ht:text=text'
  ·have et:(text.toList != text'.toList)=false:=by rw [ht];simp
   have et2:(text.toList == text'.toList)=true:=by rw [ht];simp
   by_cases hl:n=n'
   ·have el:((n:Int) != (n':Int))=false:=by rw [hl];simp
    have HE:=hide (eq_iff_nth (A:=A) (B:=A') (by rw [← uh HA,← uh HB,hl]))
    have HQ:=hide (show eqP num num' text text' A A'=decide (A=A') by simp [eqP,hn,ht])
    have Hnm:=hide hl
    clear hn ht hl
    go_enter Tryz.func105,Tryz.ntmps105
    go_wp2_with fail
    generalize ((w.alloc (.cells #[.int .i64 c0,.int .i64 num,.string text,.slice a n c] 96)).alloc (.cells #[.int .i64 c0',.int .i64 num',.string text',.slice a' n' c'] 96))=W1 at B0 R0 R1 H0 H1 ⊢
    go_loopw [31] (fun i wr=>∃ k:Nat,k≤n∧i=.int .i64 k∧Below W1.heap.size W1 wr∧Hid (∀ j,j<k→nth A j=nth A' j)) (fun i _=>n - (intOf i).toNat)
    case atStart=>exact ⟨0,by omega,rfl,Below.refl _ _,hide (fun j h=>absurd h (by omega))⟩
    case round =>
     obtain ⟨k,hk,rfl,D1,Ha⟩:=hrel
     have B1:=B0.trans (D1.mono B0.size)
     by_cases hlt:k<n
     ·have ilt:(k:Int)<(n:Int):=by omega
      have ilm:(k:Int)<(n':Int):=by have:=uh Hnm;omega
      obtain ⟨b1,o1,rfl,hl1,c1⟩:=(H0.below D1 nl).cells k hlt
      obtain ⟨b2,o2,rfl,hl2,c2⟩:=(H1.below D1 nl).cells k (by have:=uh Hnm;omega)
      have q3:wr.cell? ⟨w.heap.size+1,3,none⟩=some (.slice (some ⟨b2,o2,none⟩) n' c'):=(R1.after D1 nl).cell 3
      have Hno:=hide (show nth A k≠nth A' k→decide (A=A')=false from fun e=>decide_eq_false (fun e'=>e ((uh HE).1 e' k (by rw [← uh HA];exact hlt))))
      have HN:=hide (show nth A k=nth A' k→∀ j,j<k+1→nth A j=nth A' j from fun e j h'=>by
       by_cases ej:j=k
       ·subst ej;exact e
       ·exact uh Ha j (by omega))
      have Hlt:=hide hlt
      clear Ha hlt
      generalize nth A k=x at c1 Hno HN
      generalize nth A' k=y at c2 Hno HN
      by_cases hxy:x=y
      ·have exy:(y.toList == x.toList)=true:=(tlE y x).2 hxy.symm
       have nxy:(y.toList != x.toList)=false:=by rw [bne,exy];rfl
       have HN2:=hide (uh HN hxy)
       clear hxy Hno HN
       go_wp2_with fail
       go_roundw
       case rel=>exact ⟨k+1,uh Hlt,by go_num,D1,HN2⟩
       case measure=>have:=uh Hlt;simp [intOf];omega
      ·have exy:(y.toList == x.toList)=false:=by rw [Bool.eq_false_iff];exact fun h=>hxy ((tlE y x).1 h).symm
       have nxy:(y.toList != x.toList)=true:=by rw [bne,exy];rfl
       have HX:=hide (uh Hno hxy)
       clear hxy Hno HN
       go_wp2_with fail
       go_ret
       exact ⟨ret_bool ((uh HQ).trans (uh HX)).symm,B1⟩
     ·have e:k=n:=by omega
      subst e
      have HX:=hide (show decide (A=A')=true from decide_eq_true ((uh HE).2 (fun j hj=>uh Ha j (by have:=uh HA;omega))))
      go_wp2_with fail
      go_ret
      exact ⟨ret_bool ((uh HQ).trans (uh HX)).symm,B1⟩
   ·have el:((n:Int) != (n':Int))=true:=bne_iff_ne.2 (by omega)
    have HX:=hide (show eqP num num' text text' A A'=false from decide_eq_false (fun e=>hl (by rw [uh HA,uh HB,e.2.2])))
    clear hn ht hl
    go_enter Tryz.func105,Tryz.ntmps105
    go_wp2_with fail
    go_ret
    exact ⟨ret_bool (uh HX).symm,B0⟩
  ·have et:(text.toList != text'.toList)=true:=by rw [bne,Bool.eq_false_iff.2 (fun k=>ht ((tlE _ _).1 k))];rfl
   have et2:(text.toList == text'.toList)=false:=Bool.eq_false_iff.2 (fun k=>ht ((tlE _ _).1 k))
   have HX:=hide (show eqP num num' text text' A A'=false from decide_eq_false (fun e=>ht e.2.1))
   clear hn ht
   go_enter Tryz.func105,Tryz.ntmps105
   go_wp2_with fail
   go_ret
   exact ⟨ret_bool (uh HX).symm,B0⟩
 ·have en:(num != num')=true:=bne_iff_ne.2 hn
  have HX:=hide (show eqP num num' text text' A A'=false from decide_eq_false (fun e=>hn e.1))
  clear hn
  go_enter Tryz.func105,Tryz.ntmps105
  go_wp2_with fail
  go_ret
  exact ⟨ret_bool (uh HX).symm,B0⟩

end Go.Proofs.YtedlocniojlhfaaGreatDoor

namespace Go.Proofs.YtedlocniojlhfaaGreatDoor
set_option maxRecDepth 100000
set_option maxHeartbeats 6400000
open Go.RowKit
set_option linter.unusedVariables false

theorem kidsF_len {f:Int→List Int→List Int} {M:Nat} (hf:∀ k O,(f k O).length≤max O.length M+1) (top:Int):∀ (ks O:List Int),(kidsF f top ks O).length≤max O.length M+ks.length+1
 | [],O=>by rw [kidsF,List.length_append,List.length_singleton,List.length_nil];omega
 | k::ks,O=>by
  rw [kidsF]
  split
  ·rw [List.length_append,List.length_singleton,List.length_cons];omega
  ·have h1:=kidsF_len hf top ks (f k O)
   have h2:=hf k O
   rw [List.length_cons];omega

theorem walkF_len {K:List (List Int)} (h3:∀ ks∈K,ks.length≤3):∀ (n:Nat) (top:Int) (O:List Int),(walkF K n top O).length≤max O.length (K.length+3*n)+1
 | 0,top,O=>by rw [walkF,List.length_append,List.length_singleton];omega
 | n+1,top,O=>by
  rw [walkF]
  dsimp only
  split
  ·rw [List.length_append,List.length_singleton];omega
  ·rename_i hc
   have h1:=kidsF_len (M:=K.length+3*n) (walkF_len h3 n) top (K.getD top.toNat []) O
   have h2:(K.getD top.toNat []).length≤3:=by
    rw [List.getD_eq_getElem?_getD]
    cases e:K[top.toNat]? with
    | none=>simp
    | some ks=>exact h3 ks (List.mem_of_getElem? e)
   omega

def Keep (w:World) (v:Value) (w':World) (v':Value):Prop:=(∀ k,k<w.heap.size→some k≠v.ownBlock→w'.heap[k]?=w.heap[k]?)∧(∀ q,v'.ownBlock=some q→v.ownBlock=some q∨w.heap.size≤q)∧w.heap.size≤w'.heap.size

theorem Keep.refl (w:World) (v:Value):Keep w v w v:=⟨fun _ _ _=>rfl,fun q h=>.inl h,nl⟩

theorem Keep.trans {w w1 w2:World} {v v1 v2:Value} (h:Keep w v w1 v1) (k:Keep w1 v1 w2 v2):Keep w v w2 v2 :=
 ⟨fun j hj hne=>(k.1 j (Nat.lt_of_lt_of_le hj h.2.2) (fun e=>by
  rcases h.2.1 j e.symm with e' | e'
  ·exact hne e'.symm
  ·omega)).trans (h.1 j hj hne),fun q hq=>by
  rcases k.2.1 q hq with e | e
  ·exact h.2.1 q e
  ·exact .inr (Nat.le_trans h.2.2 e),Nat.le_trans h.2.2 k.2.2⟩

theorem keep_append {w w':World} {o:Obj} {v:Value} {g n c:Nat} (hg:(w.alloc o).grownBy w' v.ownBlock) (ha:v.ownBlock=some g∨g=w.heap.size+1):Keep w v w' (.slice (some ⟨g,0,none⟩) n c) :=
 ⟨fun k hk hne=>(hg.block k (by simp;omega) hne).trans (Below.heap_alloc w o k hk),fun q hq=>by
  have:g=q:=by simpa [Value.ownBlock] using hq
  subst this
  rcases ha with e | e
  ·exact .inl e
  ·right;omega,by have:=hg.size;simp at this;omega⟩

theorem Row.keep {w w':World} {v v':Value} {b:Nat} {cs:Array Value} {t:TypeId} (R:Row w b cs t) (h:Keep w v w' v') (hne:v.ownBlock≠some b):Row w' b cs t:=⟨(h.1 b R.lt (fun e=>hne e.symm)).trans R.out⟩

def WalkAns (B:Nat) (w:World) (v:Value) (R:List Int) (e:Ending) (w':World):Prop:=∃ v',e=.returned v'∧w'.ownsRow B 3 1 v' R.length (intsV R)∧Below B w w'∧Keep w v w' v'

theorem owns_snoc {w:World} {B:Nat} {v:Value} {O:List Int} {x:Int} (h:w.ownsRow B 3 1 v (O.length+1) (intsV O++[.int .i64 x])):w.ownsRow B 3 1 v (O++[x]).length (intsV (O++[x])):=by
 rw [List.length_append,List.length_singleton,intsV,List.map_append]
 exact h

theorem walk_unfit {K:List (List Int)} {n:Nat} {top:Int} {O:List Int} (h:top<0∨(K.length:Int)≤top∨K.length<O.length):∀ fuel,walkF K fuel top O=O++[-1]
 | 0=>rfl
 | n+1=>by rw [walkF];exact if_pos h

theorem l2walk_unfit (a:Option Addr) (n c:Nat) (B:Nat) (top:Int) (O:List Int) (v:Value) (w:World) (hn:n≤4000) (h:top<0∨(n:Int)≤top∨n<O.length) (hO:O.length≤100000) (hBw:B≤w.heap.size) (O1:w.ownsRow B 3 1 v O.length (intsV O)) :
  Calls Tryz.prog 68 #[.slice a n c,.int .i64 top,v] w fun e w'=>WalkAns B w v (O++[-1]) e w':=by
 obtain ⟨i,hi,hz0,hz1,hz2⟩:=info_parts infoI
 obtain ⟨xv,cv,rfl,_⟩:=owns_form2 O1
 rcases (show top<0∨(0≤top∧(n:Int)≤top)∨(0≤top∧top<n∧n<O.length) by omega) with h1 | ⟨h0,h2⟩ | ⟨h0,h2,h3⟩
 ·have i1:top<0:=h1
  go_enter Tryz.func68,Tryz.ntmps68
  go_wp2_with (at_builtin;refine wpList_append_lies _ rfl _ _ 24 rfl B 3 i (.int .i64 0) 1 8 Tryz.underlying24 hi hz0 hz1 hz2 rfl (by decide) _ _ _ rfl (World.ownsRow.alloc O1 _) ⟨w.heap.size,0,none⟩ 1 1 [.int .i64 (-1)] rfl rfl ?a1 ?a2 (by decide) ?a3 ?a4 ?a5 _ rfl ?_)
  first | (case a1=>exact one_cell _ _ _ _ (by simp)) | skip
  case a2=>first | (intro u hu;simp at hu;subst hu;rfl) | rfl
  case a3=>unfold maxLen;omega
  case a4=>omega
  case a5=>first | (simp;omega) | omega
  intro g cap w3 O3 hgrow hat hgl
  have KP:=keep_append (n:=O.length+1) (c:=cap) hgrow hat
  have B3:=((Below.refl B w).alloc hBw (.cells #[.int .i64 (-1)] 3)).grown hgrow (by simp;omega) (fun q hq=>(O1.lt q hq).1)
  have O4:=owns_snoc O3
  clear hgrow hat O3
  go_wp2_with fail
  go_ret
  exact ⟨_,rfl,O4,B3,KP⟩
 ·have i1:¬ top<0:=by omega
  have i2:(n:Int)≤top:=h2
  go_enter Tryz.func68,Tryz.ntmps68
  go_wp2_with (at_builtin;refine wpList_append_lies _ rfl _ _ 24 rfl B 3 i (.int .i64 0) 1 8 Tryz.underlying24 hi hz0 hz1 hz2 rfl (by decide) _ _ _ rfl (World.ownsRow.alloc O1 _) ⟨w.heap.size,0,none⟩ 1 1 [.int .i64 (-1)] rfl rfl ?b1 ?b2 (by decide) ?b3 ?b4 ?b5 _ rfl ?_)
  first | (case b1=>exact one_cell _ _ _ _ (by simp)) | skip
  case b2=>first | (intro u hu;simp at hu;subst hu;rfl) | rfl
  case b3=>unfold maxLen;omega
  case b4=>omega
  case b5=>first | (simp;omega) | omega
  intro g cap w3 O3 hgrow hat hgl
  have KP:=keep_append (n:=O.length+1) (c:=cap) hgrow hat
  have B3:=((Below.refl B w).alloc hBw (.cells #[.int .i64 (-1)] 3)).grown hgrow (by simp;omega) (fun q hq=>(O1.lt q hq).1)
  have O4:=owns_snoc O3
  clear hgrow hat O3
  go_wp2_with fail
  go_ret
  exact ⟨_,rfl,O4,B3,KP⟩
 ·have i1:¬ top<0:=by omega
  have i2:¬ ((n:Int)≤top):=by omega
  have i3:(n:Int)<(O.length:Int):=by omega
  go_enter Tryz.func68,Tryz.ntmps68
  go_wp2_with (at_builtin;refine wpList_append_lies _ rfl _ _ 24 rfl B 3 i (.int .i64 0) 1 8 Tryz.underlying24 hi hz0 hz1 hz2 rfl (by decide) _ _ _ rfl (World.ownsRow.alloc O1 _) ⟨w.heap.size,0,none⟩ 1 1 [.int .i64 (-1)] rfl rfl ?c1 ?c2 (by decide) ?c3 ?c4 ?c5 _ rfl ?_)
  first | (case c1=>exact one_cell _ _ _ _ (by simp)) | skip
  case c2=>first | (intro u hu;simp at hu;subst hu;rfl) | rfl
  case c3=>unfold maxLen;omega
  case c4=>omega
  case c5=>first | (simp;omega) | omega
  intro g cap w3 O3 hgrow hat hgl
  have KP:=keep_append (n:=O.length+1) (c:=cap) hgrow hat
  have B3:=((Below.refl B w).alloc hBw (.cells #[.int .i64 (-1)] 3)).grown hgrow (by simp;omega) (fun q hq=>(O1.lt q hq).1)
  have O4:=owns_snoc O3
  clear hgrow hat O3
  go_wp2_with fail
  go_ret
  exact ⟨_,rfl,O4,B3,KP⟩

theorem kidsF_drop {f:Int→List Int→List Int} {top:Int} {ks:List Int} {j:Nat} (hj:j<ks.length) (O:List Int):kidsF f top (ks.drop j) O=if top≤ks[j] then O++[-1] else kidsF f top (ks.drop (j+1)) (f ks[j] O):=by
 rw [List.drop_eq_getElem_cons hj,kidsF]

theorem l2walk_any (a:Option Addr) (n c:Nat) (N:List Nd) (w0:World) (B:Nat) (hN:Nds w0 a n c N) (hB:w0.heap.size≤B) (hn:n≤4000) (h3:∀ ks∈N.map Nd.kids,ks.length≤3) :
  ∀ (fuel:Nat) (top:Int) (O:List Int) (v:Value) (w:World),fuel≤4000→(N.length≤fuel∨top<fuel)→O.length≤100000→Below w0.heap.size w0 w→B≤w.heap.size→w.ownsRow B 3 1 v O.length (intsV O) →
  Calls Tryz.prog 68 #[.slice a n c,.int .i64 top,v] w fun e w'=>WalkAns B w v (walkF (N.map Nd.kids) fuel top O) e w':=by
 have HL:=hide hN.len
 have HK:=hide (show (N.map Nd.kids).length=n by rw [List.length_map,hN.len])
 have H3:=hide h3
 obtain ⟨i,hi,hz0,hz1,hz2⟩:=info_parts infoI
 intro fuel
 induction fuel with
 | zero =>
  intro top O v w _ hf hO hb hBw O1
  have hl:=uh HL
  rw [walk_unfit (K:=N.map Nd.kids) (n:=n) (by rw [List.length_map];omega) 0]
  exact l2walk_unfit a n c B top O v w hn (by omega) hO hBw O1
 | succ fuel ih =>
  intro top O v w hfl hf hO hb hBw O1
  by_cases hu:top<0∨(n:Int)≤top∨n<O.length
  ·rw [walk_unfit (K:=N.map Nd.kids) (n:=n) (by rw [uh HK];exact hu) (fuel+1)]
   exact l2walk_unfit a n c B top O v w hn hu hO hBw O1
  ·obtain ⟨t,rfl⟩:∃ t:Nat,top=(t:Int):=⟨top.toNat,by omega⟩
   have htn:t<n:=by omega
   have hOn:O.length≤n:=by omega
   have htl:t<N.length:=by rw [uh HL];exact htn
   have i1:¬ ((t:Int)<0):=by omega
   have i2:¬ ((n:Int)≤(t:Int)):=by omega
   have i2':(t:Int)<(n:Int):=by omega
   have i3:¬ ((n:Int)<(O.length:Int)):=by omega
   have hft:t≤fuel:=by have:=uh HL;omega
   have HW:=hide (show walkF (N.map Nd.kids) (fuel+1) (t:Int) O=kidsF (walkF (N.map Nd.kids) fuel) (t:Int) (N[t].kids) O by
    rw [walkF]
    dsimp only
    rw [if_neg (by rw [uh HK];exact hu),Int.toNat_natCast,List.getD_eq_getElem?_getD,List.getElem?_map,List.getElem?_eq_getElem htl]
    rfl)
   have hk3:N[t].kids.length≤3:=uh H3 _ (List.mem_map_of_mem (List.getElem_mem htl))
   rw [uh HW]
   clear HW hu
   obtain ⟨b,off,rfl,hbl,an,nn,cn,ak,nk,ck,c0,c1,c2,c3,c4,hNm,hKd⟩:=hN.cells t htl
   have c4:=(hb.cell (p:=⟨b,off+t*5+4,none⟩) hbl).trans c4
   have HWL:=hide (fun k O=>walkF_len (K:=N.map Nd.kids) (uh H3) fuel k O)
   rw [uh HK] at HWL
   generalize N[t]=x at c0 c1 c2 c3 c4 hNm hKd hk3 ⊢
   generalize walkF (N.map Nd.kids) fuel=F at ih HWL ⊢
   have HKL:=hide hKd.len
   have hnk:nk≤3:=by rw [← hKd.len];exact hk3
   obtain ⟨xv,cv,rfl,_⟩:=owns_form2 O1
   have HRR:=hide (show kidsF F (t:Int) (x.kids.drop 0) O=kidsF F (t:Int) x.kids O by rw [List.drop_zero])
   generalize kidsF F (t:Int) x.kids O=R at HRR ⊢
   clear c0 c1 c2 c3 hk3
   go_enter Tryz.func68,Tryz.ntmps68
   go_wp2_with fail
   go_loopw [2,33] (fun u i wr=>∃ (j:Nat) (O':List Int),j≤nk∧i=.int .i64 j∧Hid (kidsF F (t:Int) (x.kids.drop j) O'=R)∧O'.length≤n+3*fuel+j∧wr.ownsRow B 3 1 u O'.length (intsV O')∧Below B w wr∧Keep w (.slice xv O.length cv) wr u) (fun _ i _=>nk - (intOf i).toNat)
   case atStart=>exact ⟨0,O,by omega,rfl,HRR,by omega,O1,Below.refl _ _,Keep.refl _ _⟩
   case round =>
    obtain ⟨j,O',hj,rfl,HJ,hOl,P1,E1,KE⟩:=hrel
    obtain ⟨xu,cu,rfl,_⟩:=owns_form2 P1
    have E1s:=Nat.le_trans hBw E1.size
    have E0:=hb.trans (E1.mono hB)
    by_cases hjl:j<nk
    ·have ijl:(j:Int)<(nk:Int):=by omega
     have hjk:j<x.kids.length:=by rw [uh HKL];exact hjl
     obtain ⟨bk,ok,rfl,hbk,ck0⟩:=(hKd.below E0 nl).cells j hjk
     have HD:=hide (kidsF_drop (f:=F) (top:=(t:Int)) hjk O')
     rw [uh HJ] at HD
     have Hjl:=hide hjl
     generalize x.kids[j]=y at ck0 HD
     by_cases hy:(t:Int)≤y
     ·have HX:=hide (show R=O'++[-1] by rw [uh HD,if_pos hy])
      go_wp2_with (at_builtin;refine wpList_append_lies _ rfl _ _ 24 rfl B 3 i (.int .i64 0) 1 8 Tryz.underlying24 hi hz0 hz1 hz2 rfl (by decide) _ _ _ rfl (World.ownsRow.alloc P1 _) ⟨wr.heap.size,0,none⟩ 1 1 [.int .i64 (-1)] rfl rfl ?d1 ?d2 (by decide) ?d3 ?d4 ?d5 _ rfl ?_)
      first | (case d1=>exact one_cell _ _ _ _ (by simp)) | skip
      case d2=>first | (intro u hu;simp at hu;subst hu;rfl) | rfl
      case d3=>unfold maxLen;omega
      case d4=>omega
      case d5=>first | (simp;omega) | omega
      intro g cap w3 O3 hgrow hat hgl
      have KP:=keep_append (n:=O'.length+1) (c:=cap) hgrow hat
      have B3:=(E1.alloc E1s (.cells #[.int .i64 (-1)] 3)).grown hgrow (by simp;omega) (fun q hq=>(P1.lt q hq).1)
      have O4:=owns_snoc O3
      clear hgrow hat O3
      go_wp2_with fail
      go_ret
      exact ⟨_,rfl,by rw [uh HX];exact O4,B3,KE.trans KP⟩
     ·have HX:=hide (show kidsF F (t:Int) (x.kids.drop (j+1)) (F y O')=R by rw [uh HD,if_neg hy])
      have hwl:=uh HWL y O'
      clear HD
      go_wp2_with (go_at_call 68;refine (ih y O' _ wr (by omega) (by omega) (by omega) E0 E1s P1).mono ?_;rintro e w2 ⟨v2,rfl,O2,hb2,K2⟩)
      go_roundw
      case rel=>exact ⟨j+1,F y O',uh Hjl,by go_num,HX,by omega,O2,E1.trans hb2,KE.trans K2⟩
      case measure=>have:=uh Hjl;simp [intOf];omega
    ·have e:j=nk:=by omega
     subst e
     have HX:=hide (show R=O'++[(t:Int)] by
      rw [← uh HJ,List.drop_of_length_le (by rw [uh HKL];exact nl),kidsF])
     go_wp2_with (at_builtin;refine wpList_append_lies _ rfl _ _ 24 rfl B 3 i (.int .i64 0) 1 8 Tryz.underlying24 hi hz0 hz1 hz2 rfl (by decide) _ _ _ rfl (World.ownsRow.alloc P1 _) ⟨wr.heap.size,0,none⟩ 1 1 [.int .i64 (t:Int)] rfl rfl ?e1 ?e2 (by decide) ?e3 ?e4 ?e5 _ rfl ?_)
     first | (case e1=>exact one_cell _ _ _ _ (by simp)) | skip
     case e2=>first | (intro u hu;simp at hu;subst hu;rfl) | rfl
     case e3=>unfold maxLen;omega
     case e4=>omega
     case e5=>first | (simp;omega) | omega
     intro g cap w3 O3 hgrow hat hgl
     have KP:=keep_append (n:=O'.length+1) (c:=cap) hgrow hat
     have B3:=(E1.alloc E1s (.cells #[.int .i64 (t:Int)] 3)).grown hgrow (by simp;omega) (fun q hq=>(P1.lt q hq).1)
     have O4:=owns_snoc O3
     clear hgrow hat O3
     go_wp2_with fail
     go_ret
     exact ⟨_,rfl,by rw [uh HX];exact O4,B3,KE.trans KP⟩

end Go.Proofs.YtedlocniojlhfaaGreatDoor
