/-
  DVB, Calc3. Own work.
-/
import Derived.Test.YtedlocniojlhfaaGreatDoorMXAF
import Derived.Test.YtedlocniojlhfaaGreatDoorMXAA
namespace Go.Proofs.YtedlocniojlhfaaGreatDoor
set_option maxHeartbeats 1600000
open Go.RowKit Go.Extern.Stop Go.Stop Go.Extern
set_option linter.unusedVariables false

variable {aS aO aZ aW:Addr}

structure PlE (w:World) (pb:Nat) (at_:Int) (a:Addr):Prop where
 row:Row w pb #[.int .i64 at_,.iface 262 (.pointer (some a))] 204

theorem noIsP (v:Value) (xT:TypeId) (w:World):(Instr.typeAssert (.iface 202 v) xT 210 true).run Tryz.prog w=.ok (.tuple #[.nilIface,.bool false]) w:=run_typeAssert_lacksB Tryz.underlying210 (by kernel_rfl) (by kernel_rfl) v xT w
theorem hasUnwrapP (v:Value) (xT:TypeId) (w:World):(Instr.typeAssert (.iface 202 v) xT 213 true).run Tryz.prog w=.ok (.tuple #[.iface 202 v,.bool true]) w:=run_typeAssert_hasB Tryz.underlying213 (by kernel_rfl) v xT w
theorem methUnwrapP (pb:Nat) (w:World):(Go.method 406 202 (.pointer (some ⟨pb,0,none⟩)) "Unwrap").run Tryz.prog w=.ok (187,.pointer (some ⟨pb,0,none⟩)) w:=by kernel_rfl

theorem isP_same {pb:Nat} {at_:Int} {a:Addr} {w:World} (h:PlE w pb at_ a) :
  Calls Tryz.prog 62 #[.iface 202 (.pointer (some ⟨pb,0,none⟩)),.iface 262 (.pointer (some a))] w fun e w'=>e=.returned (.bool true)∧w'=w:=by
 obtain ⟨i,hi,hcmp⟩:=Option.map_eq_some_iff.1 isComp
 obtain ⟨j,hj,hjs⟩:=Option.map_eq_some_iff.1 isSize
 have h8:=@run_callFunc_extern Tryz.prog 92 _ Extern.ReflectliteType.typeOf Tryz.func92 (by kernel_rfl) (by kernel_rfl) (by kernel_rfl) (by kernel_rfl)
 have h32:=@run_callFunc_extern Tryz.prog 191 _ (Extern.ReflectliteType.method compF) Tryz.func191 (by kernel_rfl) (by kernel_rfl) (by kernel_rfl) (by kernel_rfl)
 have tT:=isTypeOf
 have cT:=isComparable
 have mR:=isMethodComparable
 have nP:=noIsP
 have uP:=hasUnwrapP
 have mP:=methUnwrapP
 have hne:=run_eql_iface_types (P:=Tryz.prog) 202 262 (.pointer (some ⟨pb,0,none⟩)) (.pointer (some a)) Tryz.underlying64 (by decide)
 have heq:=run_eql_iface_ptr_same (P:=Tryz.prog) w a Tryz.underlying64 Tryz.underlying262 hi hcmp hj
 have c1:w.cell? ⟨pb,1,none⟩=some (.iface 262 (.pointer (some a))):=h.row.cell 1
 go_enter Tryz.func62,Tryz.ntmps62
 go_wp2
 refine wp_loop_rounds 2 ?_
 rw [rounds_succ]
 go_wp2
 rw [rounds_succ]
 go_wp2
 go_ret
 exact ⟨rfl,rfl⟩

theorem isP_other {pb:Nat} {at_:Int} {a b:Addr} {w:World} (h:PlE w pb at_ a) (hne0:a≠b) (ha0:∃ c t,w.heap[a.block]?=some (.cells c t (0,0))) (hb0:∃ c t,w.heap[b.block]?=some (.cells c t (0,0))) :
  Calls Tryz.prog 62 #[.iface 202 (.pointer (some ⟨pb,0,none⟩)),.iface 262 (.pointer (some b))] w fun e w'=>e=.returned (.bool false)∧w'=w:=by
 obtain ⟨i,hi,hcmp⟩:=Option.map_eq_some_iff.1 isComp
 obtain ⟨j,hj,hjs⟩:=Option.map_eq_some_iff.1 isSize
 obtain ⟨ca,ta,ha⟩:=ha0
 obtain ⟨cb,tb,hb⟩:=hb0
 have h8:=@run_callFunc_extern Tryz.prog 92 _ Extern.ReflectliteType.typeOf Tryz.func92 (by kernel_rfl) (by kernel_rfl) (by kernel_rfl) (by kernel_rfl)
 have h32:=@run_callFunc_extern Tryz.prog 191 _ (Extern.ReflectliteType.method compF) Tryz.func191 (by kernel_rfl) (by kernel_rfl) (by kernel_rfl) (by kernel_rfl)
 have tT:=isTypeOf
 have cT:=isComparable
 have mR:=isMethodComparable
 have nP:=noIsP
 have uP:=hasUnwrapP
 have mP:=methUnwrapP
 have nE:=noIsE
 have uE:=noUnwrapE
 have vE:=noUnwrapsE
 have hne:=run_eql_iface_types (P:=Tryz.prog) 202 262 (.pointer (some ⟨pb,0,none⟩)) (.pointer (some b)) Tryz.underlying64 (by decide)
 have heq:=run_eql_iface_ptr_other (P:=Tryz.prog) w Tryz.underlying64 Tryz.underlying262 hi hcmp hj (by rw [hjs];decide) hne0 ha hb
 have c1:w.cell? ⟨pb,1,none⟩=some (.iface 262 (.pointer (some a))):=h.row.cell 1
 go_enter Tryz.func62,Tryz.ntmps62
 go_wp2
 refine wp_loop_rounds 2 ?_
 rw [rounds_succ]
 go_wp2
 rw [rounds_succ]
 go_wp2
 go_ret
 exact ⟨rfl,rfl⟩

theorem evalP_1 (pb:Nat) (at_:Int) (w:World) (hs:Sent w aS aO aZ aW) (hp:PlE w pb at_ aO) :
  Calls Tryz.prog 33 #[.iface 202 (.pointer (some ⟨pb,0,none⟩))] w fun e w'=>e=.returned (.int .i64 1)∧w'=w:=by
 have hg:=hs.g1
 go_enter Tryz.func33,Tryz.ntmps33
 go_wp2_with fail
 refine (isP_same hp).mono ?_
 rintro e w' ⟨rfl,rfl⟩
 go_wp2_with fail
 go_ret
 exact ⟨rfl,rfl⟩

theorem evalP_2 (pb:Nat) (at_:Int) (w:World) (hs:Sent w aS aO aZ aW) (hp:PlE w pb at_ aZ) :
  Calls Tryz.prog 33 #[.iface 202 (.pointer (some ⟨pb,0,none⟩))] w fun e w'=>e=.returned (.int .i64 2)∧w'=w:=by
 have hg:=hs.g1
 have hg2:=hs.g2
 go_enter Tryz.func33,Tryz.ntmps33
 go_wp2_with fail
 refine (isP_other hp (fun e=>hs.nOZ e.symm) hs.rZ hs.rO).mono ?_
 rintro e w' ⟨rfl,rfl⟩
 go_wp2_with fail
 refine (isP_same hp).mono ?_
 rintro e w' ⟨rfl,rfl⟩
 go_wp2_with fail
 go_ret
 exact ⟨rfl,rfl⟩

theorem evalP_3 (pb:Nat) (at_:Int) (w:World) (hs:Sent w aS aO aZ aW) (hp:PlE w pb at_ aW) :
  Calls Tryz.prog 33 #[.iface 202 (.pointer (some ⟨pb,0,none⟩))] w fun e w'=>e=.returned (.int .i64 3)∧w'=w:=by
 have hg:=hs.g1
 have hg2:=hs.g2
 have hg3:=hs.g3
 go_enter Tryz.func33,Tryz.ntmps33
 go_wp2_with fail
 refine (isP_other hp (fun e=>hs.nOW e.symm) hs.rW hs.rO).mono ?_
 rintro e w' ⟨rfl,rfl⟩
 go_wp2_with fail
 refine (isP_other hp (fun e=>hs.nZW e.symm) hs.rW hs.rZ).mono ?_
 rintro e w' ⟨rfl,rfl⟩
 go_wp2_with fail
 refine (isP_same hp).mono ?_
 rintro e w' ⟨rfl,rfl⟩
 go_wp2_with fail
 go_ret
 exact ⟨rfl,rfl⟩

theorem evalP_4 (pb:Nat) (at_:Int) (w:World) (hs:Sent w aS aO aZ aW) (hp:PlE w pb at_ aS) :
  Calls Tryz.prog 33 #[.iface 202 (.pointer (some ⟨pb,0,none⟩))] w fun e w'=>e=.returned (.int .i64 4)∧w'=w:=by
 have hg:=hs.g1
 have hg2:=hs.g2
 have hg3:=hs.g3
 go_enter Tryz.func33,Tryz.ntmps33
 go_wp2_with fail
 refine (isP_other hp hs.nSO hs.rS hs.rO).mono ?_
 rintro e w' ⟨rfl,rfl⟩
 go_wp2_with fail
 refine (isP_other hp hs.nSZ hs.rS hs.rZ).mono ?_
 rintro e w' ⟨rfl,rfl⟩
 go_wp2_with fail
 refine (isP_other hp hs.nSW hs.rS hs.rW).mono ?_
 rintro e w' ⟨rfl,rfl⟩
 go_wp2_with fail
 go_ret
 exact ⟨rfl,rfl⟩

def ErrIs (aS aO aZ aW:Addr) (w:World) (v:Value) (c:Int):Prop:=(1≤c∧c≤4)∧∃ pb at_ a,v=.iface 202 (.pointer (some ⟨pb,0,none⟩))∧PlE w pb at_ a∧errV aS aO aZ aW c=.iface 262 (.pointer (some a))

theorem ErrIs.below {w w':World} {B:Nat} {v:Value} {c:Int} (h:ErrIs aS aO aZ aW w v c) (hb:Below B w w') (hB:w.heap.size≤B):ErrIs aS aO aZ aW w' v c:=by
 obtain ⟨h1,pb,at_,a,h2,h3,h4⟩:=h
 exact ⟨h1,pb,at_,a,h2,⟨h3.row.after hb hB⟩,h4⟩

theorem evalP_any {v:Value} {c:Int} {w:World} (hs:Sent w aS aO aZ aW) (h:ErrIs aS aO aZ aW w v c):Calls Tryz.prog 33 #[v] w fun e w'=>e=.returned (.int .i64 c)∧w'=w:=by
 obtain ⟨h1,pb,at_,a,rfl,h3,h4⟩:=h
 rcases (show c=1∨c=2∨c=3∨c=4 by omega) with rfl | rfl | rfl | rfl
 ·obtain rfl:aO=a:=by simpa [errV] using h4
  exact evalP_1 pb at_ w hs h3
 ·obtain rfl:aZ=a:=by simpa [errV] using h4
  exact evalP_2 pb at_ w hs h3
 ·obtain rfl:aW=a:=by simpa [errV] using h4
  exact evalP_3 pb at_ w hs h3
 ·obtain rfl:aS=a:=by simpa [errV] using h4
  exact evalP_4 pb at_ w hs h3

theorem faultAtP (i:Int) (a:Addr) (w:World):Calls Tryz.prog 90 #[.int .i64 i,.iface 262 (.pointer (some a))] w fun r w'=>(∃ pb,r=.returned (.iface 202 (.pointer (some ⟨pb,0,none⟩)))∧PlE w' pb i a)∧Below w.heap.size w w':=by
 have R0:=Row.new w #[.int .i64 i,.iface 262 (.pointer (some a))] 204
 have B0:=(Below.refl w.heap.size w).alloc nl (.cells #[.int .i64 i,.iface 262 (.pointer (some a))] 204)
 go_enter Tryz.func90,Tryz.ntmps90
 go_wp2_with fail
 go_ret
 exact ⟨⟨_,rfl,⟨R0⟩⟩,B0⟩

end Go.Proofs.YtedlocniojlhfaaGreatDoor

namespace Go.Proofs.YtedlocniojlhfaaGreatDoor
set_option maxHeartbeats 1600000
open Go.RowKit

theorem l1bigOf_neg (a:Int) (w:World) (ha:I64 a) (h0:a<0) :
  Calls Tryz.prog 120 #[.int .i64 a] w fun e w'=>e=.returned (.agg #[.bool true,.int .u64 0,.int .u64 (-a)])∧Below w.heap.size w w':=by
 obtain ⟨ha1,ha2⟩:=ha
 go_enter Tryz.func120,Tryz.ntmps120
 go_wp2
 rw [show -(a+1)+1=-a from by omega]
 exact bodyPost_ret (v:=.agg #[.bool true,.int .u64 0,.int .u64 (-a)]) (by simp [results,Tryz.results120,go_sem]) rfl ⟨rfl,(Below.refl _ _).alloc nl _⟩

theorem l1bigOf_pos (a:Int) (w:World) (ha:I64 a) (h0:0≤a) :
  Calls Tryz.prog 120 #[.int .i64 a] w fun e w'=>e=.returned (.agg #[.bool false,.int .u64 0,.int .u64 a])∧Below w.heap.size w w':=by
 obtain ⟨ha1,ha2⟩:=ha
 have h0':¬ a<0:=by omega
 go_enter Tryz.func120,Tryz.ntmps120
 go_wp2
 exact bodyPost_ret (v:=.agg #[.bool false,.int .u64 0,.int .u64 a]) (by simp [results,Tryz.results120,go_sem]) rfl ⟨rfl,(Below.refl _ _).alloc nl _⟩

theorem l1bigOf_any (a:Int) (w:World) (ha:I64 a) :
  Calls Tryz.prog 120 #[.int .i64 a] w fun e w'=>e=.returned (.agg #[.bool (decide (a<0)),.int .u64 0,.int .u64 (a.natAbs:Int)])∧Below w.heap.size w w':=by
 by_cases h0:a<0
 ·rw [show decide (a<0)=true from by simp [h0],show (a.natAbs:Int)=-a from by omega]
  exact l1bigOf_neg a w ha h0
 ·rw [show decide (a<0)=false from by simpa using h0,show (a.natAbs:Int)=a from by omega]
  exact l1bigOf_pos a w ha (by omega)

theorem u64_eq {x y:Int} (h:x=y):Value.int IntKind.u64 x=.int .u64 y:=by rw [h]

theorem l1times_any (a b:Int) (w:World) (ha:0≤a∧a≤9223372036854775808) (hb:0≤b∧b≤9223372036854775808) :
  Calls Tryz.prog 123 #[.int .u64 a,.int .u64 b] w fun e w'=>(∃ hi lo:Int,e=.returned (.tuple #[.int .u64 hi,.int .u64 lo])∧0≤hi∧hi<18446744073709551616∧0≤lo∧lo<18446744073709551616∧hi*18446744073709551616+lo=a*b)∧w'=w:=by
 go_enter Tryz.func123,Tryz.ntmps123
 go_wp2
 go_loop [6,7,8,9] (fun h l i _=>∃ (hi lo:Int) (k:Nat),h=.int .u64 hi∧l=.int .u64 lo∧i=.int .i64 ((k:Int) - 1)∧k≤64∧0≤hi∧hi<18446744073709551616∧0≤lo∧lo<18446744073709551616∧hi*18446744073709551616+lo=(a / 2 ^ k)*b) (fun _ _ i _=>(intOf i+1).toNat)
 case atStart=>exact ⟨0,0,64,rfl,rfl,rfl,by omega,by omega,by omega,by omega,by omega,by rw [show a / 2 ^ 64=0 from Int.ediv_eq_zero_of_lt ha.1 (by omega)];omega⟩
 case round =>
  obtain ⟨hi,lo,k,rfl,rfl,rfl,hk,h1,h2,h3,h4,hv⟩:=hrel
  by_cases hk0:k=0
  ·subst hk0
   have Hv:=hide hv
   clear hv
   go_wp2
   go_ret2
   exact ⟨⟨hi,lo,rfl,h1,h2,h3,h4,by rw [uh Hv];simp⟩,rfl⟩
  ·have hkp:(0:Int)≤(k:Int) - 1:=by omega
   have Hv:=hide hv
   clear hv
   go_wp2
   ·obtain ⟨hi',lo',e1,e2,q⟩:=times_one (by omega) ha hb h1 h2 h3 h4 (uh Hv) (by assumption) (by assumption)
    exact ⟨⟨hi',lo',k - 1,u64_eq e1.symm,u64_eq e2.symm,by rw [show (((k - 1:Nat):Int))=(k:Int) - 1 from by omega],by omega,q⟩,by simp [intOf];omega⟩
   ·obtain ⟨hi',lo',e1,e2,q⟩:=times_two (by omega) ha hb h1 h2 h3 h4 (uh Hv) (by assumption) (by assumption)
    exact ⟨⟨hi',lo',k - 1,u64_eq e1.symm,u64_eq e2.symm,by rw [show (((k - 1:Nat):Int))=(k:Int) - 1 from by omega],by omega,q⟩,by simp [intOf];omega⟩
   ·obtain ⟨hi',lo',e1,e2,q⟩:=times_three (by omega) ha hb h1 h2 h3 h4 (uh Hv) (by assumption)
    exact ⟨⟨hi',lo',k - 1,u64_eq e1.symm,u64_eq e2.symm,by rw [show (((k - 1:Nat):Int))=(k:Int) - 1 from by omega],by omega,q⟩,by simp [intOf];omega⟩

def bigI (n:Bool) (hi lo:Int):Int:=if n then -(hi*18446744073709551616+lo) else hi*18446744073709551616+lo

theorem ret_pair {v x c:Int} (h:fit v=(x,c)):Ending.returned (.tuple #[.int .i64 x,.int .i64 c])=.returned (.tuple #[.int .i64 (fit v).1,.int .i64 (fit v).2]):=by rw [h]

theorem l1small_any (n:Bool) (hi lo:Int) (w:World) (h1:0≤hi) (h2:hi<18446744073709551616) (h3:0≤lo) (h4:lo<18446744073709551616) :
  Calls Tryz.prog 121 #[.agg #[.bool n,.int .u64 hi,.int .u64 lo]] w fun e w'=>e=.returned (.tuple #[.int .i64 (fit (bigI n hi lo)).1,.int .i64 (fit (bigI n hi lo)).2])∧Below w.heap.size w w':=by
 have B:=(Below.refl w.heap.size w).alloc nl (.cells #[.bool n,.int .u64 hi,.int .u64 lo] 222)
 by_cases e0:hi=0
 ·subst e0
  by_cases e1:9223372036854775808<lo
  ·have Hf:=hide (show fit (bigI n 0 lo)=(0,1) from fit_no (by cases n <;> simp [bigI] <;> omega))
   go_enter Tryz.func121,Tryz.ntmps121
   go_wp2
   go_ret2
   exact ⟨ret_pair (uh Hf),B⟩
  ·by_cases e2:lo=9223372036854775808
   ·subst e2
    cases n
    ·have Hf:=hide (show fit (bigI false 0 9223372036854775808)=(0,1) from fit_no (by simp [bigI]))
     go_enter Tryz.func121,Tryz.ntmps121
     go_wp2
     go_ret2
     exact ⟨ret_pair (uh Hf),B⟩
    ·have Hf:=hide (show fit (bigI true 0 9223372036854775808)=(-9223372036854775808,0) from fit_yes (by simp [bigI]) (by simp [bigI]))
     go_enter Tryz.func121,Tryz.ntmps121
     go_wp2
     go_ret2
     exact ⟨ret_pair (uh Hf),B⟩
   ·have e1':lo≤9223372036854775807:=by omega
    have e1'':lo≤9223372036854775808:=by omega
    have e2':(lo == 9223372036854775808)=false:=beq_eq_false_iff_ne.2 e2
    clear e1 e2
    cases n
    ·have Hf:=hide (show fit (bigI false 0 lo)=(lo,0) by rw [show bigI false 0 lo=lo by simp [bigI]];exact fit_yes (by omega) (by omega))
     go_enter Tryz.func121,Tryz.ntmps121
     go_wp2
     go_ret2
     exact ⟨ret_pair (uh Hf),B⟩
    ·have Hf:=hide (show fit (bigI true 0 lo)=(-lo,0) by rw [show bigI true 0 lo=-lo by simp [bigI]];exact fit_yes (by omega) (by omega))
     go_enter Tryz.func121,Tryz.ntmps121
     go_wp2
     go_ret2
     exact ⟨ret_pair (uh Hf),B⟩
 ·have e0':(hi != 0)=true:=by simpa using e0
  have Hf:=hide (show fit (bigI n hi lo)=(0,1) from fit_no (by cases n <;> simp [bigI] <;> omega))
  go_enter Tryz.func121,Tryz.ntmps121
  go_wp2
  go_ret2
  exact ⟨ret_pair (uh Hf),B⟩

def IsBig (v:Value) (s:Int):Prop:=∃ (q:Bool) (hi lo:Int),v=.agg #[.bool q,.int .u64 hi,.int .u64 lo]∧0≤hi∧hi<18446744073709551616∧0≤lo∧lo<18446744073709551616∧bigI q hi lo=s

theorem l1sum_any (n:Bool) (x:Int) (m:Bool) (y:Int) (w:World) (h1:0≤x) (h2:x≤9223372036854775808) (h3:0≤y) (h4:y≤9223372036854775808) :
  Calls Tryz.prog 122 #[.agg #[.bool n,.int .u64 0,.int .u64 x],.agg #[.bool m,.int .u64 0,.int .u64 y]] w fun e w' =>
   ∃ v,e=.returned v∧IsBig v (bigI n 0 x+bigI m 0 y)∧Below w.heap.size w w':=by
 cases hnm:(n == m)
 ·have hm:m=!n:=by cases n <;> cases m <;> simp at hnm ⊢
  subst hm
  by_cases hge:y≤x
  ·go_enter Tryz.func122,Tryz.ntmps122
   go_wp2
   refine bodyPost_ret (v:=.agg #[.bool n,.int .u64 0,.int .u64 (x - y)]) (by simp [results,Tryz.results122,go_sem]) rfl ⟨_,rfl,⟨n,0,x - y,rfl,by omega,by omega,by omega,by omega,by cases n <;> simp [bigI] <;> omega⟩,?_⟩
   exact (((Below.refl _ _).alloc nl _).alloc (by simp) _).alloc (by simp;omega) _
  ·have hlt:x<y:=by omega
   go_enter Tryz.func122,Tryz.ntmps122
   go_wp2
   refine bodyPost_ret (v:=.agg #[.bool !n,.int .u64 0,.int .u64 (y - x)]) (by simp [results,Tryz.results122,go_sem]) rfl ⟨_,rfl,⟨!n,0,y - x,rfl,by omega,by omega,by omega,by omega,by cases n <;> simp [bigI] <;> omega⟩,?_⟩
   exact (((Below.refl _ _).alloc nl _).alloc (by simp) _).alloc (by simp;omega) _
 ·have hm:m=n:=by cases n <;> cases m <;> simp at hnm ⊢
  subst hm
  by_cases hc:x=9223372036854775808∧y=9223372036854775808
  ·have hw:IntKind.u64.wrap (x+y)=0:=by rw [wrapU];omega
   have hx0:0<x:=by omega
   have Hc:=hide hc
   clear hc
   go_enter Tryz.func122,Tryz.ntmps122
   go_wp2
   refine bodyPost_ret (v:=.agg #[.bool m,.int .u64 1,.int .u64 0]) (by simp [results,Tryz.results122,go_sem]) rfl ⟨_,rfl,⟨m,1,0,rfl,by omega,by omega,by omega,by omega,by have hc:=uh Hc;cases m <;> simp [bigI] <;> omega⟩,?_⟩
   exact (((Below.refl _ _).alloc nl _).alloc (by simp) _).alloc (by simp;omega) _
  ·have hs:x+y≤18446744073709551615:=by omega
   have hs2:¬ (x+y<x):=by omega
   clear hc
   go_enter Tryz.func122,Tryz.ntmps122
   go_wp2
   refine bodyPost_ret (v:=.agg #[.bool m,.int .u64 0,.int .u64 (x+y)]) (by simp [results,Tryz.results122,go_sem]) rfl ⟨_,rfl,⟨m,0,x+y,rfl,by omega,by omega,by omega,by omega,by cases m <;> simp [bigI] <;> omega⟩,?_⟩
   exact (((Below.refl _ _).alloc nl _).alloc (by simp) _).alloc (by simp;omega) _

end Go.Proofs.YtedlocniojlhfaaGreatDoor
