/-
  Calc6, JC. Own work.
-/
import Derived.Test.YtedlocniojlhfaaGreatDoorMXAH
import Derived.Test.YtedlocniojlhfaaGreatDoorMXAI
namespace Go.Proofs.YtedlocniojlhfaaGreatDoor
set_option maxHeartbeats 1600000
open Go.RowKit
variable {a b:Int} {w:World}

theorem sCalc_4 (ha:I64 a) (hb:I64 b) (h0:b≠0) :
  Calls Tryz.prog 100 #[.int .i64 4,.int .i64 a,.int .i64 b] w fun e w'=>e=.returned (.tuple #[.int .i64 (calcF 4 a b).1,.int .i64 (calcF 4 a b).2])∧Below w.heap.size w w':=by
 have hx:(a.natAbs:Int)≤9223372036854775808:=by have:=ha.lo;have:=ha.hi;omega
 have hy:(b.natAbs:Int)≤9223372036854775808:=by have:=hb.lo;have:=hb.hi;omega
 have e0:(b == 0)=false:=beq_eq_false_iff_ne.2 h0
 have hb0:(0:Int)<(b.natAbs:Int):=by omega
 have Hd:=hide (div_sign a b)
 have h3:0≤(a.natAbs:Int) / (b.natAbs:Int):=Int.ediv_nonneg (by omega) (by omega)
 have h4:(a.natAbs:Int) / (b.natAbs:Int)<18446744073709551616:=by have:=Int.ediv_le_self (b.natAbs:Int) (show 0≤(a.natAbs:Int) by omega);omega
 have Hw:=hide (wrapU_id h3 h4)
 go_enter Tryz.func100,Tryz.ntmps100
 go_wp2_with fail
 refine (l1bigOf_any a w ha).mono ?_
 rintro e w1 ⟨rfl,hb1⟩
 have B1:=hb1.alloc hb1.size (.cells #[.bool (decide (a<0)),.int .u64 0,.int .u64 (a.natAbs:Int)] 222)
 have R1:=Row.new w1 #[.bool (decide (a<0)),.int .u64 0,.int .u64 (a.natAbs:Int)] 222
 go_wp2_with fail
 refine (l1bigOf_any b _ hb).mono ?_
 rintro e w2 ⟨rfl,hb2⟩
 have B2:=(B1.trans (hb2.mono B1.size)).alloc (Nat.le_trans B1.size hb2.size) (.cells #[.bool (decide (b<0)),.int .u64 0,.int .u64 (b.natAbs:Int)] 222)
 have R1':=(R1.after hb2 nl).alloc (.cells #[.bool (decide (b<0)),.int .u64 0,.int .u64 (b.natAbs:Int)] 222)
 have R2:=Row.new w2 #[.bool (decide (b<0)),.int .u64 0,.int .u64 (b.natAbs:Int)] 222
 have z2:=hb2.size
 simp only [World.size_alloc] at z2
 have hlt:w1.heap.size<w2.heap.size:=by omega
 clear R1 B1 hb1 hb2 z2
 have c0:=R1'.cell 0
 have c1:=R1'.cell 1
 have c2:=R1'.cell 2
 simp at c0 c1 c2
 generalize hW:w2.alloc (.cells #[.bool (decide (b<0)),.int .u64 0,.int .u64 (b.natAbs:Int)] 222)=W at *
 have d0:=R2.cell 0
 have d1:=R2.cell 1
 have d2:=R2.cell 2
 simp at d0 d1 d2
 go_wp2_with fail
 have hz:¬ (b.natAbs:Int)=0:=by omega
 go_region_held3 (fun w'=>w'.cell? ⟨w1.heap.size,0,none⟩=some (.bool (decide (a<0)))∧w'.cell? ⟨w1.heap.size,2,none⟩=some (.int .u64 (a.natAbs:Int))∧w'.cell? ⟨w2.heap.size,0,none⟩=some (.bool (decide (b<0)))∧w'.cell? ⟨w2.heap.size,2,none⟩=some (.int .u64 (b.natAbs:Int))) (go_keep)
  ((go_at_call 121;rw [uh Hw];refine (l1small_any _ _ _ _ ?_ ?_ ?_ ?_).mono ?_;omega;omega;exact h3;exact h4;rintro e w4 ⟨rfl,hb4⟩;have q0:=(Row.after (w:=W.drew) ⟨R1'.out⟩ hb4 nl).cell 0;have q2:=(Row.after (w:=W.drew) ⟨R1'.out⟩ hb4 nl).cell 2;have p0:=(Row.after (w:=W.drew) ⟨R2.out⟩ hb4 nl).cell 0;have p2:=(Row.after (w:=W.drew) ⟨R2.out⟩ hb4 nl).cell 2;simp at q0 q2 p0 p2))
 all_goals
  rw [uh Hd]
  generalize hf:fit (a.tdiv b)=f
  have Hf:=hide (show calcF 4 a b=f by rw [← hf,calcF];simp [divF,h0])
  clear hf d0 d1 d2 c0 c1 c2
  go_wp2
  go_ret2
  exact ⟨ret_pairs (uh Hf).symm,B2.drew.trans (hb4.mono B2.size)⟩

theorem sCalc_5 (ha:I64 a) (hb:I64 b) (h0:b≠0) :
  Calls Tryz.prog 100 #[.int .i64 5,.int .i64 a,.int .i64 b] w fun e w'=>e=.returned (.tuple #[.int .i64 (calcF 5 a b).1,.int .i64 (calcF 5 a b).2])∧Below w.heap.size w w':=by
 have hx:(a.natAbs:Int)≤9223372036854775808:=by have:=ha.lo;have:=ha.hi;omega
 have hy:(b.natAbs:Int)≤9223372036854775808:=by have:=hb.lo;have:=hb.hi;omega
 have e0:(b == 0)=false:=beq_eq_false_iff_ne.2 h0
 have hb0:(0:Int)<(b.natAbs:Int):=by omega
 have Hd:=hide (mod_sign a b)
 have h3:0≤(a.natAbs:Int) % (b.natAbs:Int):=Int.emod_nonneg _ (by omega)
 have h4:(a.natAbs:Int) % (b.natAbs:Int)<18446744073709551616:=by have:=Int.emod_lt_of_pos (a.natAbs:Int) hb0;omega
 have Hw:=hide (Int.tmod_eq_emod_of_nonneg (b:=(b.natAbs:Int)) (show 0≤(a.natAbs:Int) by omega))
 go_enter Tryz.func100,Tryz.ntmps100
 go_wp2_with fail
 refine (l1bigOf_any a w ha).mono ?_
 rintro e w1 ⟨rfl,hb1⟩
 have B1:=hb1.alloc hb1.size (.cells #[.bool (decide (a<0)),.int .u64 0,.int .u64 (a.natAbs:Int)] 222)
 have R1:=Row.new w1 #[.bool (decide (a<0)),.int .u64 0,.int .u64 (a.natAbs:Int)] 222
 go_wp2_with fail
 refine (l1bigOf_any b _ hb).mono ?_
 rintro e w2 ⟨rfl,hb2⟩
 have B2:=(B1.trans (hb2.mono B1.size)).alloc (Nat.le_trans B1.size hb2.size) (.cells #[.bool (decide (b<0)),.int .u64 0,.int .u64 (b.natAbs:Int)] 222)
 have R1':=(R1.after hb2 nl).alloc (.cells #[.bool (decide (b<0)),.int .u64 0,.int .u64 (b.natAbs:Int)] 222)
 have R2:=Row.new w2 #[.bool (decide (b<0)),.int .u64 0,.int .u64 (b.natAbs:Int)] 222
 have z2:=hb2.size
 simp only [World.size_alloc] at z2
 have hlt:w1.heap.size<w2.heap.size:=by omega
 clear R1 B1 hb1 hb2 z2
 have c0:=R1'.cell 0
 have c1:=R1'.cell 1
 have c2:=R1'.cell 2
 simp at c0 c1 c2
 generalize hW:w2.alloc (.cells #[.bool (decide (b<0)),.int .u64 0,.int .u64 (b.natAbs:Int)] 222)=W at *
 have d0:=R2.cell 0
 have d1:=R2.cell 1
 have d2:=R2.cell 2
 simp at d0 d1 d2
 go_wp2_with fail
 have hz:¬ (b.natAbs:Int)=0:=by omega
 go_region_held3 (fun w'=>w'.cell? ⟨w1.heap.size,0,none⟩=some (.bool (decide (a<0)))∧w'.cell? ⟨w1.heap.size,2,none⟩=some (.int .u64 (a.natAbs:Int))∧w'.cell? ⟨w2.heap.size,0,none⟩=some (.bool (decide (b<0)))∧w'.cell? ⟨w2.heap.size,2,none⟩=some (.int .u64 (b.natAbs:Int))) (go_keep)
  ((go_at_call 121;rw [uh Hw];refine (l1small_any _ _ _ _ ?_ ?_ ?_ ?_).mono ?_;omega;omega;exact h3;exact h4;rintro e w4 ⟨rfl,hb4⟩;have q0:=(Row.after (w:=W.drew) ⟨R1'.out⟩ hb4 nl).cell 0;have q2:=(Row.after (w:=W.drew) ⟨R1'.out⟩ hb4 nl).cell 2;have p0:=(Row.after (w:=W.drew) ⟨R2.out⟩ hb4 nl).cell 0;have p2:=(Row.after (w:=W.drew) ⟨R2.out⟩ hb4 nl).cell 2;simp at q0 q2 p0 p2))
 all_goals
  rw [uh Hd]
  generalize hf:fit (a.tmod b)=f
  have Hf:=hide (show calcF 5 a b=f by rw [← hf,calcF];simp [modF,h0])
  clear hf d0 d1 d2 c0 c1 c2
  go_wp2
  go_ret2
  exact ⟨ret_pairs (uh Hf).symm,B2.drew.trans (hb4.mono B2.size)⟩

theorem sCalc_any (op:Int) (ha:I64 a) (hb:I64 b) :
  Calls Tryz.prog 100 #[.int .i64 op,.int .i64 a,.int .i64 b] w fun e w'=>e=.returned (.tuple #[.int .i64 (calcF op a b).1,.int .i64 (calcF op a b).2])∧Below w.heap.size w w':=by
 by_cases h1:op=1
 ·subst h1;exact sCalc_1 ha hb
 by_cases h2:op=2
 ·subst h2;exact sCalc_2 ha hb
 by_cases h3:op=3
 ·subst h3;exact sCalc_3 ha hb
 by_cases h4:op=4
 ·subst h4
  by_cases h0:b=0
  ·exact sCalc_40 ha hb h0
  ·exact sCalc_4 ha hb h0
 by_cases h5:op=5
 ·subst h5
  by_cases h0:b=0
  ·exact sCalc_50 ha hb h0
  ·exact sCalc_5 ha hb h0
 exact sCalc_0 ha hb op h1 h2 h3 h4 h5

end Go.Proofs.YtedlocniojlhfaaGreatDoor

namespace Go.Proofs.YtedlocniojlhfaaGreatDoor
set_option maxRecDepth 100000
set_option maxHeartbeats 3200000
open Go.RowKit
set_option linter.unusedVariables false

theorem typedFields_any (x:Nd) (an:Option Addr) (nn cn:Nat) (ak:Option Addr) (nk ck:Nat) (w:World) (hN:Strs w an nn cn x.names) (hs:x.text.size≤1048576) :
  Calls Tryz.prog 53 #[ndV x.op x.num x.text an nn cn ak nk ck] w fun e w'=>e=.returned (.bool (tfB x))∧Below w.heap.size w w':=by
 have hn:=hN.len
 have HW:=hide (fun W hW=>writtenFields_any x an nn cn ak nk ck W (hN.below hW nl) hs)
 have HF:=hide (show tfB x=(if x.op=5 then false else if x.op=6 then decide (0≤x.num∧x.num<6) && decide (x.text.size=0) && decide (x.names.length=0) else if x.op=7∨x.op=1 then decide (x.text.size=0) && decide (x.names.length=0) else wfB x) from rfl)
 rw [← hn] at HF
 generalize tfB x=FB at HF ⊢
 generalize wfB x=WB at HF HW
 obtain ⟨op,num,text,names,kids⟩:=x
 unfold ndV at HW ⊢
 simp only at HF HW hs ⊢
 have R0:=Row.new w #[.int .i64 op,.int .i64 num,.string text,.slice an nn cn,.slice ak nk ck] 98
 have B0:=(Below.refl w.heap.size w).alloc nl (.cells #[.int .i64 op,.int .i64 num,.string text,.slice an nn cn,.slice ak nk ck] 98)
 obtain ⟨c0,c1,c2,c3,c4,cf⟩:=row5 R0
 have ti:text.toList.isEmpty=decide (text.size=0):=by rw [Bool.eq_iff_iff,List.isEmpty_iff,decide_eq_true_iff];exact tl_nil text
 have Ti:=hide ti
 have Tl:=hide (tl_nil text)
 clear hN hn ti
 by_cases o5:op=5
 ·subst o5
  have HF:=hide ((uh HF).trans (by rw [if_pos rfl]))
  clear HW
  go_enter Tryz.func53,Tryz.ntmps53
  go_wp2
  all_goals
   go_ret
   exact ⟨ret_bool (uh HF).symm,B0⟩
 by_cases o6:op=6
 ·subst o6
  have HF:=hide ((uh HF).trans (by rw [if_neg (by omega),if_pos rfl]))
  clear HW
  go_enter Tryz.func53,Tryz.ntmps53
  go_wp2
  all_goals
   go_ret
   refine ⟨ret_bool ?_,B0⟩
   rw [uh HF]
   have ti:=uh Ti
   have tl:=uh Tl
   have nb:((nn:Int) == 0)=decide (nn=0):=by rw [Bool.eq_iff_iff];simp
   clear HF R0 B0 c0 c1 c2 c3 c4 cf Ti Tl
   simp_all
   try omega
 by_cases o7:op=7
 ·subst o7
  have HF:=hide ((uh HF).trans (by rw [if_neg (by omega),if_neg (by omega),if_pos (.inl rfl)]))
  clear HW
  go_enter Tryz.func53,Tryz.ntmps53
  go_wp2
  all_goals
   go_ret
   refine ⟨ret_bool ?_,B0⟩
   rw [uh HF]
   have ti:=uh Ti
   have tl:=uh Tl
   have nb:((nn:Int) == 0)=decide (nn=0):=by rw [Bool.eq_iff_iff];simp
   clear HF R0 B0 c0 c1 c2 c3 c4 cf Ti Tl
   simp_all
 by_cases o1:op=1
 ·subst o1
  have HF:=hide ((uh HF).trans (by rw [if_neg (by omega),if_neg (by omega),if_pos (.inr rfl)]))
  clear HW
  go_enter Tryz.func53,Tryz.ntmps53
  go_wp2
  all_goals
   go_ret
   refine ⟨ret_bool ?_,B0⟩
   rw [uh HF]
   have ti:=uh Ti
   have tl:=uh Tl
   have nb:((nn:Int) == 0)=decide (nn=0):=by rw [Bool.eq_iff_iff];simp
   clear HF R0 B0 c0 c1 c2 c3 c4 cf Ti Tl
   simp_all
 have HF:=hide ((uh HF).trans (by rw [if_neg o5,if_neg o6,if_neg (by omega)]))
 have p1:=beq_eq_false_iff_ne.2 o1
 have p5:=beq_eq_false_iff_ne.2 o5
 have p6:=beq_eq_false_iff_ne.2 o6
 have p7:=beq_eq_false_iff_ne.2 o7
 clear o1 o5 o6 o7
 go_enter Tryz.func53,Tryz.ntmps53
 go_wp2_with (go_at_call 79;refine (uh HW _ B0).mono ?_;rintro e w2 ⟨rfl,hb2⟩)
 all_goals
  go_ret
  exact ⟨ret_bool (uh HF).symm,B0.trans (hb2.mono B0.size)⟩

end Go.Proofs.YtedlocniojlhfaaGreatDoor
