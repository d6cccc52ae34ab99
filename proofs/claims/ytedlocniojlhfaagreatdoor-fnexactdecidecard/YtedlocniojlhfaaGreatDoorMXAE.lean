/-
  VPC, VPE, VPF, VPG, VPH, QE0. Own work.
-/
import Derived.Test.YtedlocniojlhfaaGreatDoorVPB
import Derived.Test.YtedlocniojlhfaaGreatDoorMXAB
namespace Go.Proofs.YtedlocniojlhfaaGreatDoor
set_option maxRecDepth 100000
set_option maxHeartbeats 3200000
open Go.RowKit
set_option linter.unusedVariables false

def wfB (x:Nd):Bool :=
 if x.op=1 then decide (0≤x.num) && decide (x.text.size=0) && decide (x.names.length=0)
 else if x.op=2 then quotedB x.text && decide (x.num=0) && decide (x.names.length=0)
 else if x.op=3 then decide (x.num=0∨x.num=1) && decide (x.text.size=0) && decide (x.names.length=0)
 else if x.op=4 then setB x.names && decide (x.num=0) && decide (x.text.size=0)
 else if x.op=5 then identB x.text && decide (x.num=0) && decide (x.names.length=0)
 else if x.op=6∨x.op=7 then false
 else decide (x.num=0) && decide (x.text.size=0) && decide (x.names.length=0)

theorem writtenFields_any (x:Nd) (an:Option Addr) (nn cn:Nat) (ak:Option Addr) (nk ck:Nat) (w:World) (hN:Strs w an nn cn x.names) (hs:x.text.size≤1048576) :
  Calls Tryz.prog 79 #[ndV x.op x.num x.text an nn cn ak nk ck] w fun e w'=>e=.returned (.bool (wfB x))∧Below w.heap.size w w':=by
 have hn:=hN.len
 obtain ⟨op,num,text,names,kids⟩:=x
 simp only at hN hs hn ⊢
 have R0:=Row.new w #[.int .i64 op,.int .i64 num,.string text,.slice an nn cn,.slice ak nk ck] 98
 have B0:=(Below.refl w.heap.size w).alloc nl (.cells #[.int .i64 op,.int .i64 num,.string text,.slice an nn cn,.slice ak nk ck] 98)
 have N0:=hN.below B0 nl
 have Hn:=hide hn
 clear hn
 have HF:=hide (show wfB ⟨op,num,text,names,kids⟩=(if op=1 then decide (0≤num) && decide (text.size=0) && decide (names.length=0) else if op=2 then quotedB text && decide (num=0) && decide (names.length=0) else if op=3 then decide (num=0∨num=1) && decide (text.size=0) && decide (names.length=0) else if op=4 then setB names && decide (num=0) && decide (text.size=0) else if op=5 then identB text && decide (num=0) && decide (names.length=0) else if op=6∨op=7 then false else decide (num=0) && decide (text.size=0) && decide (names.length=0)) from rfl)
 rw [← uh Hn] at HF
 generalize wfB ⟨op,num,text,names,kids⟩=FB at HF ⊢
 unfold ndV
 have tl:=tl_nil text
 obtain ⟨c0,c1,c2,c3,c4,cf⟩:=row5 R0
 go_enter Tryz.func79,Tryz.ntmps79
 go_wp2_with fail
 generalize w.alloc (.cells #[.int .i64 op,.int .i64 num,.string text,.slice an nn cn,.slice ak nk ck] 98)=W at *
 go_region
 have R1:Row W.drew w.heap.size #[.int .i64 op,.int .i64 num,.string text,.slice an nn cn,.slice ak nk ck] 98:=⟨R0.out⟩
 have B1:Below w.heap.size w W.drew:=B0.drew
 have N1:Strs W.drew an nn cn names:=N0.drew'
 clear R0 B0 N0 c0 c1 c2 c3 c4 cf hN
 generalize W.drew=W1 at R1 B1 N1 ⊢
 obtain ⟨c0,c1,c2,c3,c4,cf⟩:=row5 R1
 by_cases o1:op=1
 ·subst o1
  have HF:=hide ((uh HF).trans (by rw [if_pos rfl]))
  go_wp2
  all_goals
   go_ret
   refine ⟨ret_bool ?_,B1⟩
   rw [uh HF]
   have ti:text.toList.isEmpty=decide (text.size=0):=by rw [Bool.eq_iff_iff,List.isEmpty_iff,decide_eq_true_iff];exact tl_nil text
   have nb:((nn:Int) == 0)=decide (nn=0):=by rw [Bool.eq_iff_iff];simp
   clear HF R1 B1 N1 c0 c1 c2 c3 c4 cf
   simp_all
   try omega
 by_cases o2:op=2
 ·subst o2
  have HF:=hide ((uh HF).trans (by rw [if_neg (by omega),if_pos rfl]))
  cases hq:quotedB text
  ·have Hq:=hide hq
   clear hq
   go_wp2_with (go_at_call 82;refine (nameBytes_any _ _ (by unfold maxLen;omega)).mono ?_;rintro e w2 ⟨rfl,hw⟩;rw [← quotedB_eq,uh Hq,hw];clear hw)
   all_goals
    go_ret
    refine ⟨ret_bool ?_,B1⟩
    rw [uh HF]
    have hq:=uh Hq
    have ti:text.toList.isEmpty=decide (text.size=0):=by rw [Bool.eq_iff_iff,List.isEmpty_iff,decide_eq_true_iff];exact tl_nil text
    have nb:((nn:Int) == 0)=decide (nn=0):=by rw [Bool.eq_iff_iff];simp
    clear HF R1 B1 N1 c0 c1 c2 c3 c4 cf
    simp_all
    try omega
  ·have Hq:=hide hq
   clear hq
   go_wp2_with (go_at_call 82;refine (nameBytes_any _ _ (by unfold maxLen;omega)).mono ?_;rintro e w2 ⟨rfl,hw⟩;rw [← quotedB_eq,uh Hq,hw];clear hw)
   all_goals
    go_ret
    refine ⟨ret_bool ?_,B1⟩
    rw [uh HF]
    have hq:=uh Hq
    have ti:text.toList.isEmpty=decide (text.size=0):=by rw [Bool.eq_iff_iff,List.isEmpty_iff,decide_eq_true_iff];exact tl_nil text
    have nb:((nn:Int) == 0)=decide (nn=0):=by rw [Bool.eq_iff_iff];simp
    clear HF R1 B1 N1 c0 c1 c2 c3 c4 cf
    simp_all
    try omega
 by_cases o3:op=3
 ·subst o3
  have HF:=hide ((uh HF).trans (by rw [if_neg (by omega),if_neg (by omega),if_pos rfl]))
  go_wp2
  all_goals
   go_ret
   refine ⟨ret_bool ?_,B1⟩
   rw [uh HF]
   have ti:text.toList.isEmpty=decide (text.size=0):=by rw [Bool.eq_iff_iff,List.isEmpty_iff,decide_eq_true_iff];exact tl_nil text
   have nb:((nn:Int) == 0)=decide (nn=0):=by rw [Bool.eq_iff_iff];simp
   clear HF R1 B1 N1 c0 c1 c2 c3 c4 cf
   simp_all
   try omega
 by_cases o4:op=4
 ·subst o4
  have HF:=hide ((uh HF).trans (by rw [if_neg (by omega),if_neg (by omega),if_neg (by omega),if_pos rfl]))
  cases hq:setB names
  ·have Hq:=hide hq
   clear hq
   go_wp2_with (go_at_call 58;refine (iIsSet_any _ _ _ _ _ N1).mono ?_;rintro e w2 ⟨rfl,hb2⟩;rw [uh Hq];have B2:=B1.trans (hb2.mono B1.size))
   all_goals
    go_ret
    refine ⟨ret_bool ?_,B2⟩
    rw [uh HF]
    have hq:=uh Hq
    have ti:text.toList.isEmpty=decide (text.size=0):=by rw [Bool.eq_iff_iff,List.isEmpty_iff,decide_eq_true_iff];exact tl_nil text
    have nb:((nn:Int) == 0)=decide (nn=0):=by rw [Bool.eq_iff_iff];simp
    clear HF R1 B1 N1 c0 c1 c2 c3 c4 cf
    simp_all
    try omega
  ·have Hq:=hide hq
   clear hq
   go_wp2_with (go_at_call 58;refine (iIsSet_any _ _ _ _ _ N1).mono ?_;rintro e w2 ⟨rfl,hb2⟩;rw [uh Hq];have B2:=B1.trans (hb2.mono B1.size))
   all_goals
    go_ret
    refine ⟨ret_bool ?_,B2⟩
    rw [uh HF]
    have hq:=uh Hq
    have ti:text.toList.isEmpty=decide (text.size=0):=by rw [Bool.eq_iff_iff,List.isEmpty_iff,decide_eq_true_iff];exact tl_nil text
    have nb:((nn:Int) == 0)=decide (nn=0):=by rw [Bool.eq_iff_iff];simp
    clear HF R1 B1 N1 c0 c1 c2 c3 c4 cf
    simp_all
    try omega
 by_cases o5:op=5
 ·subst o5
  have HF:=hide ((uh HF).trans (by rw [if_neg (by omega),if_neg (by omega),if_neg (by omega),if_neg (by omega),if_pos rfl]))
  cases hq:identB text
  ·have Hq:=hide hq
   clear hq
   go_wp2_with (go_at_call 110;refine (couldBeName_any _ _ hs).mono ?_;rintro e w2 ⟨rfl,hw⟩;rw [uh Hq,hw];clear hw)
   all_goals
    go_ret
    refine ⟨ret_bool ?_,B1⟩
    rw [uh HF]
    have hq:=uh Hq
    have ti:text.toList.isEmpty=decide (text.size=0):=by rw [Bool.eq_iff_iff,List.isEmpty_iff,decide_eq_true_iff];exact tl_nil text
    have nb:((nn:Int) == 0)=decide (nn=0):=by rw [Bool.eq_iff_iff];simp
    clear HF R1 B1 N1 c0 c1 c2 c3 c4 cf
    simp_all
    try omega
  ·have Hq:=hide hq
   clear hq
   go_wp2_with (go_at_call 110;refine (couldBeName_any _ _ hs).mono ?_;rintro e w2 ⟨rfl,hw⟩;rw [uh Hq,hw];clear hw)
   all_goals
    go_ret
    refine ⟨ret_bool ?_,B1⟩
    rw [uh HF]
    have hq:=uh Hq
    have ti:text.toList.isEmpty=decide (text.size=0):=by rw [Bool.eq_iff_iff,List.isEmpty_iff,decide_eq_true_iff];exact tl_nil text
    have nb:((nn:Int) == 0)=decide (nn=0):=by rw [Bool.eq_iff_iff];simp
    clear HF R1 B1 N1 c0 c1 c2 c3 c4 cf
    simp_all
    try omega
 by_cases o6:op=6
 ·subst o6
  have HF:=hide ((uh HF).trans (by rw [if_neg (by omega),if_neg (by omega),if_neg (by omega),if_neg (by omega),if_neg (by omega),if_pos (by omega)]))
  go_wp2
  all_goals
   go_ret
   refine ⟨ret_bool ?_,B1⟩
   rw [uh HF]
   have ti:text.toList.isEmpty=decide (text.size=0):=by rw [Bool.eq_iff_iff,List.isEmpty_iff,decide_eq_true_iff];exact tl_nil text
   have nb:((nn:Int) == 0)=decide (nn=0):=by rw [Bool.eq_iff_iff];simp
   clear HF R1 B1 N1 c0 c1 c2 c3 c4 cf
   simp_all
   try omega
 by_cases o7:op=7
 ·subst o7
  have HF:=hide ((uh HF).trans (by rw [if_neg (by omega),if_neg (by omega),if_neg (by omega),if_neg (by omega),if_neg (by omega),if_pos (by omega)]))
  go_wp2
  all_goals
   go_ret
   refine ⟨ret_bool ?_,B1⟩
   rw [uh HF]
   have ti:text.toList.isEmpty=decide (text.size=0):=by rw [Bool.eq_iff_iff,List.isEmpty_iff,decide_eq_true_iff];exact tl_nil text
   have nb:((nn:Int) == 0)=decide (nn=0):=by rw [Bool.eq_iff_iff];simp
   clear HF R1 B1 N1 c0 c1 c2 c3 c4 cf
   simp_all
   try omega
 have HF:=hide ((uh HF).trans (by rw [if_neg o1,if_neg o2,if_neg o3,if_neg o4,if_neg o5,if_neg (by omega)]))
 have p1:=beq_eq_false_iff_ne.2 o1
 have p2:=beq_eq_false_iff_ne.2 o2
 have p3:=beq_eq_false_iff_ne.2 o3
 have p4:=beq_eq_false_iff_ne.2 o4
 have p5:=beq_eq_false_iff_ne.2 o5
 have p6:=beq_eq_false_iff_ne.2 o6
 have p7:=beq_eq_false_iff_ne.2 o7
 go_wp2
 all_goals
  go_ret
  refine ⟨ret_bool ?_,B1⟩
  rw [uh HF]
  have ti:text.toList.isEmpty=decide (text.size=0):=by rw [Bool.eq_iff_iff,List.isEmpty_iff,decide_eq_true_iff];exact tl_nil text
  have nb:((nn:Int) == 0)=decide (nn=0):=by rw [Bool.eq_iff_iff];simp
  clear HF R1 B1 N1 c0 c1 c2 c3 c4 cf
  simp_all
  try omega

end Go.Proofs.YtedlocniojlhfaaGreatDoor

namespace Go.Proofs.YtedlocniojlhfaaGreatDoor
set_option maxRecDepth 100000
set_option maxHeartbeats 3200000
open Go.RowKit
set_option linter.unusedVariables false

theorem row4' {w:World} {b:Nat} {v0 v1 v2 v3:Value} {t:TypeId} (R:Row w b #[v0,v1,v2,v3] t):w.cell? ⟨b,0,none⟩=some v0∧w.cell? ⟨b,1,none⟩=some v1∧w.cell? ⟨b,2,none⟩=some v2∧w.cell? ⟨b,3,none⟩=some v3∧∀ j,w.frozen? ⟨b,j,none⟩=false :=
 ⟨by simpa using R.cell 0,by simpa using R.cell 1,by simpa using R.cell 2,by simpa using R.cell 3,fun j=>R.frozen j⟩

def stV (s:St):Value:=.agg #[.int .i64 s.kind,.string s.name,.int .i64 s.cond,.int .i64 s.grant]

theorem validStmt_any (s:St) (w:World) (hs:s.name.size≤1048576) :
  Calls Tryz.prog 108 #[stV s] w fun e w'=>e=.returned (.bool (stmtI s))∧Below w.heap.size w w':=by
 obtain ⟨kind,name,cond,grant⟩:=s
 simp only at hs
 have B0:=(Below.refl w.heap.size w).alloc nl (.cells #[.int .i64 kind,.string name,.int .i64 cond,.int .i64 grant] 94)
 have HF:=hide (show stmtI ⟨kind,name,cond,grant⟩=(if kind=1 then identB name && decide (grant=-1) else if kind=2 then decide (name.size=0) else if kind=3 then decide (name.size=0) && decide (cond=-1) else false) from rfl)
 generalize stmtI ⟨kind,name,cond,grant⟩=FB at HF ⊢
 unfold stV
 have tl:=tl_nil name
 by_cases k1:kind=1
 ·subst k1
  cases hq:identB name
  ·have Hq:=hide hq
   clear hq
   go_enter Tryz.func108,Tryz.ntmps108
   go_wp2_with (go_at_call 110;refine (couldBeName_any _ _ hs).mono ?_;rintro e w2 ⟨rfl,hw⟩;rw [uh Hq,hw];clear hw)
   all_goals
    go_ret
    refine ⟨ret_bool ?_,(Below.refl w.heap.size w).alloc nl _⟩
    rw [uh HF,uh Hq]
    simp
  ·have Hq:=hide hq
   clear hq
   go_enter Tryz.func108,Tryz.ntmps108
   go_wp2_with (go_at_call 110;refine (couldBeName_any _ _ hs).mono ?_;rintro e w2 ⟨rfl,hw⟩;rw [uh Hq,hw];clear hw)
   all_goals
    go_ret
    refine ⟨ret_bool ?_,(Below.refl w.heap.size w).alloc nl _⟩
    rw [uh HF,uh Hq]
    simp
    try rfl
 by_cases k2:kind=2
 ·subst k2
  go_enter Tryz.func108,Tryz.ntmps108
  go_wp2
  all_goals
   go_ret
   refine ⟨ret_bool ?_,(Below.refl w.heap.size w).alloc nl _⟩
   rw [uh HF]
   have ti:name.toList.isEmpty=decide (name.size=0):=by rw [Bool.eq_iff_iff,List.isEmpty_iff,decide_eq_true_iff];exact tl_nil name
   clear HF B0
   simp_all
 by_cases k3:kind=3
 ·subst k3
  go_enter Tryz.func108,Tryz.ntmps108
  go_wp2
  all_goals
   go_ret
   refine ⟨ret_bool ?_,(Below.refl w.heap.size w).alloc nl _⟩
   rw [uh HF]
   have ti:name.toList.isEmpty=decide (name.size=0):=by rw [Bool.eq_iff_iff,List.isEmpty_iff,decide_eq_true_iff];exact tl_nil name
   have cb:(cond == -1)=decide (cond=-1):=rfl
   clear HF B0
   simp_all
 have e1:=beq_eq_false_iff_ne.2 k1
 have e2:=beq_eq_false_iff_ne.2 k2
 have e3:=beq_eq_false_iff_ne.2 k3
 go_enter Tryz.func108,Tryz.ntmps108
 go_wp2
 go_ret
 exact ⟨ret_bool (by rw [uh HF,if_neg k1,if_neg k2,if_neg k3]),B0⟩

end Go.Proofs.YtedlocniojlhfaaGreatDoor

namespace Go.Proofs.YtedlocniojlhfaaGreatDoor
set_option maxRecDepth 100000
set_option maxHeartbeats 3200000
open Go.RowKit
set_option linter.unusedVariables false

structure Sts (w:World) (a:Option Addr) (n c:Nat) (L:List St):Prop where
 len:L.length=n
 small:n≤1048576
 sizes:∀ s∈L,s.name.size≤1048576
 cells:∀ j,(h:j<L.length)→∃ b off,a=some ⟨b,off,none⟩∧b<w.heap.size∧w.cell? ⟨b,off+j*4,none⟩=some (.int .i64 L[j].kind)∧w.cell? ⟨b,off+j*4+1,none⟩=some (.string L[j].name)∧w.cell? ⟨b,off+j*4+2,none⟩=some (.int .i64 L[j].cond)∧w.cell? ⟨b,off+j*4+3,none⟩=some (.int .i64 L[j].grant)

theorem Sts.below {w w':World} {B:Nat} {a:Option Addr} {n c:Nat} {L:List St} (h:Sts w a n c L) (hb:Below B w w') (hB:w.heap.size≤B):Sts w' a n c L :=
 ⟨h.len,h.small,h.sizes,fun j hj=>by
  obtain ⟨b,off,ha,hl,c0,c1,c2,c3⟩:=h.cells j hj
  have hl':b<B:=by omega
  exact ⟨b,off,ha,Nat.lt_of_lt_of_le hl hb.size,(hb.cell (p:=⟨b,off+j*4,none⟩) hl').trans c0,(hb.cell (p:=⟨b,off+j*4+1,none⟩) hl').trans c1,(hb.cell (p:=⟨b,off+j*4+2,none⟩) hl').trans c2,(hb.cell (p:=⟨b,off+j*4+3,none⟩) hl').trans c3⟩⟩

def stAt (L:List St) (j:Nat) (h:j<L.length):Bool:=stmtI L[j] && (decide (L[j].kind=3) == decide (j+1=L.length))

theorem stmtsI_iff:∀ (L:List St),stmtsI L=true↔∀ j,(h:j<L.length)→stAt L j h=true
 | []=>by simp [stmtsI]
 | s::r=>by
  rw [stmtsI,Bool.and_eq_true,stmtsI_iff r]
  have e:r.isEmpty=decide (0+1=(s::r).length):=by cases r <;> simp
  constructor
  ·rintro ⟨h1,h2⟩ j hj
   cases j with
   | zero=>rw [e] at h1;exact h1
   | succ j =>
    have:=h2 j (by simpa using hj)
    rw [stAt] at this ⊢
    simp only [List.getElem_cons_succ,List.length_cons] at this ⊢
    rw [show decide (j+1+1=r.length+1)=decide (j+1=r.length) by rw [decide_eq_decide];omega]
    exact this
  ·intro h
   refine ⟨by rw [e];exact h 0 (by simp),fun j hj=>?_⟩
   have:=h (j+1) (by simpa using hj)
   rw [stAt] at this ⊢
   simp only [List.getElem_cons_succ,List.length_cons] at this
   rw [show decide (j+1+1=r.length+1)=decide (j+1=r.length) by rw [decide_eq_decide];omega] at this
   exact this

theorem validStmt_agg (s:St) (w:World) (hs:s.name.size≤1048576) :
  Calls Tryz.prog 108 #[.agg #[.int .i64 s.kind,.string s.name,.int .i64 s.cond,.int .i64 s.grant]] w fun e w'=>e=.returned (.bool (stmtI s))∧Below w.heap.size w w':=validStmt_any s w hs

theorem validStmts_any (a:Option Addr) (n c:Nat) (L:List St) (w:World) (h:Sts w a n c L) :
  Calls Tryz.prog 75 #[.slice a n c] w fun e w'=>e=.returned (.bool (decide (1≤n∧n≤600) && stmtsI L))∧Below w.heap.size w w':=by
 have hn:=h.small
 by_cases h1:n<1
 ·have i1:(n:Int)<1:=by omega
  go_enter Tryz.func75,Tryz.ntmps75
  go_wp2
  go_ret
  exact ⟨ret_bool (by simp;omega),Below.refl _ _⟩
 have i1:¬ ((n:Int)<1):=by omega
 by_cases h6:600<n
 ·have i6:(600:Int)<(n:Int):=by omega
  go_enter Tryz.func75,Tryz.ntmps75
  go_wp2
  go_ret
  exact ⟨ret_bool (by simp;omega),Below.refl _ _⟩
 have i6:¬ ((600:Int)<(n:Int)):=by omega
 have HD:=hide (show decide (1≤n∧n≤600)=true from decide_eq_true ⟨by omega,by omega⟩)
 have hl:=h.len
 have HL:=hide hl
 clear hl
 go_enter Tryz.func75,Tryz.ntmps75
 go_wp2_with fail
 go_loopw [16] (fun i wr=>∃ (k:Nat),k≤n∧i=.int .i64 k∧Below w.heap.size w wr∧∀ j,(hj:j<L.length)→j<k→stAt L j hj=true) (fun i _=>n - (intOf i).toNat)
 case atStart=>exact ⟨0,Nat.zero_le _,rfl,Below.refl _ _,fun j hj hk=>by omega⟩
 case round =>
  obtain ⟨k,hk,rfl,B1,hal⟩:=hrel
  have Ha:=hide hal
  clear hal
  by_cases hlt:k<n
  ·have ilt:(k:Int)<(n:Int):=by omega
   have hkl:k<L.length:=by rw [uh HL];exact hlt
   obtain ⟨b,off,rfl,hb,c0,c1,c2,c3⟩:=(h.below B1 nl).cells k hkl
   have hsz:=h.sizes L[k] (List.getElem_mem hkl)
   have HS:=hide (show stAt L k hkl=(stmtI L[k] && (decide (L[k].kind=3) == decide (k+1=n))) by rw [stAt,uh HL])
   generalize L[k]=s at c0 c1 c2 c3 hsz HS
   have R1:=Row.new wr #[.int .i64 s.kind,.string s.name,.int .i64 s.cond,.int .i64 s.grant] 94
   have B2:=B1.alloc B1.size (.cells #[.int .i64 s.kind,.string s.name,.int .i64 s.cond,.int .i64 s.grant] 94)
   have Hno0:=hide (show stAt L k hkl=false→stmtsI L=false from fun e=>by
    rw [← Bool.not_eq_true,stmtsI_iff]
    intro k'
    rw [k' k hkl] at e
    cases e)
   have HN:=hide (show stAt L k hkl=true→∀ j,(hj:j<L.length)→j<k+1→stAt L j hj=true from fun e j hj h'=>by
    by_cases ej:j=k
    ·subst ej;exact e
    ·exact uh Ha j hj (by omega))
   clear Ha
   have Hlt:=hide hlt
   by_cases kl:k+1=n
   ·have el:((k:Int) == (n:Int) - 1)=true:=beq_iff_eq.2 (by omega)
    have dl:=decide_eq_true kl
    have Hdl:=hide dl
    clear kl dl
    by_cases k3:s.kind=3
    ·have e3:(s.kind == 3)=true:=beq_iff_eq.2 k3
     have d3:=decide_eq_true k3
     have Hd3:=hide d3
     clear k3 d3
     cases hv:stmtI s
     ·have Hno:=hide (uh Hno0 (by rw [uh HS,hv];rfl))
      have Hv:=hide hv
      clear hv
      go_wp2_with (go_at_call 108;refine (validStmt_agg s _ hsz).mono ?_;rintro e w2 ⟨rfl,hb2⟩;rw [uh Hv];have R2:=R1.after hb2 nl;obtain ⟨q0,q1,q2,q3,qf⟩:=row4' R2)
      go_ret
      exact ⟨ret_bool (by rw [uh HD,uh Hno];rfl),B2.trans (hb2.mono B2.size)⟩
     ·have HY:=hide (uh HN (by rw [uh HS,hv,uh Hd3,uh Hdl];rfl))
      have Hv:=hide hv
      clear hv
      go_wp2_with (go_at_call 108;refine (validStmt_agg s _ hsz).mono ?_;rintro e w2 ⟨rfl,hb2⟩;rw [uh Hv];have R2:=R1.after hb2 nl;obtain ⟨q0,q1,q2,q3,qf⟩:=row4' R2)
      go_roundw
      case rel=>exact ⟨k+1,uh Hlt,by go_num,B2.trans (hb2.mono B2.size),uh HY⟩
      case measure=>have:=uh Hlt;simp [intOf];omega
    ·have e3:(s.kind == 3)=false:=beq_eq_false_iff_ne.2 k3
     have d3:=decide_eq_false k3
     have Hd3:=hide d3
     clear k3 d3
     cases hv:stmtI s
     ·have Hno:=hide (uh Hno0 (by rw [uh HS,hv];rfl))
      have Hv:=hide hv
      clear hv
      go_wp2_with (go_at_call 108;refine (validStmt_agg s _ hsz).mono ?_;rintro e w2 ⟨rfl,hb2⟩;rw [uh Hv];have R2:=R1.after hb2 nl;obtain ⟨q0,q1,q2,q3,qf⟩:=row4' R2)
      go_ret
      exact ⟨ret_bool (by rw [uh HD,uh Hno];rfl),B2.trans (hb2.mono B2.size)⟩
     ·have Hno:=hide (uh Hno0 (by rw [uh HS,hv,uh Hd3,uh Hdl];rfl))
      have Hv:=hide hv
      clear hv
      go_wp2_with (go_at_call 108;refine (validStmt_agg s _ hsz).mono ?_;rintro e w2 ⟨rfl,hb2⟩;rw [uh Hv];have R2:=R1.after hb2 nl;obtain ⟨q0,q1,q2,q3,qf⟩:=row4' R2)
      go_ret
      exact ⟨ret_bool (by rw [uh HD,uh Hno];rfl),B2.trans (hb2.mono B2.size)⟩
   ·have el:((k:Int) == (n:Int) - 1)=false:=beq_eq_false_iff_ne.2 (by omega)
    have dl:=decide_eq_false kl
    have Hdl:=hide dl
    clear kl dl
    by_cases k3:s.kind=3
    ·have e3:(s.kind == 3)=true:=beq_iff_eq.2 k3
     have d3:=decide_eq_true k3
     have Hd3:=hide d3
     clear k3 d3
     cases hv:stmtI s
     ·have Hno:=hide (uh Hno0 (by rw [uh HS,hv];rfl))
      have Hv:=hide hv
      clear hv
      go_wp2_with (go_at_call 108;refine (validStmt_agg s _ hsz).mono ?_;rintro e w2 ⟨rfl,hb2⟩;rw [uh Hv];have R2:=R1.after hb2 nl;obtain ⟨q0,q1,q2,q3,qf⟩:=row4' R2)
      go_ret
      exact ⟨ret_bool (by rw [uh HD,uh Hno];rfl),B2.trans (hb2.mono B2.size)⟩
     ·have Hno:=hide (uh Hno0 (by rw [uh HS,hv,uh Hd3,uh Hdl];rfl))
      have Hv:=hide hv
      clear hv
      go_wp2_with (go_at_call 108;refine (validStmt_agg s _ hsz).mono ?_;rintro e w2 ⟨rfl,hb2⟩;rw [uh Hv];have R2:=R1.after hb2 nl;obtain ⟨q0,q1,q2,q3,qf⟩:=row4' R2)
      go_ret
      exact ⟨ret_bool (by rw [uh HD,uh Hno];rfl),B2.trans (hb2.mono B2.size)⟩
    ·have e3:(s.kind == 3)=false:=beq_eq_false_iff_ne.2 k3
     have d3:=decide_eq_false k3
     have Hd3:=hide d3
     clear k3 d3
     cases hv:stmtI s
     ·have Hno:=hide (uh Hno0 (by rw [uh HS,hv];rfl))
      have Hv:=hide hv
      clear hv
      go_wp2_with (go_at_call 108;refine (validStmt_agg s _ hsz).mono ?_;rintro e w2 ⟨rfl,hb2⟩;rw [uh Hv];have R2:=R1.after hb2 nl;obtain ⟨q0,q1,q2,q3,qf⟩:=row4' R2)
      go_ret
      exact ⟨ret_bool (by rw [uh HD,uh Hno];rfl),B2.trans (hb2.mono B2.size)⟩
     ·have HY:=hide (uh HN (by rw [uh HS,hv,uh Hd3,uh Hdl];rfl))
      have Hv:=hide hv
      clear hv
      go_wp2_with (go_at_call 108;refine (validStmt_agg s _ hsz).mono ?_;rintro e w2 ⟨rfl,hb2⟩;rw [uh Hv];have R2:=R1.after hb2 nl;obtain ⟨q0,q1,q2,q3,qf⟩:=row4' R2)
      go_roundw
      case rel=>exact ⟨k+1,uh Hlt,by go_num,B2.trans (hb2.mono B2.size),uh HY⟩
      case measure=>have:=uh Hlt;simp [intOf];omega
  ·have e:k=n:=by omega
   subst e
   have Hall:=hide (show stmtsI L=true from (stmtsI_iff L).2 (fun j hj=>uh Ha j hj (by have:=uh HL;omega)))
   go_wp2
   go_ret
   exact ⟨ret_bool (by rw [uh HD,uh Hall];rfl),B1⟩

end Go.Proofs.YtedlocniojlhfaaGreatDoor

namespace Go.Proofs.YtedlocniojlhfaaGreatDoor
set_option maxRecDepth 100000
set_option maxHeartbeats 3200000
open Go.RowKit
set_option linter.unusedVariables false

theorem infoI:(Tryz.prog.info? 3).map (fun i=>(i.zero,i.size,i.bytes))=some (some (.int .i64 0),1,8):=by kernel_rfl

def intsV (L:List Int):List Value:=L.map (Value.int .i64)

theorem one_cell (w:World) (v:Value) (t:TypeId) (b:Nat) (hb:b=w.heap.size):∀ j u,([v]:List Value)[j]?=some u→(w.alloc (.cells #[v] t)).cell? ((⟨b,0,none⟩:Addr).add j)=some u:=fun j u h=>by
 subst hb
 have hj:j=0:=by
  have:=(List.getElem?_eq_some_iff.1 h).1
  simp at this
  exact this
 subst hj
 rw [← h]
 simp [Addr.add]

theorem asked_succ (L:List St) (k:Nat) (h:k<L.length):(L.take (k+1)).flatMap askedOf=(L.take k).flatMap askedOf++askedOf L[k]:=by
 rw [List.take_succ_eq_append_getElem h,List.flatMap_append]
 simp

theorem asked_len:∀ (L:List St),(L.flatMap askedOf).length≤2*L.length
 | []=>by simp
 | s::r=>by
  have:=asked_len r
  have h1:(askedOf s).length≤2:=by unfold askedOf;split <;> split <;> simp
  rw [List.flatMap_cons,List.length_append,List.length_cons]
  omega

theorem Row.grown {w w':World} {b:Nat} {cs:Array Value} {t:TypeId} {row:Option Nat} (h:Row w b cs t) (hg:w.grownBy w' row) (hne:some b=row→False):Row w' b cs t:=⟨(hg.block b h.lt hne).trans h.out⟩

theorem topsAsked_any (a:Option Addr) (n c:Nat) (L:List St) (w:World) (h:Sts w a n c L) :
  Calls Tryz.prog 78 #[.slice a n c] w fun e w'=>∃ v,e=.returned v∧w'.ownsRow w.heap.size 3 1 v (L.flatMap askedOf).length (intsV (L.flatMap askedOf))∧Below w.heap.size w w':=by
 have hn:=h.small
 have hl:=h.len
 have HL:=hide hl
 clear hl
 obtain ⟨i,hi,hz0,hz1,hz2⟩:=info_parts infoI
 go_enter Tryz.func78,Tryz.ntmps78
 go_wp2_with fail
 go_loopw [3,8] (fun v i wr=>∃ k:Nat,k≤n∧i=.int .i64 k∧wr.ownsRow w.heap.size 3 1 v ((L.take k).flatMap askedOf).length (intsV ((L.take k).flatMap askedOf))∧Below w.heap.size w wr) (fun _ i _=>n - (intOf i).toNat)
 case atStart=>exact ⟨0,Nat.zero_le _,rfl,World.ownsRow_nil _ _ _ _,Below.refl _ _⟩
 case round =>
  obtain ⟨k,hk,rfl,O1,B1⟩:=hrel
  by_cases hlt:k<n
  ·have ilt:(k:Int)<(n:Int):=by omega
   have hkl:k<L.length:=by rw [uh HL];exact hlt
   obtain ⟨b,off,rfl,hb,c0,c1,c2,c3⟩:=(h.below B1 nl).cells k hkl
   have HT:=hide (asked_succ L k hkl)
   have hln:=asked_len (L.take k)
   rw [List.length_take] at hln
   have Hlt:=hide hlt
   generalize L[k]=s at c0 c1 c2 c3 HT
   generalize (L.take k).flatMap askedOf=A at O1 hln HT
   have hA:A.length≤2*1048576:=by omega
   have R2:=Row.new wr #[.int .i64 s.kind,.string s.name,.int .i64 s.cond,.int .i64 s.grant] 94
   have B2:=B1.alloc B1.size (.cells #[.int .i64 s.kind,.string s.name,.int .i64 s.cond,.int .i64 s.grant] 94)
   have O2:=O1.alloc (.cells #[.int .i64 s.kind,.string s.name,.int .i64 s.cond,.int .i64 s.grant] 94)
   have z2:(wr.alloc (.cells #[.int .i64 s.kind,.string s.name,.int .i64 s.cond,.int .i64 s.grant] 94)).heap.size=wr.heap.size+1:=by simp
   have zb:=B1.size
   clear hln
   by_cases k3:s.kind=3
   ·have e3:(s.kind != 3)=false:=by rw [k3];rfl
    by_cases kg:s.grant=-1
    ·have eg:(s.grant != -1)=false:=by rw [kg];rfl
     have HA:=hide (show askedOf s=[] by rw [askedOf,if_neg (by omega),if_neg (by omega)];rfl)
     clear k3 kg
     go_wp2_with fail
     go_roundw
     case rel=>exact ⟨k+1,uh Hlt,by go_num,by rw [uh HT,uh HA,List.append_nil];exact O2,B2⟩
     case measure=>have:=uh Hlt;simp [intOf];omega
    ·have eg:(s.grant != -1)=true:=bne_iff_ne.2 kg
     have HA:=hide (show askedOf s=[s.grant] by rw [askedOf,if_neg (by omega),if_pos kg];rfl)
     clear k3 kg
     go_wp2_with (at_builtin;refine wpList_append_own _ rfl _ _ 24 rfl w.heap.size 3 i (.int .i64 0) 1 8 Tryz.underlying24 hi hz0 hz1 hz2 rfl (by decide) _ _ _ rfl (World.ownsRow.alloc O2 _) ⟨wr.heap.size+1,0,none⟩ 1 1 [.int .i64 s.grant] rfl rfl ?c1 ?c2 ?c3 ?c4 ?c5 ?_)
     case c1=>exact one_cell _ _ _ _ (by simp)
     case c2=>intro u hu;simp at hu;subst hu;rfl
     case c3=>skip;unfold maxLen;omega
     case c4=>skip;omega
     case c5=>simp;omega
     intro v' w3 O3 hgrow _
     have B3:=(B2.alloc (by omega) (.cells #[.int .i64 s.grant] 3)).grown hgrow (by simp;omega) (fun q hq=>(O2.lt q hq).1)
     skip
     clear hgrow
     go_wp2_with fail
     go_roundw
     case rel=>exact ⟨k+1,uh Hlt,by go_num,by rw [uh HT,uh HA,intsV,List.map_append,List.length_append];exact O3,B3⟩
     case measure=>have:=uh Hlt;simp [intOf];omega
   ·have e3:(s.kind != 3)=true:=bne_iff_ne.2 k3
    by_cases kg:s.grant=-1
    ·have eg:(s.grant != -1)=false:=by rw [kg];rfl
     have HA:=hide (show askedOf s=[s.cond] by rw [askedOf,if_pos k3,if_neg (by omega)];rfl)
     clear k3 kg
     go_wp2_with (at_builtin;refine wpList_append_own _ rfl _ _ 24 rfl w.heap.size 3 i (.int .i64 0) 1 8 Tryz.underlying24 hi hz0 hz1 hz2 rfl (by decide) _ _ _ rfl (World.ownsRow.alloc O2 _) ⟨wr.heap.size+1,0,none⟩ 1 1 [.int .i64 s.cond] rfl rfl ?c1 ?c2 ?c3 ?c4 ?c5 ?_)
     case c1=>exact one_cell _ _ _ _ (by simp)
     case c2=>intro u hu;simp at hu;subst hu;rfl
     case c3=>skip;unfold maxLen;omega
     case c4=>skip;omega
     case c5=>simp;omega
     intro v' w3 O3 hgrow _
     have B3:=(B2.alloc (by omega) (.cells #[.int .i64 s.cond] 3)).grown hgrow (by simp;omega) (fun q hq=>(O2.lt q hq).1)
     have R3:=(R2.alloc (.cells #[.int .i64 s.cond] 3)).grown hgrow (fun e=>by have:=(O1.lt _ e.symm).2;omega)
     have zw:=B3.size
     obtain ⟨q0,q1,q2,q3,qf⟩:=row4' R3
     clear hgrow
     go_wp2_with fail
     go_roundw
     case rel=>exact ⟨k+1,uh Hlt,by go_num,by rw [uh HT,uh HA,intsV,List.map_append,List.length_append];exact O3,B3⟩
     case measure=>have:=uh Hlt;simp [intOf];omega
    ·have eg:(s.grant != -1)=true:=bne_iff_ne.2 kg
     have HA:=hide (show askedOf s=[s.cond,s.grant] by rw [askedOf,if_pos k3,if_pos kg];rfl)
     clear k3 kg
     go_wp2_with (at_builtin;refine wpList_append_own _ rfl _ _ 24 rfl w.heap.size 3 i (.int .i64 0) 1 8 Tryz.underlying24 hi hz0 hz1 hz2 rfl (by decide) _ _ _ rfl (World.ownsRow.alloc O2 _) ⟨wr.heap.size+1,0,none⟩ 1 1 [.int .i64 s.cond] rfl rfl ?c1 ?c2 ?c3 ?c4 ?c5 ?_)
     case c1=>exact one_cell _ _ _ _ (by simp)
     case c2=>intro u hu;simp at hu;subst hu;rfl
     case c3=>skip;unfold maxLen;omega
     case c4=>skip;omega
     case c5=>simp;omega
     intro v' w3 O3 hgrow _
     have B3:=(B2.alloc (by omega) (.cells #[.int .i64 s.cond] 3)).grown hgrow (by simp;omega) (fun q hq=>(O2.lt q hq).1)
     have R3:=(R2.alloc (.cells #[.int .i64 s.cond] 3)).grown hgrow (fun e=>by have:=(O1.lt _ e.symm).2;omega)
     have zw:=B3.size
     obtain ⟨q0,q1,q2,q3,qf⟩:=row4' R3
     obtain ⟨x3,cx3,hv3⟩:=owns_form O3
     subst hv3
     clear hgrow
     go_wp2_with (at_builtin;refine wpList_append_own _ rfl _ _ 24 rfl w.heap.size 3 i (.int .i64 0) 1 8 Tryz.underlying24 hi hz0 hz1 hz2 rfl (by decide) _ _ _ rfl (World.ownsRow.alloc O3 _) ⟨w3.heap.size,0,none⟩ 1 1 [.int .i64 s.grant] rfl rfl ?c1 ?c2 ?c3 ?c4 ?c5 ?_)
     case c1=>exact one_cell _ _ _ _ (by simp)
     case c2=>intro u hu;simp at hu;subst hu;rfl
     case c3=>skip;unfold maxLen;omega
     case c4=>skip;omega
     case c5=>simp;omega
     intro v'' w4 O4 hgrow _
     have B4:=(B3.alloc (by omega) (.cells #[.int .i64 s.grant] 3)).grown hgrow (by simp;omega) (fun q hq=>(O3.lt q hq).1)
     skip
     clear hgrow
     go_wp2_with fail
     go_roundw
     case rel=>exact ⟨k+1,uh Hlt,by go_num,by rw [uh HT,uh HA,intsV,List.map_append,List.length_append];simpa [intsV] using O4,B4⟩
     case measure=>have:=uh Hlt;simp [intOf];omega
  ·have e:k=n:=by omega
   subst e
   have e2:L.take k=L:=List.take_of_length_le (by rw [uh HL];exact nl)
   rw [e2] at O1
   obtain ⟨x,cx,hv⟩:=owns_form O1
   subst hv
   go_wp2
   go_ret
   exact ⟨_,rfl,O1,B1⟩

end Go.Proofs.YtedlocniojlhfaaGreatDoor

namespace Go.Proofs.YtedlocniojlhfaaGreatDoor
open Go.RowKit
set_option linter.unusedVariables false

def NdAt (w:World) (b o:Nat) (x:Nd):Prop:=∃ an nn cn ak nk ck,w.cell? ⟨b,o,none⟩=some (.int .i64 x.op)∧w.cell? ⟨b,o+1,none⟩=some (.int .i64 x.num)∧w.cell? ⟨b,o+2,none⟩=some (.string x.text)∧w.cell? ⟨b,o+3,none⟩=some (.slice an nn cn)∧w.cell? ⟨b,o+4,none⟩=some (.slice ak nk ck)∧Strs w an nn cn x.names∧Ints w ak nk ck x.kids

structure Nds (w:World) (a:Option Addr) (n c:Nat) (L:List Nd):Prop where
 len:L.length=n
 small:n≤1048576
 sizes:∀ x∈L,x.text.size≤1048576
 cells:∀ j,(h:j<L.length)→∃ b off,a=some ⟨b,off,none⟩∧b<w.heap.size∧NdAt w b (off+j*5) L[j]

theorem NdAt.below {w w':World} {B b o:Nat} {x:Nd} (h:NdAt w b o x) (hl:b<w.heap.size) (hb:Below B w w') (hB:w.heap.size≤B):NdAt w' b o x:=by
 obtain ⟨an,nn,cn,ak,nk,ck,c0,c1,c2,c3,c4,hN,hK⟩:=h
 have hl':b<B:=by omega
 exact ⟨an,nn,cn,ak,nk,ck,(hb.cell (p:=⟨b,o,none⟩) hl').trans c0,(hb.cell (p:=⟨b,o+1,none⟩) hl').trans c1,(hb.cell (p:=⟨b,o+2,none⟩) hl').trans c2,(hb.cell (p:=⟨b,o+3,none⟩) hl').trans c3,(hb.cell (p:=⟨b,o+4,none⟩) hl').trans c4,hN.below hb hB,hK.below hb hB⟩

theorem Nds.below {w w':World} {B:Nat} {a:Option Addr} {n c:Nat} {L:List Nd} (h:Nds w a n c L) (hb:Below B w w') (hB:w.heap.size≤B):Nds w' a n c L :=
 ⟨h.len,h.small,h.sizes,fun j hj=>by
  obtain ⟨b,off,ha,hl,hc⟩:=h.cells j hj
  exact ⟨b,off,ha,Nat.lt_of_lt_of_le hl hb.size,hc.below hl hb hB⟩⟩

structure TabOK (w:World):Prop where
 lt:7<w.heap.size
 cells:∀ k,w.cell? ⟨7,k,none⟩=binV[k]?

theorem TabOK.below {w w':World} {B:Nat} (h:TabOK w) (hb:Below B w w') (hB:w.heap.size≤B):TabOK w' :=
 ⟨Nat.lt_of_lt_of_le h.lt hb.size,fun k=>(hb.cell (p:=⟨7,k,none⟩) (Nat.lt_of_lt_of_le h.lt hB)).trans (h.cells k)⟩

theorem nd_all {w1 w':World} {b:Nat} {op num:Int} {text:ByteArray} {an ak:Option Addr} {nn cn nk ck:Nat} {t:TypeId} (R:Row w1 b #[.int .i64 op,.int .i64 num,.string text,.slice an nn cn,.slice ak nk ck] t) (hb:Below w1.heap.size w1 w') :
  w'.cell? ⟨b,0,none⟩=some (.int .i64 op)∧w'.cell? ⟨b,1,none⟩=some (.int .i64 num)∧w'.cell? ⟨b,2,none⟩=some (.string text)∧w'.cell? ⟨b,3,none⟩=some (.slice an nn cn)∧w'.cell? ⟨b,4,none⟩=some (.slice ak nk ck):=by
 obtain ⟨c0,c1,c2,c3,c4,_⟩:=row5 (R.after hb nl)
 exact ⟨c0,c1,c2,c3,c4⟩

end Go.Proofs.YtedlocniojlhfaaGreatDoor

namespace Go.Proofs.YtedlocniojlhfaaGreatDoor
open Go.RowKit
set_option linter.unusedVariables false

theorem Ex.form (e:Ex):∃ t u,e.val=.iface t u:=by cases e <;> exact ⟨_,_,rfl⟩

theorem ta_hit {T:TypeId} {fs:Array Field} (hu:Tryz.prog.underlying T=some (.struct fs)) (xT:TypeId) (v:Value) (w:World):(Instr.typeAssert (.iface T v) xT T true).run Tryz.prog w=.ok (.tuple #[v,.bool true]) w:=by simp [Instr.typeAssert,run_underlying hu]

theorem ta_miss {S T:TypeId} {fs:Array Field} {z:Value} (hu:Tryz.prog.underlying T=some (.struct fs)) (hz:∀ w,(zeroValue T).run Tryz.prog w=.ok z w) (h:S≠T) (xT:TypeId) (v:Value) (w:World):(Instr.typeAssert (.iface S v) xT T true).run Tryz.prog w=.ok (.tuple #[z,.bool false]) w:=by simp [Instr.typeAssert,run_underlying hu,hz,h]

end Go.Proofs.YtedlocniojlhfaaGreatDoor
