/-
  DVS, DVT, DVG, ZF, ZG, ZH. Own work.
-/
import Derived.Test.YtedlocniojlhfaaGreatDoorDVR
import Derived.Test.YtedlocniojlhfaaGreatDoorMXAE
import Derived.Test.YtedlocniojlhfaaGreatDoorDVF
import Derived.Test.YtedlocniojlhfaaGreatDoorMXAS
import Derived.Test.YtedlocniojlhfaaGreatDoorMXAQ
namespace Go.Proofs.YtedlocniojlhfaaGreatDoor
set_option maxRecDepth 100000
set_option maxHeartbeats 6400000
open Go.RowKit
set_option linter.unusedVariables false

open Classical in
theorem has_dec (tt:List ByteArray) (s:ByteArray):hasB tt s=decide (s∈tt):=by
 rw [Bool.eq_iff_iff,decide_eq_true_eq]
 exact hasB_iff tt s

theorem apply_eq (num:Int) (text:ByteArray) (a:Option Addr) (n c:Nat) (ss:List ByteArray) (num2:Int) (text2:ByteArray) (a2:Option Addr) (n2 c2:Nat) (tt:List ByteArray) (g cap:Nat) (w:World) (e0:w.cell? ⟨g,0,none⟩=some (.int .i64 0)) (e1:w.cell? ⟨g,1,none⟩=some (.int .i64 num)) (e2:w.cell? ⟨g,2,none⟩=some (.string text)) (e3:w.cell? ⟨g,3,none⟩=some (.slice a n c)) (e4:w.cell? ⟨g,4,none⟩=some (.int .i64 0)) (e5:w.cell? ⟨g,5,none⟩=some (.int .i64 num2)) (e6:w.cell? ⟨g,6,none⟩=some (.string text2)) (e7:w.cell? ⟨g,7,none⟩=some (.slice a2 n2 c2)) (hS:Strs w a n c ss) (hS2:Strs w a2 n2 c2 tt) (hg:g<w.heap.size) :
  Calls Tryz.prog 74 #[.int .i64 19,.slice (some ⟨g,0,none⟩) 2 cap] w (MAns (.ok (.bool (eqP num num2 text text2 ss tt))) w):=by
 have B0:=((((Below.refl w.heap.size w).alloc nl (.cells #[.int .i64 0,.int .i64 0,.string ⟨#[]⟩,.slice none 0 0] 96)).alloc (by simp) (.cells #[.int .i64 0,.int .i64 num,.string text,.slice a n c] 96)).alloc (by simp;omega) (.cells #[.int .i64 0,.int .i64 num2,.string text2,.slice a2 n2 c2] 96))
 have R0:=((Row.new w #[.int .i64 0,.int .i64 0,.string ⟨#[]⟩,.slice none 0 0] 96).alloc (.cells #[.int .i64 0,.int .i64 num,.string text,.slice a n c] 96)).alloc (.cells #[.int .i64 0,.int .i64 num2,.string text2,.slice a2 n2 c2] 96)
 have R1:=(Row.new (w.alloc (.cells #[.int .i64 0,.int .i64 0,.string ⟨#[]⟩,.slice none 0 0] 96)) #[.int .i64 0,.int .i64 num,.string text,.slice a n c] 96).alloc (.cells #[.int .i64 0,.int .i64 num2,.string text2,.slice a2 n2 c2] 96)
 have R2:=Row.new ((w.alloc (.cells #[.int .i64 0,.int .i64 0,.string ⟨#[]⟩,.slice none 0 0] 96)).alloc (.cells #[.int .i64 0,.int .i64 num,.string text,.slice a n c] 96)) #[.int .i64 0,.int .i64 num2,.string text2,.slice a2 n2 c2] 96
 simp only [World.size_alloc] at R1 R2

 have H1:=hS.below B0 nl
 have H2:=hS2.below B0 nl
 have HC:=hide (l3same_any 0 num text a n c ss 0 num2 text2 a2 n2 c2 tt _ H1 H2)
 generalize hdq:eqP num num2 text text2 ss tt=dq at HC
 have HDQ:=hide hdq
 clear H1 H2 hS hS2 hdq

 go_enter Tryz.func74,Tryz.ntmps74
 go_wp2_with fail

 refine (uh HC).mono ?_
 rintro r w4 ⟨rfl,hb4⟩
 have R4:=R0.after hb4 nl
 have B4:=B0.trans (hb4.mono (by simp;omega))
 have z4:=R4.lt
 dsimp only
 go_wp2_with fail

 generalize hq:dq=tq
 have HTQ:=hide hq
 clear hq
 refine (l3truth_any tq _).mono ?_
 rintro r w5 ⟨⟨cd,nm,tx,xa,xn,xc,rfl,rfl,hnm,rfl,rfl,rfl,rfl⟩,hb5⟩
 have HNM:=hide hnm
 clear hnm
 have R5:=R4.after hb5 nl
 have B5:=B4.trans (hb5.mono (by omega))

 obtain ⟨x0,x1,x2,x3⟩:=row4V R5
 have f0:=fun j=>R5.frozen j
 have Q1:=R5.set 0 (.int .i64 0)
 have f1:=fun j=>Q1.frozen j
 have Q2:=Q1.set 1 (.int .i64 nm)
 have f2:=fun j=>Q2.frozen j
 have Q3:=Q2.set 2 (.string ⟨#[]⟩)
 have f3:=fun j=>Q3.frozen j
 have Q4:=Q3.set 3 (.slice none 0 0)
 obtain ⟨p0,p1,p2,p3⟩:=row4V Q4
 have BE:=(((B5.setCell (p:=⟨w.heap.size,0,none⟩) nl (.int .i64 0)).setCell (p:=⟨w.heap.size,1,none⟩) nl (.int .i64 nm)).setCell (p:=⟨w.heap.size,2,none⟩) nl (.string ⟨#[]⟩)).setCell (p:=⟨w.heap.size,3,none⟩) nl (.slice none 0 0)
 dsimp only
 go_wp2_with fail
 refine bodyPost_ret (v:=.agg #[.int .i64 0,.int .i64 nm,.string ⟨#[]⟩,.slice none 0 0]) (by simp [results,Tryz.results74,go_sem,p0,p1,p2,p3]) rfl ⟨⟨_,_,_,_,_,_,rfl,?_⟩,BE⟩
 skip
 exact ⟨rfl,by rw [uh HNM,← uh HTQ],rfl,rfl,rfl,rfl⟩

theorem apply_ne (num:Int) (text:ByteArray) (a:Option Addr) (n c:Nat) (ss:List ByteArray) (num2:Int) (text2:ByteArray) (a2:Option Addr) (n2 c2:Nat) (tt:List ByteArray) (g cap:Nat) (w:World) (e0:w.cell? ⟨g,0,none⟩=some (.int .i64 0)) (e1:w.cell? ⟨g,1,none⟩=some (.int .i64 num)) (e2:w.cell? ⟨g,2,none⟩=some (.string text)) (e3:w.cell? ⟨g,3,none⟩=some (.slice a n c)) (e4:w.cell? ⟨g,4,none⟩=some (.int .i64 0)) (e5:w.cell? ⟨g,5,none⟩=some (.int .i64 num2)) (e6:w.cell? ⟨g,6,none⟩=some (.string text2)) (e7:w.cell? ⟨g,7,none⟩=some (.slice a2 n2 c2)) (hS:Strs w a n c ss) (hS2:Strs w a2 n2 c2 tt) (hg:g<w.heap.size) :
  Calls Tryz.prog 74 #[.int .i64 20,.slice (some ⟨g,0,none⟩) 2 cap] w (MAns (.ok (.bool (!eqP num num2 text text2 ss tt))) w):=by
 have B0:=((((Below.refl w.heap.size w).alloc nl (.cells #[.int .i64 0,.int .i64 0,.string ⟨#[]⟩,.slice none 0 0] 96)).alloc (by simp) (.cells #[.int .i64 0,.int .i64 num,.string text,.slice a n c] 96)).alloc (by simp;omega) (.cells #[.int .i64 0,.int .i64 num2,.string text2,.slice a2 n2 c2] 96))
 have R0:=((Row.new w #[.int .i64 0,.int .i64 0,.string ⟨#[]⟩,.slice none 0 0] 96).alloc (.cells #[.int .i64 0,.int .i64 num,.string text,.slice a n c] 96)).alloc (.cells #[.int .i64 0,.int .i64 num2,.string text2,.slice a2 n2 c2] 96)
 have R1:=(Row.new (w.alloc (.cells #[.int .i64 0,.int .i64 0,.string ⟨#[]⟩,.slice none 0 0] 96)) #[.int .i64 0,.int .i64 num,.string text,.slice a n c] 96).alloc (.cells #[.int .i64 0,.int .i64 num2,.string text2,.slice a2 n2 c2] 96)
 have R2:=Row.new ((w.alloc (.cells #[.int .i64 0,.int .i64 0,.string ⟨#[]⟩,.slice none 0 0] 96)).alloc (.cells #[.int .i64 0,.int .i64 num,.string text,.slice a n c] 96)) #[.int .i64 0,.int .i64 num2,.string text2,.slice a2 n2 c2] 96
 simp only [World.size_alloc] at R1 R2

 have H1:=hS.below B0 nl
 have H2:=hS2.below B0 nl
 have HC:=hide (l3same_any 0 num text a n c ss 0 num2 text2 a2 n2 c2 tt _ H1 H2)
 generalize hdq:eqP num num2 text text2 ss tt=dq at HC
 have HDQ:=hide hdq
 clear H1 H2 hS hS2 hdq

 go_enter Tryz.func74,Tryz.ntmps74
 go_wp2_with fail

 refine (uh HC).mono ?_
 rintro r w4 ⟨rfl,hb4⟩
 have R4:=R0.after hb4 nl
 have B4:=B0.trans (hb4.mono (by simp;omega))
 have z4:=R4.lt
 dsimp only
 go_wp2_with fail

 generalize hq:(!dq)=tq
 have HTQ:=hide hq
 clear hq
 refine (l3truth_any tq _).mono ?_
 rintro r w5 ⟨⟨cd,nm,tx,xa,xn,xc,rfl,rfl,hnm,rfl,rfl,rfl,rfl⟩,hb5⟩
 have HNM:=hide hnm
 clear hnm
 have R5:=R4.after hb5 nl
 have B5:=B4.trans (hb5.mono (by omega))

 obtain ⟨x0,x1,x2,x3⟩:=row4V R5
 have f0:=fun j=>R5.frozen j
 have Q1:=R5.set 0 (.int .i64 0)
 have f1:=fun j=>Q1.frozen j
 have Q2:=Q1.set 1 (.int .i64 nm)
 have f2:=fun j=>Q2.frozen j
 have Q3:=Q2.set 2 (.string ⟨#[]⟩)
 have f3:=fun j=>Q3.frozen j
 have Q4:=Q3.set 3 (.slice none 0 0)
 obtain ⟨p0,p1,p2,p3⟩:=row4V Q4
 have BE:=(((B5.setCell (p:=⟨w.heap.size,0,none⟩) nl (.int .i64 0)).setCell (p:=⟨w.heap.size,1,none⟩) nl (.int .i64 nm)).setCell (p:=⟨w.heap.size,2,none⟩) nl (.string ⟨#[]⟩)).setCell (p:=⟨w.heap.size,3,none⟩) nl (.slice none 0 0)
 dsimp only
 go_wp2_with fail
 refine bodyPost_ret (v:=.agg #[.int .i64 0,.int .i64 nm,.string ⟨#[]⟩,.slice none 0 0]) (by simp [results,Tryz.results74,go_sem,p0,p1,p2,p3]) rfl ⟨⟨_,_,_,_,_,_,rfl,?_⟩,BE⟩
 skip
 exact ⟨rfl,by rw [uh HNM,← uh HTQ],rfl,rfl,rfl,rfl⟩

theorem apply_in (s:ByteArray) (a2:Option Addr) (n2 c2:Nat) (tt:List ByteArray) (g cap:Nat) (w:World) (e0:w.cell? ⟨g,0,none⟩=some (.int .i64 0)) (e1:w.cell? ⟨g,1,none⟩=some (.int .i64 0)) (e2:w.cell? ⟨g,2,none⟩=some (.string s)) (e3:w.cell? ⟨g,3,none⟩=some (.slice none 0 0)) (e4:w.cell? ⟨g,4,none⟩=some (.int .i64 0)) (e5:w.cell? ⟨g,5,none⟩=some (.int .i64 0)) (e6:w.cell? ⟨g,6,none⟩=some (.string ⟨#[]⟩)) (e7:w.cell? ⟨g,7,none⟩=some (.slice a2 n2 c2)) (hS2:Strs w a2 n2 c2 tt) (hg:g<w.heap.size) :
  Calls Tryz.prog 74 #[.int .i64 23,.slice (some ⟨g,0,none⟩) 2 cap] w (MAns (evBin 23 (.text s) (.set tt)) w):=by
 have B0:=((((Below.refl w.heap.size w).alloc nl (.cells #[.int .i64 0,.int .i64 0,.string ⟨#[]⟩,.slice none 0 0] 96)).alloc (by simp) (.cells #[.int .i64 0,.int .i64 0,.string s,.slice none 0 0] 96)).alloc (by simp;omega) (.cells #[.int .i64 0,.int .i64 0,.string ⟨#[]⟩,.slice a2 n2 c2] 96))
 have R0:=((Row.new w #[.int .i64 0,.int .i64 0,.string ⟨#[]⟩,.slice none 0 0] 96).alloc (.cells #[.int .i64 0,.int .i64 0,.string s,.slice none 0 0] 96)).alloc (.cells #[.int .i64 0,.int .i64 0,.string ⟨#[]⟩,.slice a2 n2 c2] 96)
 have R1:=(Row.new (w.alloc (.cells #[.int .i64 0,.int .i64 0,.string ⟨#[]⟩,.slice none 0 0] 96)) #[.int .i64 0,.int .i64 0,.string s,.slice none 0 0] 96).alloc (.cells #[.int .i64 0,.int .i64 0,.string ⟨#[]⟩,.slice a2 n2 c2] 96)
 have R2:=Row.new ((w.alloc (.cells #[.int .i64 0,.int .i64 0,.string ⟨#[]⟩,.slice none 0 0] 96)).alloc (.cells #[.int .i64 0,.int .i64 0,.string s,.slice none 0 0] 96)) #[.int .i64 0,.int .i64 0,.string ⟨#[]⟩,.slice a2 n2 c2] 96
 simp only [World.size_alloc] at R1 R2

 have H2:=hS2.below B0 nl
 have HC:=hide (l1has_any a2 n2 c2 tt s _ H2)
 generalize hdq:hasB tt s=dq at HC
 have HDQ:=hide hdq
 clear H2 hS2 hdq

 go_enter Tryz.func74,Tryz.ntmps74
 go_wp2_with fail

 refine (uh HC).mono ?_
 rintro r w4 ⟨rfl,hw4⟩
 rw [hw4]
 clear hw4
 dsimp only
 go_wp2_with fail

 generalize hq:dq=tq
 have HTQ:=hide hq
 clear hq
 refine (l3truth_any tq _).mono ?_
 rintro r w5 ⟨⟨cd,nm,tx,xa,xn,xc,rfl,rfl,hnm,rfl,rfl,rfl,rfl⟩,hb5⟩
 have HNM:=hide hnm
 clear hnm
 have R5:=R0.after hb5 nl
 have B5:=B0.trans (hb5.mono (by simp;omega))

 obtain ⟨x0,x1,x2,x3⟩:=row4V R5
 have f0:=fun j=>R5.frozen j
 have Q1:=R5.set 0 (.int .i64 0)
 have f1:=fun j=>Q1.frozen j
 have Q2:=Q1.set 1 (.int .i64 nm)
 have f2:=fun j=>Q2.frozen j
 have Q3:=Q2.set 2 (.string ⟨#[]⟩)
 have f3:=fun j=>Q3.frozen j
 have Q4:=Q3.set 3 (.slice none 0 0)
 obtain ⟨p0,p1,p2,p3⟩:=row4V Q4
 have BE:=(((B5.setCell (p:=⟨w.heap.size,0,none⟩) nl (.int .i64 0)).setCell (p:=⟨w.heap.size,1,none⟩) nl (.int .i64 nm)).setCell (p:=⟨w.heap.size,2,none⟩) nl (.string ⟨#[]⟩)).setCell (p:=⟨w.heap.size,3,none⟩) nl (.slice none 0 0)
 dsimp only
 go_wp2_with fail
 refine bodyPost_ret (v:=.agg #[.int .i64 0,.int .i64 nm,.string ⟨#[]⟩,.slice none 0 0]) (by simp [results,Tryz.results74,go_sem,p0,p1,p2,p3]) rfl ⟨⟨_,_,_,_,_,_,rfl,?_⟩,BE⟩
 rw [evBin_in]
 exact ⟨rfl,by rw [uh HNM,← uh HTQ,← uh HDQ];rw [has_dec],rfl,rfl,rfl,rfl⟩

theorem apply_within (a:Option Addr) (n c:Nat) (ss:List ByteArray) (a2:Option Addr) (n2 c2:Nat) (tt:List ByteArray) (g cap:Nat) (w:World) (e0:w.cell? ⟨g,0,none⟩=some (.int .i64 0)) (e1:w.cell? ⟨g,1,none⟩=some (.int .i64 0)) (e2:w.cell? ⟨g,2,none⟩=some (.string ⟨#[]⟩)) (e3:w.cell? ⟨g,3,none⟩=some (.slice a n c)) (e4:w.cell? ⟨g,4,none⟩=some (.int .i64 0)) (e5:w.cell? ⟨g,5,none⟩=some (.int .i64 0)) (e6:w.cell? ⟨g,6,none⟩=some (.string ⟨#[]⟩)) (e7:w.cell? ⟨g,7,none⟩=some (.slice a2 n2 c2)) (hS:Strs w a n c ss) (hS2:Strs w a2 n2 c2 tt) (hg:g<w.heap.size) :
  Calls Tryz.prog 74 #[.int .i64 24,.slice (some ⟨g,0,none⟩) 2 cap] w (MAns (evBin 24 (.set ss) (.set tt)) w):=by
 have B0:=((((Below.refl w.heap.size w).alloc nl (.cells #[.int .i64 0,.int .i64 0,.string ⟨#[]⟩,.slice none 0 0] 96)).alloc (by simp) (.cells #[.int .i64 0,.int .i64 0,.string ⟨#[]⟩,.slice a n c] 96)).alloc (by simp;omega) (.cells #[.int .i64 0,.int .i64 0,.string ⟨#[]⟩,.slice a2 n2 c2] 96))
 have R0:=((Row.new w #[.int .i64 0,.int .i64 0,.string ⟨#[]⟩,.slice none 0 0] 96).alloc (.cells #[.int .i64 0,.int .i64 0,.string ⟨#[]⟩,.slice a n c] 96)).alloc (.cells #[.int .i64 0,.int .i64 0,.string ⟨#[]⟩,.slice a2 n2 c2] 96)
 have R1:=(Row.new (w.alloc (.cells #[.int .i64 0,.int .i64 0,.string ⟨#[]⟩,.slice none 0 0] 96)) #[.int .i64 0,.int .i64 0,.string ⟨#[]⟩,.slice a n c] 96).alloc (.cells #[.int .i64 0,.int .i64 0,.string ⟨#[]⟩,.slice a2 n2 c2] 96)
 have R2:=Row.new ((w.alloc (.cells #[.int .i64 0,.int .i64 0,.string ⟨#[]⟩,.slice none 0 0] 96)).alloc (.cells #[.int .i64 0,.int .i64 0,.string ⟨#[]⟩,.slice a n c] 96)) #[.int .i64 0,.int .i64 0,.string ⟨#[]⟩,.slice a2 n2 c2] 96
 simp only [World.size_alloc] at R1 R2

 have H1:=hS.below B0 nl
 have H2:=hS2.below B0 nl
 have HC:=hide (sWithin_any a n c ss a2 n2 c2 tt _ H1 H2)
 generalize hdq:withinB ss tt=dq at HC
 have HDQ:=hide hdq
 clear H1 H2 hS hS2 hdq

 go_enter Tryz.func74,Tryz.ntmps74
 go_wp2_with fail

 refine (uh HC).mono ?_
 rintro r w4 ⟨rfl,hb4⟩
 have R4:=R0.after hb4 nl
 have B4:=B0.trans (hb4.mono (by simp;omega))
 have z4:=R4.lt
 dsimp only
 go_wp2_with fail

 generalize hq:dq=tq
 have HTQ:=hide hq
 clear hq
 refine (l3truth_any tq _).mono ?_
 rintro r w5 ⟨⟨cd,nm,tx,xa,xn,xc,rfl,rfl,hnm,rfl,rfl,rfl,rfl⟩,hb5⟩
 have HNM:=hide hnm
 clear hnm
 have R5:=R4.after hb5 nl
 have B5:=B4.trans (hb5.mono (by omega))

 obtain ⟨x0,x1,x2,x3⟩:=row4V R5
 have f0:=fun j=>R5.frozen j
 have Q1:=R5.set 0 (.int .i64 0)
 have f1:=fun j=>Q1.frozen j
 have Q2:=Q1.set 1 (.int .i64 nm)
 have f2:=fun j=>Q2.frozen j
 have Q3:=Q2.set 2 (.string ⟨#[]⟩)
 have f3:=fun j=>Q3.frozen j
 have Q4:=Q3.set 3 (.slice none 0 0)
 obtain ⟨p0,p1,p2,p3⟩:=row4V Q4
 have BE:=(((B5.setCell (p:=⟨w.heap.size,0,none⟩) nl (.int .i64 0)).setCell (p:=⟨w.heap.size,1,none⟩) nl (.int .i64 nm)).setCell (p:=⟨w.heap.size,2,none⟩) nl (.string ⟨#[]⟩)).setCell (p:=⟨w.heap.size,3,none⟩) nl (.slice none 0 0)
 dsimp only
 go_wp2_with fail
 refine bodyPost_ret (v:=.agg #[.int .i64 0,.int .i64 nm,.string ⟨#[]⟩,.slice none 0 0]) (by simp [results,Tryz.results74,go_sem,p0,p1,p2,p3]) rfl ⟨⟨_,_,_,_,_,_,rfl,?_⟩,BE⟩
 rw [evBin_within,uh HDQ]
 exact ⟨rfl,by rw [uh HNM,← uh HTQ],rfl,rfl,rfl,rfl⟩

theorem apply1_any (op:Int) (v:Vv) (t:Int) (ht:nz (tyOp op [v.ty])=some t) (num:Int) (text:ByteArray) (a:Option Addr) (n c:Nat) (g cap:Nat) (w:World) (hv:MVs w num text a n c v) (e0:w.cell? ⟨g,0,none⟩=some (.int .i64 0)) (e1:w.cell? ⟨g,1,none⟩=some (.int .i64 num)) (e2:w.cell? ⟨g,2,none⟩=some (.string text)) (e3:w.cell? ⟨g,3,none⟩=some (.slice a n c)) (hg:g<w.heap.size) :
  Calls Tryz.prog 74 #[.int .i64 op,.slice (some ⟨g,0,none⟩) 1 cap] w (MAns (evUn op v) w):=by
 rcases tyOp1_inv ht with ⟨rfl,hk,_⟩ | ⟨rfl,hk,_⟩ | ⟨rfl,hk,_⟩
 ·obtain ⟨k,rfl⟩:=Vv.int_of hk
  obtain ⟨⟨rfl,hi⟩,rfl,rfl,rfl,rfl⟩:=hv
  exact apply_neg _ hi g cap w e0 e1 e2 e3 hg
 ·obtain ⟨k,rfl⟩:=Vv.bool_of hk
  obtain ⟨rfl,rfl,rfl,rfl,rfl⟩:=hv
  exact apply_not _ g cap w e0 e1 e2 e3 hg
 ·obtain ⟨k,rfl⟩:=Vv.set_of hk
  obtain ⟨rfl,rfl,hS,_,_⟩:=hv
  exact apply_size a n c k g cap w e0 e1 e2 e3 hS hg

theorem apply2_any (op:Int) (v u:Vv) (t:Int) (ht:nz (tyOp op [v.ty,u.ty])=some t) (hc:op≠25∧op≠26) (num:Int) (text:ByteArray) (a:Option Addr) (n c:Nat) (num2:Int) (text2:ByteArray) (a2:Option Addr) (n2 c2:Nat) (g cap:Nat) (w:World) (hv:MVs w num text a n c v) (hu:MVs w num2 text2 a2 n2 c2 u) (e0:w.cell? ⟨g,0,none⟩=some (.int .i64 0)) (e1:w.cell? ⟨g,1,none⟩=some (.int .i64 num)) (e2:w.cell? ⟨g,2,none⟩=some (.string text)) (e3:w.cell? ⟨g,3,none⟩=some (.slice a n c)) (e4:w.cell? ⟨g,4,none⟩=some (.int .i64 0)) (e5:w.cell? ⟨g,5,none⟩=some (.int .i64 num2)) (e6:w.cell? ⟨g,6,none⟩=some (.string text2)) (e7:w.cell? ⟨g,7,none⟩=some (.slice a2 n2 c2)) (hg:g<w.heap.size) :
  Calls Tryz.prog 74 #[.int .i64 op,.slice (some ⟨g,0,none⟩) 2 cap] w (MAns (evBin op v u) w):=by
 rcases tyOp2_inv ht with ⟨ho,hk,hl,_⟩ | ⟨ho,hk,hl,_⟩ | ⟨ho,hk,_⟩ | ⟨ho,hk,hl,_⟩ | ⟨rfl,hk,hl,_⟩ | ⟨rfl,hk,hl,_⟩ | ⟨ho,hk,hl,_⟩
 ·obtain ⟨k,rfl⟩:=Vv.int_of hk
  obtain ⟨l,rfl⟩:=Vv.int_of hl
  obtain ⟨⟨rfl,hi⟩,rfl,rfl,rfl,rfl⟩:=hv
  obtain ⟨⟨rfl,hj⟩,rfl,rfl,rfl,rfl⟩:=hu
  rcases (show op=11∨op=12∨op=13∨op=14∨op=15 by omega) with rfl | rfl | rfl | rfl | rfl
  ·exact apply_num11 _ _ hi hj g cap w e0 e1 e2 e3 e4 e5 e6 e7 hg
  ·exact apply_num12 _ _ hi hj g cap w e0 e1 e2 e3 e4 e5 e6 e7 hg
  ·exact apply_num13 _ _ hi hj g cap w e0 e1 e2 e3 e4 e5 e6 e7 hg
  ·exact apply_num14 _ _ hi hj g cap w e0 e1 e2 e3 e4 e5 e6 e7 hg
  ·exact apply_num15 _ _ hi hj g cap w e0 e1 e2 e3 e4 e5 e6 e7 hg
 ·obtain ⟨k,rfl⟩:=Vv.set_of hk
  obtain ⟨l,rfl⟩:=Vv.set_of hl
  obtain ⟨rfl,rfl,hS,l1,k1⟩:=hv
  obtain ⟨rfl,rfl,hS2,l2,k2⟩:=hu
  rcases (show op=16∨op=17∨op=18 by omega) with rfl | rfl | rfl
  ·exact apply_union a n c k a2 n2 c2 l g cap w e0 e1 e2 e3 e4 e5 e6 e7 hS hS2 k1.1 k2.1 hg
  ·exact apply_meet a n c k a2 n2 c2 l g cap w e0 e1 e2 e3 e4 e5 e6 e7 hS hS2 l1 hg
  ·exact apply_minus a n c k a2 n2 c2 l g cap w e0 e1 e2 e3 e4 e5 e6 e7 hS hS2 l1 hg
 ·have hs:=hv.same hu hk
  have q1:=hv.strs
  have q2:=hu.strs
  rcases ho with rfl | rfl
  ·rw [evBin_eq,hs]
   exact apply_eq num text a n c v.names num2 text2 a2 n2 c2 u.names g cap w e0 e1 e2 e3 e4 e5 e6 e7 q1.1 q2.1 hg
  ·rw [evBin_ne,hs]
   exact apply_ne num text a n c v.names num2 text2 a2 n2 c2 u.names g cap w e0 e1 e2 e3 e4 e5 e6 e7 q1.1 q2.1 hg
 ·obtain ⟨k,rfl⟩:=Vv.int_of hk
  obtain ⟨l,rfl⟩:=Vv.int_of hl
  obtain ⟨⟨rfl,hi⟩,rfl,rfl,rfl,rfl⟩:=hv
  obtain ⟨⟨rfl,hj⟩,rfl,rfl,rfl,rfl⟩:=hu
  rcases ho with rfl | rfl
  ·exact apply_less _ _ hi hj g cap w e0 e1 e2 e3 e4 e5 e6 e7 hg
  ·exact apply_most _ _ hi hj g cap w e0 e1 e2 e3 e4 e5 e6 e7 hg
 ·obtain ⟨k,rfl⟩:=Vv.text_of hk
  obtain ⟨l,rfl⟩:=Vv.set_of hl
  obtain ⟨rfl,rfl,rfl,rfl,rfl⟩:=hv
  obtain ⟨rfl,rfl,hS2,l2,k2⟩:=hu
  exact apply_in _ a2 n2 c2 l g cap w e0 e1 e2 e3 e4 e5 e6 e7 hS2 hg
 ·obtain ⟨k,rfl⟩:=Vv.set_of hk
  obtain ⟨l,rfl⟩:=Vv.set_of hl
  obtain ⟨rfl,rfl,hS,l1,k1⟩:=hv
  obtain ⟨rfl,rfl,hS2,l2,k2⟩:=hu
  exact apply_within a n c k a2 n2 c2 l g cap w e0 e1 e2 e3 e4 e5 e6 e7 hS hS2 hg
 ·omega

end Go.Proofs.YtedlocniojlhfaaGreatDoor

namespace Go.Proofs.YtedlocniojlhfaaGreatDoor
set_option maxRecDepth 100000
set_option maxHeartbeats 3200000
open Go.RowKit
set_option linter.unusedVariables false

def NdC (w:World) (b o:Nat) (x:Nd) (an:Option Addr) (nn cn:Nat) (ak:Option Addr) (nk ck:Nat):Prop:=w.cell? ⟨b,o,none⟩=some (.int .i64 x.op)∧w.cell? ⟨b,o+1,none⟩=some (.int .i64 x.num)∧w.cell? ⟨b,o+2,none⟩=some (.string x.text)∧w.cell? ⟨b,o+3,none⟩=some (.slice an nn cn)∧w.cell? ⟨b,o+4,none⟩=some (.slice ak nk ck)

theorem NdC.below {w w':World} {B b o:Nat} {x:Nd} {an:Option Addr} {nn cn:Nat} {ak:Option Addr} {nk ck:Nat} (h:NdC w b o x an nn cn ak nk ck) (hb:Below B w w') (hl:b<B):NdC w' b o x an nn cn ak nk ck :=
 ⟨(hb.cell (p:=⟨b,o,none⟩) hl).trans h.1,(hb.cell (p:=⟨b,o+1,none⟩) hl).trans h.2.1,(hb.cell (p:=⟨b,o+2,none⟩) hl).trans h.2.2.1,(hb.cell (p:=⟨b,o+3,none⟩) hl).trans h.2.2.2.1,(hb.cell (p:=⟨b,o+4,none⟩) hl).trans h.2.2.2.2⟩

theorem eval_int (x:Nd) (ho:x.op=1) (hi:I64 x.num) (b off n c i:Nat) (hin:i<n) (hn:n≤1048576) (an:Option Addr) (nn cn:Nat) (ak:Option Addr) (nk ck:Nat) (R:Rq) (a1:Option Addr) (n1 c1:Nat) (a2:Option Addr) (n2 c2:Nat) (la:Option Addr) (ln lc:Nat) (w:World) (hb:b<w.heap.size) (hx:NdC w b (off+i*5) x an nn cn ak nk ck) :
  Calls Tryz.prog 49 #[.slice (some ⟨b,off,none⟩) n c,.int .i64 i,.agg #[.string R.cl,.string R.us,.int .i64 R.lv,.int .i64 R.nw,.slice a1 n1 c1,.slice a2 n2 c2],.slice la ln lc] w (MAns (.ok (.int x.num)) w):=by
 have B2:=((Below.refl w.heap.size w).alloc nl (.cells #[.string R.cl,.string R.us,.int .i64 R.lv,.int .i64 R.nw,.slice a1 n1 c1,.slice a2 n2 c2] 40)).alloc (by simp) (.cells #[.int .i64 0,.int .i64 0,.string ⟨#[]⟩,.slice none 0 0] 96)
 obtain ⟨d0,d1,d2,d3,d4⟩:=hx.below B2 hb
 have iin:(i:Int)<(n:Int):=by omega
 rw [ho] at d0
 clear ho hx
 go_enter Tryz.func49,Tryz.ntmps49
 go_wp2_with fail
 refine bodyPost_ret (v:=.agg #[.int .i64 0,.int .i64 x.num,.string ⟨#[]⟩,.slice none 0 0]) (by simp [results,Tryz.results49,go_sem]) rfl ⟨⟨_,_,_,_,_,_,rfl,rfl,?_⟩,(((Below.refl w.heap.size w).alloc nl _).alloc (by simp) _).alloc (by simp;omega) _⟩
 exact ⟨⟨rfl,hi⟩,rfl,rfl,rfl,rfl⟩

theorem eval_bool (x:Nd) (ho:x.op=3) (hi:x.num=0∨x.num=1) (b off n c i:Nat) (hin:i<n) (hn:n≤1048576) (an:Option Addr) (nn cn:Nat) (ak:Option Addr) (nk ck:Nat) (R:Rq) (a1:Option Addr) (n1 c1:Nat) (a2:Option Addr) (n2 c2:Nat) (la:Option Addr) (ln lc:Nat) (w:World) (hb:b<w.heap.size) (hx:NdC w b (off+i*5) x an nn cn ak nk ck) :
  Calls Tryz.prog 49 #[.slice (some ⟨b,off,none⟩) n c,.int .i64 i,.agg #[.string R.cl,.string R.us,.int .i64 R.lv,.int .i64 R.nw,.slice a1 n1 c1,.slice a2 n2 c2],.slice la ln lc] w (MAns (.ok (.bool (decide (x.num=1)))) w):=by
 have B2:=((Below.refl w.heap.size w).alloc nl (.cells #[.string R.cl,.string R.us,.int .i64 R.lv,.int .i64 R.nw,.slice a1 n1 c1,.slice a2 n2 c2] 40)).alloc (by simp) (.cells #[.int .i64 0,.int .i64 0,.string ⟨#[]⟩,.slice none 0 0] 96)
 obtain ⟨d0,d1,d2,d3,d4⟩:=hx.below B2 hb
 have iin:(i:Int)<(n:Int):=by omega
 rw [ho] at d0
 have HI:=hide hi
 clear hi
 clear ho hx
 go_enter Tryz.func49,Tryz.ntmps49
 go_wp2_with fail
 refine bodyPost_ret (v:=.agg #[.int .i64 0,.int .i64 x.num,.string ⟨#[]⟩,.slice none 0 0]) (by simp [results,Tryz.results49,go_sem]) rfl ⟨⟨_,_,_,_,_,_,rfl,rfl,?_⟩,(((Below.refl w.heap.size w).alloc nl _).alloc (by simp) _).alloc (by simp;omega) _⟩
 exact ⟨by rcases uh HI with h | h <;> rw [h] <;> rfl,rfl,rfl,rfl,rfl⟩

theorem eval_text (x:Nd) (ho:x.op=2) (b off n c i:Nat) (hin:i<n) (hn:n≤1048576) (an:Option Addr) (nn cn:Nat) (ak:Option Addr) (nk ck:Nat) (R:Rq) (a1:Option Addr) (n1 c1:Nat) (a2:Option Addr) (n2 c2:Nat) (la:Option Addr) (ln lc:Nat) (w:World) (hb:b<w.heap.size) (hx:NdC w b (off+i*5) x an nn cn ak nk ck) :
  Calls Tryz.prog 49 #[.slice (some ⟨b,off,none⟩) n c,.int .i64 i,.agg #[.string R.cl,.string R.us,.int .i64 R.lv,.int .i64 R.nw,.slice a1 n1 c1,.slice a2 n2 c2],.slice la ln lc] w (MAns (.ok (.text x.text)) w):=by
 have B2:=((Below.refl w.heap.size w).alloc nl (.cells #[.string R.cl,.string R.us,.int .i64 R.lv,.int .i64 R.nw,.slice a1 n1 c1,.slice a2 n2 c2] 40)).alloc (by simp) (.cells #[.int .i64 0,.int .i64 0,.string ⟨#[]⟩,.slice none 0 0] 96)
 obtain ⟨d0,d1,d2,d3,d4⟩:=hx.below B2 hb
 have iin:(i:Int)<(n:Int):=by omega
 rw [ho] at d0
 clear ho hx
 go_enter Tryz.func49,Tryz.ntmps49
 go_wp2_with fail
 refine bodyPost_ret (v:=.agg #[.int .i64 0,.int .i64 0,.string x.text,.slice none 0 0]) (by simp [results,Tryz.results49,go_sem]) rfl ⟨⟨_,_,_,_,_,_,rfl,rfl,?_⟩,(((Below.refl w.heap.size w).alloc nl _).alloc (by simp) _).alloc (by simp;omega) _⟩
 exact ⟨rfl,rfl,rfl,rfl,rfl⟩

theorem eval_set (x:Nd) (ho:x.op=4) (hl:x.names.length≤1048576) (b off n c i:Nat) (hin:i<n) (hn:n≤1048576) (an:Option Addr) (nn cn:Nat) (ak:Option Addr) (nk ck:Nat) (R:Rq) (a1:Option Addr) (n1 c1:Nat) (a2:Option Addr) (n2 c2:Nat) (la:Option Addr) (ln lc:Nat) (w:World) (hb:b<w.heap.size) (hx:NdC w b (off+i*5) x an nn cn ak nk ck) (hS:Strs w an nn cn x.names) (hc:ZS w an cn) :
  Calls Tryz.prog 49 #[.slice (some ⟨b,off,none⟩) n c,.int .i64 i,.agg #[.string R.cl,.string R.us,.int .i64 R.lv,.int .i64 R.nw,.slice a1 n1 c1,.slice a2 n2 c2],.slice la ln lc] w (MAns (.ok (.set x.names)) w):=by
 have B2:=((Below.refl w.heap.size w).alloc nl (.cells #[.string R.cl,.string R.us,.int .i64 R.lv,.int .i64 R.nw,.slice a1 n1 c1,.slice a2 n2 c2] 40)).alloc (by simp) (.cells #[.int .i64 0,.int .i64 0,.string ⟨#[]⟩,.slice none 0 0] 96)
 obtain ⟨d0,d1,d2,d3,d4⟩:=hx.below B2 hb
 have iin:(i:Int)<(n:Int):=by omega
 rw [ho] at d0
 clear ho hx
 go_enter Tryz.func49,Tryz.ntmps49
 go_wp2_with fail
 refine bodyPost_ret (v:=.agg #[.int .i64 0,.int .i64 0,.string ⟨#[]⟩,.slice an nn cn]) (by simp [results,Tryz.results49,go_sem]) rfl ⟨⟨_,_,_,_,_,_,rfl,rfl,?_⟩,(((Below.refl w.heap.size w).alloc nl _).alloc (by simp) _).alloc (by simp;omega) _⟩
 exact ⟨rfl,rfl,hS.below ((((Below.refl w.heap.size w).alloc nl _).alloc (by simp) _).alloc (by simp;omega) _) nl,hl,hc.below ((((Below.refl w.heap.size w).alloc nl _).alloc (by simp) _).alloc (by simp;omega) _) nl⟩

end Go.Proofs.YtedlocniojlhfaaGreatDoor

namespace Go.Proofs.YtedlocniojlhfaaGreatDoor
set_option maxRecDepth 100000
set_option maxHeartbeats 6400000
open Go.RowKit
set_option linter.unusedVariables false

variable {aS aO aZ aW:Addr} {G:Nat→Prop}

def VAns (G:Nat→Prop) (aS aO aZ aW:Addr) (o:Ev) (w:World) (r:Ending) (w':World):Prop :=
 (match o with
  | .ok v=>∃ x,r=.returned (.tuple #[x,.nilIface])∧VIs G w' x v
  | .err c=>∃ x e,r=.returned (.tuple #[x,e])∧ErrIs aS aO aZ aW w' e c)∧Below w.heap.size w w'

theorem VAns.form {o:Ev} {w w':World} {r:Ending} (h:VAns G aS aO aZ aW o w r w'):∃ x e,r=.returned (.tuple #[x,e])∧VAns G aS aO aZ aW o w (.returned (.tuple #[x,e])) w':=by
 obtain ⟨h1,h2⟩:=h
 cases o with
 | ok v=>obtain ⟨x,rfl,h3⟩:=h1;exact ⟨_,_,rfl,⟨_,rfl,h3⟩,h2⟩
 | err c=>obtain ⟨x,e,rfl,h3⟩:=h1;exact ⟨_,_,rfl,⟨_,_,rfl,h3⟩,h2⟩

theorem VAns.back {o:Ev} {w w1 w':World} {r:Ending} (h:VAns G aS aO aZ aW o w1 r w') (hb:Below w.heap.size w w1):VAns G aS aO aZ aW o w r w':=⟨h.1,hb.trans (h.2.mono hb.size)⟩

theorem ErrIs.form {w:World} {v:Value} {c:Int} (h:ErrIs aS aO aZ aW w v c):∃ u,v=.iface 202 u:=by
 obtain ⟨_,pb,at_,a,h2,_⟩:=h
 exact ⟨_,h2⟩

def Stays (P:World→Prop):Prop:=∀ W W',P W→Below W.heap.size W W'→P W'

def VC (G:Nat→Prop) (aS aO aZ aW:Addr) (eb:Nat) (P:World→Prop) (x:Value) (o:Ev):Prop:=∀ W,P W→Calls Tryz.prog 60 #[.pointer (some ⟨eb,0,none⟩),x] W (VAns G aS aO aZ aW o W)

def thenUn (op:Int) (o:Ev):Ev:=match o with
 | .ok v=>evUn op v
 | .err c=>.err c

theorem unary_any (eb:Nat) (P:World→Prop) (hP:Stays P) (hS:∀ W,P W→Sent W aS aO aZ aW) (i op:Int) (t1:TypeId) (u1:Value) (o1:Ev) (V1:Hid (VC G aS aO aZ aW eb P (.iface t1 u1) o1)) (ht:∀ v,o1=.ok v→∃ t,nz (tyOp op [v.ty])=some t) (W:World) (hW:P W) :
  Calls Tryz.prog 87 #[.pointer (some ⟨eb,0,none⟩),.agg #[.int .i64 i,.int .i64 op,.iface t1 u1]] W (VAns G aS aO aZ aW (thenUn op o1) W):=by
 have R0:=Row.new W #[.int .i64 i,.int .i64 op,.iface t1 u1] 163
 have B0:=(Below.refl W.heap.size W).alloc nl (.cells #[.int .i64 i,.int .i64 op,.iface t1 u1] 163)
 have P0:=hP W _ hW B0
 have HT:=hide ht
 have HP:=hide hP
 have HS:=hide hS
 clear ht hP hS
 go_enter Tryz.func87,Tryz.ntmps87
 go_wp2_with fail
 refine (uh V1 _ P0).mono ?_
 rintro r w1 ⟨hr,hb1⟩
 have B1:=B0.trans (hb1.mono B0.size)
 have R1:=R0.after hb1 nl
 have c0:w1.cell? ⟨W.heap.size,0,none⟩=some (.int .i64 i):=R1.cell 0
 have c1:w1.cell? ⟨W.heap.size,1,none⟩=some (.int .i64 op):=R1.cell 1
 have P1:=uh HP _ _ P0 hb1
 cases o1 with
 | err c =>
  obtain ⟨x,e,rfl,hE⟩:=hr
  obtain ⟨ue,rfl⟩:=hE.form
  dsimp only
  go_wp2_with fail
  exact bodyPost_ret (v:=.tuple #[.nilIface,.iface 202 ue]) (by simp [results,Tryz.results87,go_sem]) rfl ⟨⟨_,_,rfl,hE⟩,B1⟩
 | ok v =>
  obtain ⟨x,rfl,hv⟩:=hr
  obtain ⟨tt,htt⟩:=uh HT v rfl
  have HC:=hide (one_any op x v tt w1 (uh HS _ P1) hv htt)
  obtain ⟨tx,ux,rfl⟩:=hv.form
  clear hv htt
  dsimp only
  go_wp2_with fail
  refine (uh HC).mono ?_
  rintro r w2 ⟨hr,hb2⟩
  have B2:=B1.trans (hb2.mono B1.size)
  have R2:=R1.after hb2 nl
  have d0:w2.cell? ⟨W.heap.size,0,none⟩=some (.int .i64 i):=R2.cell 0
  generalize he:evUn op v=o2 at hr
  have HE:=hide (show thenUn op (.ok v)=o2 from he)
  clear he HC
  cases o2 with
  | ok z =>
   obtain ⟨y,rfl,hz⟩:=hr
   obtain ⟨ty,uy,rfl⟩:=hz.form
   dsimp only
   go_wp2_with fail
   refine bodyPost_ret (v:=.tuple #[.iface ty uy,.nilIface]) (by simp [results,Tryz.results87,go_sem]) rfl ?_
   rw [uh HE]
   exact ⟨⟨_,rfl,hz⟩,B2⟩
  | err c =>
   obtain ⟨y,rfl,hc1,hc2⟩:=hr
   obtain ⟨q,hq⟩:=errV_form (aS:=aS) (aO:=aO) (aZ:=aZ) (aW:=aW) (c:=c) ⟨hc1,hc2⟩
   have HQ:=hide (And.intro (And.intro hc1 hc2) hq)
   rw [hq]
   clear hq hc1 hc2
   dsimp only
   go_wp2_with fail
   refine (faultAtP i q _).mono ?_
   rintro r w3 ⟨⟨pb,rfl,hpl⟩,hb3⟩
   dsimp only
   go_wp2_with fail
   refine bodyPost_ret (v:=.tuple #[.nilIface,.iface 202 (.pointer (some ⟨pb,0,none⟩))]) (by simp [results,Tryz.results87,go_sem]) rfl ?_
   rw [uh HE]
   exact ⟨⟨_,_,rfl,(uh HQ).1,pb,i,q,rfl,hpl,(uh HQ).2⟩,B2.trans (hb3.mono B2.size)⟩

noncomputable def binO (op:Int) (o1 o2:Ev):Ev:=match o1 with
 | .ok v=>if dec1 op v then .ok v else match o2 with
  | .ok u=>if op=25∨op=26 then .ok u else evBin op v u
  | .err c=>.err c
 | .err c=>.err c

theorem binO_yes {op:Int} {v:Vv} {o2:Ev} (h:dec1 op v=true):binO op (.ok v) o2=.ok v:=if_pos h
theorem binO_no {op:Int} {v:Vv} {o2:Ev} (h:dec1 op v=false):binO op (.ok v) o2=(match o2 with | .ok u=>if op=25∨op=26 then .ok u else evBin op v u | .err c=>.err c):=if_neg (by rw [h];decide)

theorem binary_any (eb:Nat) (P:World→Prop) (hP:Stays P) (hS:∀ W,P W→Sent W aS aO aZ aW) (hG:∀ W,P W→∀ b,W.heap.size≤b→G b) (i op:Int) (t1:TypeId) (u1:Value) (t2:TypeId) (u2:Value) (o1 o2:Ev) (V1:Hid (VC G aS aO aZ aW eb P (.iface t1 u1) o1)) (V2:Hid (VC G aS aO aZ aW eb P (.iface t2 u2) o2)) (ht1:∀ v,o1=.ok v→op=25∨op=26→v.ty=1) (ht:∀ v u,o1=.ok v→o2=.ok u→∃ t,nz (tyOp op [v.ty,u.ty])=some t) (W:World) (hW:P W) :
  Calls Tryz.prog 88 #[.pointer (some ⟨eb,0,none⟩),.agg #[.int .i64 i,.int .i64 op,.iface t1 u1,.iface t2 u2]] W (VAns G aS aO aZ aW (binO op o1 o2) W):=by
 have R0:=Row.new W #[.int .i64 i,.int .i64 op,.iface t1 u1,.iface t2 u2] 166
 have B0:=(Below.refl W.heap.size W).alloc nl (.cells #[.int .i64 i,.int .i64 op,.iface t1 u1,.iface t2 u2] 166)
 have P0:=hP W _ hW B0
 have HT:=hide ht
 have HT1:=hide ht1
 have HP:=hide hP
 have HS:=hide hS
 clear ht ht1 hP hS
 go_enter Tryz.func88,Tryz.ntmps88
 go_wp2_with fail
 refine (uh V1 _ P0).mono ?_
 rintro r w1 ⟨hr,hb1⟩
 have B1:=B0.trans (hb1.mono B0.size)
 have R1:=R0.after hb1 nl
 have c0:w1.cell? ⟨W.heap.size,0,none⟩=some (.int .i64 i):=R1.cell 0
 have c1:w1.cell? ⟨W.heap.size,1,none⟩=some (.int .i64 op):=R1.cell 1
 have c3:w1.cell? ⟨W.heap.size,3,none⟩=some (.iface t2 u2):=R1.cell 3
 have P1:=uh HP _ _ P0 hb1
 cases o1 with
 | err c =>
  obtain ⟨x,e,rfl,hE⟩:=hr
  obtain ⟨ue,rfl⟩:=hE.form
  dsimp only
  go_wp2_with fail
  exact bodyPost_ret (v:=.tuple #[x,.iface 202 ue]) (by simp [results,Tryz.results88,go_sem]) rfl ⟨⟨_,_,rfl,hE⟩,B1⟩
 | ok v =>
  obtain ⟨x,rfl,hv⟩:=hr
  have HD:=hide (decided_any op x v w1 hv (uh HT1 v rfl))
  have HTV:=hide (uh HT v)
  clear HT HT1
  obtain ⟨tx,ux,hxf⟩:=hv.form
  subst hxf
  have HV:=hide hv
  clear hv
  generalize hd:dec1 op v=dv at HD
  have HDV:=hide hd
  clear hd
  dsimp only
  go_wp2_with fail
  refine (uh HD).mono ?_
  rintro r w2 ⟨rfl,hw2⟩
  rw [hw2]
  clear hw2 HD
  cases dv with
  | true =>
   dsimp only
   go_wp2_with fail
   refine bodyPost_ret (v:=.tuple #[.iface tx ux,.nilIface]) (by simp [results,Tryz.results88,go_sem]) rfl ?_
   rw [binO_yes (uh HDV)]
   exact ⟨⟨_,rfl,uh HV⟩,B1⟩
  | false =>
   have HBO:=hide (binO_no (o2:=o2) (uh HDV))
   dsimp only
   go_wp2_with fail
   refine (uh V2 _ P1).mono ?_
   rintro r w3 ⟨hr,hb3⟩
   have B3:=B1.trans (hb3.mono B1.size)
   have R3:=R1.after hb3 nl
   have d0:w3.cell? ⟨W.heap.size,0,none⟩=some (.int .i64 i):=R3.cell 0
   have d1:w3.cell? ⟨W.heap.size,1,none⟩=some (.int .i64 op):=R3.cell 1
   have P3:=uh HP _ _ P1 hb3
   have HV3:=hide ((uh HV).below hb3 nl)
   cases o2 with
   | err c =>
    obtain ⟨y,e,rfl,hE⟩:=hr
    obtain ⟨ue,rfl⟩:=hE.form
    dsimp only
    go_wp2_with fail
    refine bodyPost_ret (v:=.tuple #[y,.iface 202 ue]) (by simp [results,Tryz.results88,go_sem]) rfl ?_
    rw [uh HBO]
    exact ⟨⟨_,_,rfl,hE⟩,B3⟩
   | ok u =>
    obtain ⟨y,rfl,hu⟩:=hr
    obtain ⟨ty,uy,hyf⟩:=hu.form
    subst hyf
    by_cases hc:op=25∨op=26
    ·have HBB:=hide ((uh HBO).trans (if_pos hc))
     have HU:=hide hu
     clear hu
     rcases hc with rfl | rfl
     all_goals
      dsimp only
      go_wp2_with fail
      refine bodyPost_ret (v:=.tuple #[.iface ty uy,.nilIface]) (by simp [results,Tryz.results88,go_sem]) rfl ?_
      rw [uh HBB]
      exact ⟨⟨_,rfl,uh HU⟩,B3⟩
    ·have HBB:=hide ((uh HBO).trans (if_neg hc))
     have e25:(op == 25)=false:=beq_eq_false_iff_ne.2 (fun e=>hc (.inl e))
     have e26:(op == 26)=false:=beq_eq_false_iff_ne.2 (fun e=>hc (.inr e))
     obtain ⟨tt,htt⟩:=uh HTV u (by first | rfl | trivial) (by first | rfl | trivial)
     have HC:=hide (two_any op (.iface tx ux) (.iface ty uy) v u tt w3 (uh HS _ P3) (uh HV3) hu htt ⟨fun e=>hc (.inl e),fun e=>hc (.inr e)⟩ (hG _ P3))
     clear hc hu htt
     dsimp only
     go_wp2_with fail
     refine (uh HC).mono ?_
     rintro r w4 ⟨hr,hb4⟩
     have B4:=B3.trans (hb4.mono B3.size)
     have R4:=R3.after hb4 nl
     have f0:w4.cell? ⟨W.heap.size,0,none⟩=some (.int .i64 i):=R4.cell 0
     generalize he:evBin op v u=o3 at hr
     have HE:=hide ((uh HBB).trans he)
     clear he HC
     cases o3 with
     | ok z =>
      obtain ⟨q,rfl,hz⟩:=hr
      obtain ⟨tz,uz,rfl⟩:=hz.form
      dsimp only
      go_wp2_with fail
      refine bodyPost_ret (v:=.tuple #[.iface tz uz,.nilIface]) (by simp [results,Tryz.results88,go_sem]) rfl ?_
      rw [uh HE]
      exact ⟨⟨_,rfl,hz⟩,B4⟩
     | err c =>
      obtain ⟨x9,rfl,hc1,hc2⟩:=hr
      obtain ⟨q,hq⟩:=errV_form (aS:=aS) (aO:=aO) (aZ:=aZ) (aW:=aW) (c:=c) ⟨hc1,hc2⟩
      have HQ:=hide (And.intro (And.intro hc1 hc2) hq)
      rw [hq]
      clear hq hc1 hc2
      dsimp only
      go_wp2_with fail
      refine (faultAtP i q _).mono ?_
      rintro r w5 ⟨⟨pb,rfl,hpl⟩,hb5⟩
      dsimp only
      go_wp2_with fail
      refine bodyPost_ret (v:=.tuple #[.nilIface,.iface 202 (.pointer (some ⟨pb,0,none⟩))]) (by simp [results,Tryz.results88,go_sem]) rfl ?_
      rw [uh HE]
      exact ⟨⟨_,_,rfl,(uh HQ).1,pb,i,q,rfl,hpl,(uh HQ).2⟩,B4.trans (hb5.mono B4.size)⟩

noncomputable def iteO (o1 o2 o3:Ev):Ev:=match o1 with
 | .ok (.bool b)=>if b then o2 else o3
 | .ok _=>.err 4
 | .err c=>.err c

theorem choice_any (eb:Nat) (P:World→Prop) (hP:Stays P) (i:Int) (t1:TypeId) (u1:Value) (t2:TypeId) (u2:Value) (t3:TypeId) (u3:Value) (o1 o2 o3:Ev) (V1:Hid (VC G aS aO aZ aW eb P (.iface t1 u1) o1)) (V2:Hid (VC G aS aO aZ aW eb P (.iface t2 u2) o2)) (V3:Hid (VC G aS aO aZ aW eb P (.iface t3 u3) o3)) (ht:∀ v,o1=.ok v→v.ty=1) (W:World) (hW:P W) :
  Calls Tryz.prog 89 #[.pointer (some ⟨eb,0,none⟩),.agg #[.int .i64 i,.iface t1 u1,.iface t2 u2,.iface t3 u3]] W (VAns G aS aO aZ aW (iteO o1 o2 o3) W):=by
 have R0:=Row.new W #[.int .i64 i,.iface t1 u1,.iface t2 u2,.iface t3 u3] 169
 have B0:=(Below.refl W.heap.size W).alloc nl (.cells #[.int .i64 i,.iface t1 u1,.iface t2 u2,.iface t3 u3] 169)
 have P0:=hP W _ hW B0
 have HT:=hide ht
 have HP:=hide hP
 have tmb:=tm_bool
 clear ht hP
 go_enter Tryz.func89,Tryz.ntmps89
 go_wp2_with fail
 refine (uh V1 _ P0).mono ?_
 rintro r w1 ⟨hr,hb1⟩
 have B1:=B0.trans (hb1.mono B0.size)
 have R1:=R0.after hb1 nl
 have c2:w1.cell? ⟨W.heap.size,2,none⟩=some (.iface t2 u2):=R1.cell 2
 have c3:w1.cell? ⟨W.heap.size,3,none⟩=some (.iface t3 u3):=R1.cell 3
 have P1:=uh HP _ _ P0 hb1
 cases o1 with
 | err c =>
  obtain ⟨x,e,rfl,hE⟩:=hr
  obtain ⟨ue,rfl⟩:=hE.form
  dsimp only
  go_wp2_with fail
  exact bodyPost_ret (v:=.tuple #[.nilIface,.iface 202 ue]) (by simp [results,Tryz.results89,go_sem]) rfl ⟨⟨_,_,rfl,hE⟩,B1⟩
 | ok v =>
  obtain ⟨x,rfl,hv⟩:=hr
  obtain ⟨b,rfl⟩:=Vv.bool_of (uh HT v rfl)
  obtain rfl:x=.iface 119 (.bool b):=hv
  clear HT
  cases b with
  | true =>
   dsimp only
   go_wp2_with fail
   refine (uh V2 _ P1).mono ?_
   intro r w2 hr
   obtain ⟨x2,e2,rfl,hA⟩:=hr.form
   have HA:=hide hA
   clear hA hr
   dsimp only
   go_wp2_with fail
   exact bodyPost_ret (v:=.tuple #[x2,e2]) (by simp [results,Tryz.results89,go_sem]) rfl ((uh HA).back B1)
  | false =>
   dsimp only
   go_wp2_with fail
   refine (uh V3 _ P1).mono ?_
   intro r w2 hr
   obtain ⟨x2,e2,rfl,hA⟩:=hr.form
   have HA:=hide hA
   clear hA hr
   dsimp only
   go_wp2_with fail
   exact bodyPost_ret (v:=.tuple #[x2,e2]) (by simp [results,Tryz.results89,go_sem]) rfl ((uh HA).back B1)

end Go.Proofs.YtedlocniojlhfaaGreatDoor

namespace Go.Proofs.YtedlocniojlhfaaGreatDoor
set_option maxRecDepth 100000
set_option maxHeartbeats 1600000
open Go.RowKit
set_option linter.unusedVariables false

theorem l3node_attr (a:Option Addr) (n c:Nat) (N:List Nd) (lb:Nat) (w:World) (hN:Nds w a n c N) (i:Nat) (x:Nd) (hx:N[i]?=some x) (hop:x.op=6) :
  Calls Tryz.prog 99 #[.slice a n c,.int .i64 i,.pointer (some ⟨lb,0,none⟩)] w (NdAns (some (attrTy x.num)) w):=by
 have hnN:=hN.small
 have hlen:=hN.len
 have hi:i<N.length:=(List.getElem?_eq_some_iff.1 hx).1
 have hxe:N[i]=x:=(List.getElem?_eq_some_iff.1 hx).2
 have iin:(i:Int)<(n:Int):=by omega
 obtain ⟨b,off,rfl,hbl,an,nn,cn,ak,nk,ck,c0,c1,c2,c3,c4,hNm,hKd⟩:=hN.cells i hi
 rw [hxe] at c0 c1 c2 hKd
 rw [hop] at c0
 clear hNm hKd
 clear hlen hx hxe hi hop hN
 have B0:=(Below.refl w.heap.size w).alloc nl (.cells #[.int .i64 6,.int .i64 x.num,.string x.text,.slice an nn cn,.slice ak nk ck] 98)
 generalize x.num=nu at *
 generalize x.text=tx at *
 go_enter Tryz.func99,Tryz.ntmps99
 go_wp2_with fail
 refine (l3attrType_any nu _).mono ?_
 rintro r w2 ⟨rfl,rfl⟩
 dsimp only
 go_wp2_with fail
 exact bodyPost_ret (v:=.tuple #[.int .i64 (attrTy nu),.int .i64 0]) (by simp [results,Tryz.results99,go_sem]) rfl ⟨⟨_,_,rfl,.inl ⟨rfl,rfl⟩⟩,B0⟩

theorem l3node_lett (a:Option Addr) (n c:Nat) (N:List Nd) (lb:Nat) (w:World) (hN:Nds w a n c N) (i:Nat) (x:Nd) (hx:N[i]?=some x) (hop:x.op=7) (h0:0≤x.num) (la:Option Addr) (ln lc:Nat) (ts:List Int)
  (hlc:w.cell? ⟨lb,1,none⟩=some (.slice la ln lc)) (hlb:lb<w.heap.size) (hts:Ints w la ln lc ts) :
  Calls Tryz.prog 99 #[.slice a n c,.int .i64 i,.pointer (some ⟨lb,0,none⟩)] w (NdAns ts[x.num.toNat]? w):=by
 have hnN:=hN.small
 have hlen:=hN.len
 have hi:i<N.length:=(List.getElem?_eq_some_iff.1 hx).1
 have hxe:N[i]=x:=(List.getElem?_eq_some_iff.1 hx).2
 have iin:(i:Int)<(n:Int):=by omega
 obtain ⟨b,off,rfl,hbl,an,nn,cn,ak,nk,ck,c0,c1,c2,c3,c4,hNm,hKd⟩:=hN.cells i hi
 rw [hxe] at c0 c1 c2 hKd
 rw [hop] at c0
 clear hNm hKd
 clear hlen hx hxe hi hop hN
 have hsl:=hts.small
 have htl:=hts.len
 generalize x.text=tx at *
 obtain ⟨nu,hnu⟩:∃ nu:Nat,x.num=nu:=⟨x.num.toNat,by omega⟩
 rw [hnu] at c1 ⊢
 rw [Int.toNat_natCast]
 have B0:=(Below.refl w.heap.size w).alloc nl (.cells #[.int .i64 7,.int .i64 nu,.string tx,.slice an nn cn,.slice ak nk ck] 98)
 have q1:=(B0.cell (p:=⟨lb,1,none⟩) hlb).trans hlc
 have T1:=hts.below B0 nl
 clear hnu h0
 by_cases hge:ln≤nu
 ·have ige:(ln:Int)≤(nu:Int):=by omega
  have HX:=hide (show ts[nu]?=none from List.getElem?_eq_none (by omega))
  clear hge htl
  go_enter Tryz.func99,Tryz.ntmps99
  go_wp2_with fail
  go_region
  all_goals
   go_wp2_with fail
   exact bodyPost_ret (v:=.tuple #[.int .i64 0,.int .i64 7]) (by simp [results,Tryz.results99,go_sem]) rfl ⟨⟨_,_,rfl,.inr ⟨by decide,uh HX⟩⟩,B0.drew⟩
 ·have ige:¬ ((ln:Int)≤(nu:Int)):=by omega
  have ilt:(nu:Int)<(ln:Int):=by omega
  have hlt:nu<ts.length:=by omega
  obtain ⟨bt,ot,rfl,hbt,ct⟩:=T1.cells nu hlt
  have HX:=hide (show ts[nu]?=some ts[nu] from List.getElem?_eq_getElem hlt)
  generalize ts[nu]=t at ct HX
  clear hge htl hlt
  go_enter Tryz.func99,Tryz.ntmps99
  go_wp2_with fail
  go_region
  all_goals
   go_wp2_with fail
   go_region
   all_goals
    go_wp2_with fail
    exact bodyPost_ret (v:=.tuple #[.int .i64 t,.int .i64 0]) (by simp [results,Tryz.results99,go_sem]) rfl ⟨⟨_,_,rfl,.inl ⟨rfl,uh HX⟩⟩,B0.drew.drew⟩

theorem rowL_len {x:Nd} (h:opOK x.op) (hk:(x.kids.length:Int)=kidN x.op):(rowL x.op).1.length≤x.kids.length:=by
 unfold opOK at h
 generalize x.op=op at *
 generalize x.kids.length=m at *
 by_cases h1:1≤op∧op≤7
 ·have:op=1∨op=2∨op=3∨op=4:=by omega
  rcases this with rfl | rfl | rfl | rfl <;> simp [rowL]
 by_cases h2:8≤op∧op≤10
 ·rw [kidN,if_neg h1,if_pos h2] at hk
  have:op=8∨op=9∨op=10:=by omega
  rcases this with rfl | rfl | rfl <;> simp [rowL] <;> omega
 by_cases h3:11≤op∧op≤26
 ·rw [kidN,if_neg h1,if_neg h2,if_pos h3] at hk
  have:op=11∨op=12∨op=13∨op=14∨op=15∨op=16∨op=17∨op=18∨op=19∨op=20∨op=21∨op=22∨op=23∨op=24∨op=25∨op=26:=by omega
  rcases this with rfl | rfl | rfl | rfl | rfl | rfl | rfl | rfl | rfl | rfl | rfl | rfl | rfl | rfl | rfl | rfl <;> simp [rowL] <;> omega
 ·have h4:op=27:=by omega
  rw [kidN,if_neg h1,if_neg h2,if_neg h3,if_pos h4] at hk
  subst h4
  simp [rowL]
  omega

theorem tyN_un {op:Int} (h:8≤op∧op≤10) (ts:List Int) (i:Int) (k:Ex):tyN op [tyE ts k]=tyE ts (.un i op k):=by
 rw [tyE]
 cases tyE ts k with
 | none=>rfl
 | some a=>show _=nz (tyOp op [a]);rw [← typeL_un op a h];rfl

theorem tyN_bin {op:Int} (h:11≤op∧op≤26) {ts:List Int} (hin:∀ t∈ts,1≤t∧t≤4) (i:Int) (k l:Ex):tyN op [tyE ts k,tyE ts l]=tyE ts (.bin i op k l):=by
 rw [tyE]
 have ha:=tyE_in hin k
 cases hk:tyE ts k with
 | none=>rfl
 | some a =>
  have:=ha a hk
  cases tyE ts l with
  | none=>rfl
  | some b=>show _=nz (tyOp op [a,b]);rw [← typeL_bin op a b h (by omega)];rfl

theorem tyN_ite {ts:List Int} (hin:∀ t∈ts,1≤t∧t≤4) (i:Int) (k l m:Ex):tyN 27 [tyE ts k,tyE ts l,tyE ts m]=tyE ts (.ite i k l m):=by
 rw [tyE]
 have hb:=tyE_in hin l
 cases hk:tyE ts k with
 | none=>rfl
 | some a =>
  cases hl:tyE ts l with
  | none=>rfl
  | some b =>
   have:=hb b hl
   cases tyE ts m with
   | none=>rfl
   | some c=>show _=nz (tyOp 27 [a,b,c]);rw [← typeL_ite a b c (by omega)];rfl

theorem l3node_any (a:Option Addr) (n c:Nat) (N:List Nd) (hU:∀ x∈N,fieldsU x=true) (lb:Nat) (la:Option Addr) (ln lc:Nat) (ts:List Int) (hin:∀ t∈ts,1≤t∧t≤4) {i:Nat} {e:Ex} (t:IsT N i e) :
  ∀ w,Nds w a n c N→w.cell? ⟨lb,1,none⟩=some (.slice la ln lc)→lb<w.heap.size→Ints w la ln lc ts →
  Calls Tryz.prog 99 #[.slice a n c,.int .i64 i,.pointer (some ⟨lb,0,none⟩)] w (NdAns (tyE ts e) w):=by
 have U:∀ {i:Nat} {x:Nd},N[i]?=some x→(x.kids.length:Int)=kidN x.op∧x.op≠5∧(x.op=7→0≤x.num):=fun {i x} hx=>by
  have h:=hU _ (List.mem_of_getElem? hx)
  have h2:=((fieldsU_iff x).1 h).2
  rw [fieldsU,Bool.and_eq_true,decide_eq_true_eq] at h
  refine ⟨h.1,fun e=>?_,fun e=>(h2 e).1⟩
  have:=h.2
  simp [e] at this
 have leaf:∀ {i:Nat} {x:Nd},N[i]?=some x→opOK x.op→x.kids=[]→∀ w,Nds w a n c N→Calls Tryz.prog 99 #[.slice a n c,.int .i64 i,.pointer (some ⟨lb,0,none⟩)] w (NdAns (tyN x.op []) w):=fun {i x} hx ho hk w h1 =>
  l3node_kids a n c N lb w h1 i x hx ho (rowL_len ho (U hx).1) [] (by rw [hk];rfl) (fun j h=>absurd h (by rw [hk];simp))
 have step:∀ {i:Nat} {x:Nd} {os:List (Option Int)},N[i]?=some x→opOK x.op→∀ w,Nds w a n c N→w.cell? ⟨lb,1,none⟩=some (.slice la ln lc)→lb<w.heap.size→Ints w la ln lc ts→os.length=x.kids.length →
   (∀ (j:Nat) (y:Int) (o:Option Int),x.kids[j]?=some y→os[j]?=some o→∀ W,Nds W a n c N→W.cell? ⟨lb,1,none⟩=some (.slice la ln lc)→lb<W.heap.size→Ints W la ln lc ts→Calls Tryz.prog 99 #[.slice a n c,.int .i64 y,.pointer (some ⟨lb,0,none⟩)] W (NdAns o W)) →
   Calls Tryz.prog 99 #[.slice a n c,.int .i64 i,.pointer (some ⟨lb,0,none⟩)] w (NdAns (tyN x.op os) w):=fun {i x os} hx ho w h1 h2 h3 h4 hl V =>
  l3node_kids a n c N lb w h1 i x hx ho (rowL_len ho (U hx).1) os hl (fun j h h' W hb=>V j _ _ (List.getElem?_eq_getElem h) (List.getElem?_eq_getElem h') W (h1.below hb nl) ((hb.cell (p:=⟨lb,1,none⟩) h3).trans h2) (Nat.lt_of_lt_of_le h3 hb.size) (h4.below hb nl))
 induction t with
 | int h ho hk=>intro w h1 _ _ _;have:=leaf h (by rw [ho];unfold opOK;omega) hk w h1;rw [ho] at this;exact this
 | text h ho hk=>intro w h1 _ _ _;have:=leaf h (by rw [ho];unfold opOK;omega) hk w h1;rw [ho] at this;exact this
 | bool h ho hk=>intro w h1 _ _ _;have:=leaf h (by rw [ho];unfold opOK;omega) hk w h1;rw [ho] at this;exact this
 | set h ho hk _ _ _=>intro w h1 _ _ _;have:=leaf h (by rw [ho];unfold opOK;omega) hk w h1;rw [ho] at this;exact this
 | name h ho hk=>exact absurd ho (U h).2.1
 | attr h ho hk=>intro w h1 _ _ _;exact l3node_attr a n c N lb w h1 _ _ h ho
 | @lett i x h ho hk =>
  intro w h1 h2 h3 h4
  have h0:=(U h).2.2 ho
  have:=l3node_lett a n c N lb w h1 _ _ h ho h0 la ln lc ts h2 h3 h4
  rw [tyE,if_pos h0]
  exact this
 | @un i k x e h ho hk hi t ih =>
  intro w h1 h2 h3 h4
  rw [← tyN_un ho]
  refine step h (by unfold opOK;omega) w h1 h2 h3 h4 (by rw [hk];rfl) (fun j y o hy hoj W=>?_)
  rw [hk] at hy
  match j with
  | 0=>cases hy;cases hoj;exact ih W
  | j+1=>simp at hy
 | @bin i k l x e f h ho hk hi t u ih1 ih2 =>
  intro w h1 h2 h3 h4
  rw [← tyN_bin ho hin]
  refine step h (by unfold opOK;omega) w h1 h2 h3 h4 (by rw [hk];rfl) (fun j y o hy hoj W=>?_)
  rw [hk] at hy
  match j with
  | 0=>cases hy;cases hoj;exact ih1 W
  | 1=>cases hy;cases hoj;exact ih2 W
  | j+2=>simp at hy
 | @ite i k l m x e f g h ho hk hi t u v ih1 ih2 ih3 =>
  intro w h1 h2 h3 h4
  rw [← tyN_ite hin,← ho]
  refine step h (by unfold opOK;omega) w h1 h2 h3 h4 (by rw [hk];rfl) (fun j y o hy hoj W=>?_)
  rw [hk] at hy
  match j with
  | 0=>cases hy;cases hoj;exact ih1 W
  | 1=>cases hy;cases hoj;exact ih2 W
  | 2=>cases hy;cases hoj;exact ih3 W
  | j+3=>simp at hy

end Go.Proofs.YtedlocniojlhfaaGreatDoor

namespace Go.Proofs.YtedlocniojlhfaaGreatDoor
set_option maxRecDepth 100000
set_option maxHeartbeats 3200000
open Go.RowKit
set_option linter.unusedVariables false

theorem Ints.keep {w w':World} {v v':Value} {a:Option Addr} {n c:Nat} {L:List Int} (h:Ints w a n c L) (k:Keep w v w' v') (ha:∀ x,a=some x→some x.block≠v.ownBlock):Ints w' a n c L :=
 ⟨h.len,h.small,fun j hj=>by
  obtain ⟨b,off,hb,hl,c0⟩:=h.cells j hj
  exact ⟨b,off,hb,Nat.lt_of_lt_of_le hl k.2.2,(World.cell?_of_block (w:=w) (k.1 b hl (ha _ hb))).trans c0⟩⟩

def nodeTy (Es:List Ex) (ts:List Int) (i:Nat):Option Int:=(Es[i]?).bind (tyE ts)

def TrAns (B:Nat) (tv:Value) (tt:List Int) (o:Option (List Int)) (w:World) (r:Ending) (w':World):Prop :=
 (∃ ys v',o=some ys∧r=.returned (.tuple #[v',.agg #[.int .i64 0,.int .i64 0]])∧w'.ownsRow B 3 1 v' (tt++ys).length (intsV (tt++ys))∧Keep w tv w' v'∧Below B w w') ∨
 (o=none∧(∃ v' code a,r=.returned (.tuple #[v',.agg #[.int .i64 code,.int .i64 a]])∧(v'=.slice none 0 0∨∃ x n c,v'=.slice x n c)∧code≠0)∧Below B w w')

theorem l3tree_any (a:Option Addr) (n c:Nat) (N:List Nd) (hU:∀ x∈N,fieldsU x=true) (w0:World) (hN:Nds w0 a n c N) (B:Nat) (hB:w0.heap.size≤B) (lb:Nat) (la:Option Addr) (ln lc:Nat) (ts:List Int) (hin:∀ t∈ts,1≤t∧t≤4) (Es:List Ex) (hEl:Es.length=n) (hE:∀ j,(h:j<Es.length)→IsT N j Es[j])
  (f m:Nat) (hfm:f+m≤n) (hf:1≤f+m) (hn:n≤4000) (tv:Value) (tt:List Int) (htt:tt.length≤4000) (w:World) (hw:Below w0.heap.size w0 w) (hBw:B≤w.heap.size) (h2:w.cell? ⟨lb,1,none⟩=some (.slice la ln lc)) (h3:lb<w.heap.size) (h4:Ints w la ln lc ts) (h5:some lb≠tv.ownBlock) (h6:∀ x,la=some x→some x.block≠tv.ownBlock) (O1:w.ownsRow B 3 1 tv tt.length (intsV tt)) :
  Calls Tryz.prog 70 #[.slice a n c,.int .i64 f,.int .i64 ((f+m:Nat) - 1:Int),.pointer (some ⟨lb,0,none⟩),tv] w (TrAns B tv tt (allO ((List.range' f m).map (nodeTy Es ts))) w):=by
 obtain ⟨ii,hii,ez0,ez1,ez2⟩:=info_parts infoI
 obtain ⟨xv,cv,rfl,_⟩:=owns_form2 O1
 have H0:∀ k,k<m→∀ W,Below w0.heap.size w0 W→W.cell? ⟨lb,1,none⟩=some (.slice la ln lc)→lb<W.heap.size→Ints W la ln lc ts→Calls Tryz.prog 99 #[.slice a n c,.int .i64 ((f+k:Nat):Int),.pointer (some ⟨lb,0,none⟩)] W (NdAns (nodeTy Es ts (f+k)) W):=fun k hk W q1 q2 q3 q4=>by
  have hlt:f+k<Es.length:=by omega
  rw [nodeTy,List.getElem?_eq_getElem hlt]
  exact l3node_any a n c N hU lb la ln lc ts hin (hE (f+k) hlt) W (hN.below q1 nl) q2 q3 q4
 have HV:=hide H0
 have Hw:=hide hw
 obtain ⟨os,hos⟩:∃ os,os=(List.range' f m).map (nodeTy Es ts):=⟨_,rfl⟩
 have HOS:=hide (show ∀ k,(h:k<m)→∃ h2:k<os.length,os[k]=nodeTy Es ts (f+k) from fun k h=>⟨by rw [hos];simpa using h,by simp [hos]⟩)
 have HOL:=hide (show os.length=m by rw [hos];simp)
 rw [← hos]
 have R0:=Row.new w #[.int .i64 0,.int .i64 0] 88
 have B0:=(Below.refl w.heap.size w).alloc nl (.cells #[.int .i64 0,.int .i64 0] 88)
 have O0:=O1.alloc (.cells #[.int .i64 0,.int .i64 0] 88)
 have z0:(w.alloc (.cells #[.int .i64 0,.int .i64 0] 88)).heap.size=w.heap.size+1:=by simp
 have q0:=(B0.cell (p:=⟨lb,1,none⟩) h3).trans h2
 have I0:=h4.below B0 nl
 have hlb0:lb<(w.alloc (.cells #[.int .i64 0,.int .i64 0] 88)).heap.size:=by omega
 have hown:some w.heap.size≠(Value.slice xv tt.length cv).ownBlock:=fun e=>by have:=(O1.lt _ e.symm).2;omega
 have KP0:∀ W v,Keep (w.alloc (.cells #[.int .i64 0,.int .i64 0] 88)) (.slice xv tt.length cv) W v→Keep w (.slice xv tt.length cv) W v:=fun W v k =>
  ⟨fun j h1 h2=>(k.1 j (by omega) h2).trans (Below.heap_alloc w _ j h1),fun q hq=>by rcases k.2.1 q hq with e | e;exact .inl e;right;omega,by have:=k.2.2;omega⟩
 have HKP:=hide KP0
 clear hos H0 hE hEl hw hN hU O1 h4 h2 hin KP0
 obtain ⟨tp,htp⟩:∃ tp:Int,tp=(f+m:Nat) - 1:=⟨_,rfl⟩
 rw [← htp]
 have HTP:=hide htp
 have HFM:=hide (show f+m≤4000 by omega)
 clear htp hfm hf
 go_enter Tryz.func70,Tryz.ntmps70
 go_wp2_with fail
 generalize w.alloc (.cells #[.int .i64 0,.int .i64 0] 88)=W1 at R0 B0 O0 z0 q0 I0 hlb0 HKP ⊢
 have Z0:=hide z0
 clear z0
 go_loopw [4,12] (fun v i wr=>∃ (j fj:Nat) (K TK:List Int),Hid (j≤m∧fj=f+j∧TK=tt++K)∧i=.int .i64 fj∧wr.ownsRow B 3 1 v TK.length (intsV TK)∧Hid (allO (os.take j)=some K)∧Below B W1 wr∧Keep W1 (.slice xv tt.length cv) wr v) (fun _ i _=>f+m - (intOf i).toNat)
 case atStart=>exact ⟨0,f,[],tt,hide ⟨Nat.zero_le _,rfl,by simp⟩,rfl,O0,hide rfl,Below.refl _ _,Keep.refl _ _⟩
 case round =>
  obtain ⟨j,fj,K,TK,HJ,rfl,Q1,HK,D1,KP⟩:=hrel
  have hql:TK.length≤8000:=by have h1:=allO_len (uh HK);have h2:=uh HJ;have h3:=uh HFM;rw [List.length_take] at h1;rw [h2.2.2,List.length_append];omega
  have E1:Below w0.heap.size w0 wr:=((uh Hw).trans (B0.mono (Nat.le_trans hB hBw))).trans (D1.mono hB)
  have zb:B≤wr.heap.size:=Nat.le_trans (by have:=uh Z0;omega) D1.size
  have R1:Row wr w.heap.size #[.int .i64 0,.int .i64 0] 88:=⟨(KP.1 _ R0.lt hown).trans R0.out⟩
  by_cases hjl:j<m
  ·have ijl:(fj:Int)≤tp:=by have:=uh HJ;have:=uh HTP;omega
   have q1:wr.cell? ⟨lb,1,none⟩=some (.slice la ln lc):=(World.cell?_of_block (w:=W1) (KP.1 lb hlb0 h5)).trans q0
   have lb1:=Nat.lt_of_lt_of_le hlb0 KP.2.2
   have I1:=I0.keep KP h6
   have HC:=hide (uh HV j hjl wr E1 q1 lb1 I1)
   obtain ⟨hjo,hoj⟩:=uh HOS j hjl
   have HS:=hide (show allO (os.take (j+1))=os[j].map (fun t=>K++[t]) by rw [List.take_succ_eq_append_getElem hjo];exact allO_snoc _ _ _ (uh HK))
   have HZ:=hide (show os[j]=none→allO os=none from fun e=>allO_none os (j+1) (by rw [uh HS,e];rfl))
   rw [hoj] at HS HZ
   have Hjl:=hide hjl
   have ij2:fj≤4000:=by have:=uh HJ;have:=uh HFM;omega
   generalize nodeTy Es ts (f+j)=oj at HC HS HZ hoj
   rw [← (uh HJ).2.1] at HC
   obtain ⟨yv,dv,rfl,_⟩:=owns_form2 Q1
   clear hjo hjl hoj I1
   go_wp2_with fail
   refine (uh HC).mono ?_
   rintro r w2 ⟨⟨ty,code,rfl,hr⟩,hb2⟩
   have D2:=D1.trans (hb2.mono zb)
   have Q2:=ownsRow_below Q1 hb2 nl
   have KB:Keep wr (.slice yv TK.length dv) w2 (.slice yv TK.length dv):=⟨fun k h _=>hb2.block k h,fun q h=>.inl h,hb2.size⟩
   have KP2:=KP.trans KB
   have R2:=R1.after hb2 nl
   have zb2:B≤w2.heap.size:=Nat.le_trans zb hb2.size
   rcases hr with ⟨rfl,rfl⟩ | ⟨hc,rfl⟩
   ·have HS2:=hide (show allO (os.take (j+1))=some (K++[ty]) from uh HS)
    clear HS HZ HC
    dsimp only
    go_wp2_with (at_builtin;refine wpList_append_lies _ rfl _ _ 24 rfl B 3 ii (.int .i64 0) 1 8 Tryz.underlying24 hii ez0 ez1 ez2 rfl (by decide) _ _ _ rfl (World.ownsRow.alloc Q2 _) ⟨w2.heap.size,0,none⟩ 1 1 [.int .i64 ty] rfl rfl ?c1 ?c2 (by decide) ?c3 ?c4 ?c5 (w2.heap.size+1) (by simp) ?_)
    case c1=>exact one_cell _ _ _ _ (by simp)
    case c2=>intro u hu;simp at hu;subst hu;rfl
    case c3=>unfold maxLen;omega
    case c4=>omega
    case c5=>simp;omega
    intro g cap w3 O3 hgrow hat hgl
    have KP3:=KP2.trans (keep_append (n:=TK.length+1) (c:=cap) hgrow hat)
    have D3:=(D2.alloc zb2 (.cells #[.int .i64 ty] 3)).grown hgrow (by simp;omega) (fun q hq=>(Q2.lt q hq).1)
    have O4:=owns_snoc O3
    clear hgrow hat O3
    go_wp2_with fail
    go_roundw
    case rel=>exact ⟨j+1,fj+1,K++[ty],TK++[ty],hide ⟨uh Hjl,by have:=uh HJ;omega,by rw [(uh HJ).2.2,List.append_assoc]⟩,by go_num,O4,HS2,D3,KP3⟩
    case measure=>have:=uh Hjl;have:=uh HJ;simp [intOf];omega
   ·have ec:(code != 0)=true:=bne_iff_ne.2 hc
    have HX:=hide (uh HZ rfl)
    have Hc:=hide hc
    clear hc HS HZ HC
    obtain ⟨p0,p1⟩:=row2 R2
    have f0:=fun j=>R2.frozen j
    have R3:=R2.set 0 (.int .i64 code)
    have f1:=fun j=>R3.frozen j
    dsimp only
    have R4:=R3.set 1 (.int .i64 fj)
    have s0:((w2.setCell ⟨w.heap.size,0,none⟩ (.int .i64 code)).setCell ⟨w.heap.size,1,none⟩ (.int .i64 fj)).cell? ⟨w.heap.size,0,none⟩=some (.int .i64 code):=R4.cell 0
    have s1:((w2.setCell ⟨w.heap.size,0,none⟩ (.int .i64 code)).setCell ⟨w.heap.size,1,none⟩ (.int .i64 fj)).cell? ⟨w.heap.size,1,none⟩=some (.int .i64 fj):=R4.cell 1
    go_wp2_with fail
    refine bodyPost_ret (v:=.tuple #[.slice yv TK.length dv,.agg #[.int .i64 code,.int .i64 fj]]) (by simp [results,Tryz.results70,go_sem,s0,s1]) rfl (.inr ⟨uh HX,⟨_,_,_,rfl,.inr ⟨_,_,_,rfl⟩,uh Hc⟩,?_⟩)
    exact (((B0.mono hBw).trans D2).setCell (p:=⟨w.heap.size,0,none⟩) hBw _).setCell (p:=⟨w.heap.size,1,none⟩) hBw _
  ·have e:j=m:=by have:=uh HJ;omega
   have ijl:¬ ((fj:Int)≤tp):=by have:=uh HJ;have:=uh HTP;omega
   subst e
   have HA:=hide (show allO os=some K by rw [← uh HK,List.take_of_length_le (by rw [uh HOL];exact nl)])
   obtain ⟨yv,dv,rfl,_⟩:=owns_form2 Q1
   obtain ⟨p0,p1⟩:=row2 R1
   have f0:=fun j=>R1.frozen j
   have R3:=R1.set 0 (.int .i64 0)
   have f1:=fun j=>R3.frozen j
   have R4:=R3.set 1 (.int .i64 0)
   have s0:((wr.setCell ⟨w.heap.size,0,none⟩ (.int .i64 0)).setCell ⟨w.heap.size,1,none⟩ (.int .i64 0)).cell? ⟨w.heap.size,0,none⟩=some (.int .i64 0):=R4.cell 0
   have s1:((wr.setCell ⟨w.heap.size,0,none⟩ (.int .i64 0)).setCell ⟨w.heap.size,1,none⟩ (.int .i64 0)).cell? ⟨w.heap.size,1,none⟩=some (.int .i64 0):=R4.cell 1
   have KP2:=uh HKP _ _ KP
   have hno:∀ q,(Value.slice yv TK.length dv).ownBlock=some q→q≠w.heap.size:=fun q hq e=>by
    subst e
    rcases KP.2.1 _ hq with e2 | e2
    ·exact hown e2.symm
    ·have:=R0.lt;omega
   go_wp2_with fail
   refine bodyPost_ret (v:=.tuple #[.slice yv TK.length dv,.agg #[.int .i64 0,.int .i64 0]]) (by simp [results,Tryz.results70,go_sem,s0,s1]) rfl (.inl ⟨K,_,uh HA,rfl,?_,?_,?_⟩)
   ·rw [← (uh HJ).2.2]
    exact own_set (own_set Q1 _ _ hno) _ _ hno
   ·exact ⟨fun k h1 h2=>((heap_setCell_other _ _ _ _ (by show k≠w.heap.size;omega)).trans (heap_setCell_other _ _ _ _ (by show k≠w.heap.size;omega))).trans (KP2.1 k h1 h2),KP2.2.1,by have:=KP2.2.2;simpa using this⟩
   ·exact (((B0.mono hBw).trans D1).setCell (p:=⟨w.heap.size,0,none⟩) hBw _).setCell (p:=⟨w.heap.size,1,none⟩) hBw _

end Go.Proofs.YtedlocniojlhfaaGreatDoor

namespace Go.Proofs.YtedlocniojlhfaaGreatDoor
open Go.RowKit
set_option linter.unusedVariables false

theorem own_apart {w:World} {B B' n n' size size':Nat} {e e':TypeId} {v v':Value} {xs xs':List Value} (h:w.ownsRow B e size v n xs) (h':w.ownsRow B' e' size' v' n' xs') (hne:e≠e'):∀ q,v.ownBlock=some q→v'.ownBlock≠some q:=fun q hq=>by
 rcases h.2 with ⟨hv,_⟩ | ⟨g,cap,cur,hv,_,hg,_⟩
 ·rw [hv] at hq;cases hq
 ·rw [hv] at hq
  obtain rfl:g=q:=by simpa [Value.ownBlock] using hq
  exact own_ne_row ⟨hg⟩ h' hne

structure Lm (B lb:Nat) (ns:List ByteArray) (ts tt:List Int) (nv lv tv:Value) (w:World):Prop where
 row:Row w lb #[nv,lv] 129
 names:w.ownsRow B 9 1 nv ns.length (ns.map Value.string)
 lets:w.ownsRow B 3 1 lv ts.length (intsV ts)
 types:w.ownsRow B 3 1 tv tt.length (intsV tt)
 low:lb<B
 apart:∀ q,lv.ownBlock=some q→tv.ownBlock≠some q

theorem Lm.below {B lb:Nat} {ns:List ByteArray} {ts tt:List Int} {nv lv tv:Value} {w w':World} (h:Lm B lb ns ts tt nv lv tv w) (hb:Below w.heap.size w w'):Lm B lb ns ts tt nv lv tv w' :=
 ⟨h.row.after hb nl,ownsRow_below h.names hb nl,ownsRow_below h.lets hb nl,ownsRow_below h.types hb nl,h.low,h.apart⟩

theorem Lm.tree {B lb:Nat} {ns:List ByteArray} {ts tt ys:List Int} {nv lv tv tv':Value} {w w':World} (h:Lm B lb ns ts tt nv lv tv w) (O:w'.ownsRow B 3 1 tv' (tt++ys).length (intsV (tt++ys))) (K:Keep w tv w' tv') (hb:Below B w w'):Lm B lb ns ts (tt++ys) nv lv tv' w':=by
 refine ⟨h.row.below hb h.low,owns_blocks2 h.names (fun q hq=>K.1 q (h.names.lt q hq).2 (fun e=>own_apart h.names h.types (by decide) q hq e.symm)),owns_blocks2 h.lets (fun q hq=>K.1 q (h.lets.lt q hq).2 (fun e=>h.apart q hq e.symm)),O,h.low,fun q hq e=>?_⟩
 rcases K.2.1 q e with e2 | e2
 ·exact h.apart q hq e2
 ·have:=(h.lets.lt q hq).2;omega

theorem Lm.set {B lb:Nat} {ns:List ByteArray} {ts tt:List Int} {nv lv tv:Value} {w:World} (h:Lm B lb ns ts tt nv lv tv w) (p:Addr) (u:Value) (h1:p.block<B) (h2:p.block≠lb):Lm B lb ns ts tt nv lv tv (w.setCell p u) :=
 ⟨h.row.setFar (fun e=>h2 e.symm) u,own_set3 h.names p u (fun q hq=>by have:=(h.names.lt q hq).1;omega),own_set3 h.lets p u (fun q hq=>by have:=(h.lets.lt q hq).1;omega),own_set3 h.types p u (fun q hq=>by have:=(h.types.lt q hq).1;omega),h.low,h.apart⟩

theorem Lm.pushN {B lb:Nat} {ns:List ByteArray} {ts tt:List Int} {nv lv tv:Value} {w w3:World} {o:Obj} {nm:ByteArray} {g cap:Nat} (h:Lm B lb ns ts tt nv lv tv w) (hB:B≤w.heap.size)
  (O3:w3.ownsRow B 9 1 (.slice (some ⟨g,0,none⟩) (ns.length+1) cap) (ns.length+1) (ns.map Value.string++[.string nm])) (hgrow:(w.alloc o).grownBy w3 nv.ownBlock) (hat:nv.ownBlock=some g∨g=w.heap.size+1) :
  Row w3 lb #[nv,lv] 129∧Lm B lb (ns++[nm]) ts tt (.slice (some ⟨g,0,none⟩) (ns.length+1) cap) lv tv (w3.setCell ⟨lb,0,none⟩ (.slice (some ⟨g,0,none⟩) (ns.length+1) cap)) ∧
  (∀ k,k<w.heap.size→k≠lb→some k≠nv.ownBlock→(w3.setCell ⟨lb,0,none⟩ (.slice (some ⟨g,0,none⟩) (ns.length+1) cap)).heap[k]?=w.heap[k]?)∧w.heap.size≤w3.heap.size:=by
 have n1:=own_ne_row h.row h.names (by decide)
 have n2:=own_ne_row h.row h.lets (by decide)
 have n3:=own_ne_row h.row h.types (by decide)
 have R3:=(h.row.alloc o).grown hgrow (fun e=>n1 e.symm)
 have n4:=own_ne_row R3 O3 (by decide)
 have ng:g≠lb:=fun e=>n4 (by rw [e];rfl)
 have za:(w.alloc o).heap.size=w.heap.size+1:=by simp
 have kb:∀ k,k<w.heap.size→k≠lb→some k≠nv.ownBlock→(w3.setCell ⟨lb,0,none⟩ (.slice (some ⟨g,0,none⟩) (ns.length+1) cap)).heap[k]?=w.heap[k]?:=fun k h1 h2 h3 =>
  (heap_setCell_other w3 ⟨lb,0,none⟩ k _ h2).trans ((hgrow.block k (by rw [za];omega) h3).trans (Below.heap_alloc w o k h1))
 have zz:w.heap.size≤w3.heap.size:=by have:=hgrow.size;omega
 refine ⟨R3,⟨R3.set 0 (.slice (some ⟨g,0,none⟩) (ns.length+1) cap),?_,owns_blocks2 h.lets (fun q hq=>kb q (h.lets.lt q hq).2 (fun e=>n2 (e ▸ hq)) (fun e=>own_apart h.names h.lets (by decide) q e.symm hq)),owns_blocks2 h.types (fun q hq=>kb q (h.types.lt q hq).2 (fun e=>n3 (e ▸ hq)) (fun e=>own_apart h.names h.types (by decide) q e.symm hq)),h.low,h.apart⟩,kb,zz⟩
 rw [List.map_append,List.length_append]
 refine own_set3 O3 ⟨lb,0,none⟩ _ (fun q hq=>?_)
 have:g=q:=by simpa [Value.ownBlock] using hq
 subst this
 exact ng

theorem Lm.pushL {B lb:Nat} {ns:List ByteArray} {ts tt:List Int} {nv lv tv:Value} {w w3:World} {o:Obj} {t:Int} {g cap:Nat} (h:Lm B lb ns ts tt nv lv tv w) (hB:B≤w.heap.size)
  (O3:w3.ownsRow B 3 1 (.slice (some ⟨g,0,none⟩) (ts.length+1) cap) (ts.length+1) (intsV ts++[.int .i64 t])) (hgrow:(w.alloc o).grownBy w3 lv.ownBlock) (hat:lv.ownBlock=some g∨g=w.heap.size+1) :
  Row w3 lb #[nv,lv] 129∧Lm B lb ns (ts++[t]) tt nv (.slice (some ⟨g,0,none⟩) (ts.length+1) cap) tv (w3.setCell ⟨lb,1,none⟩ (.slice (some ⟨g,0,none⟩) (ts.length+1) cap)) ∧
  (∀ k,k<w.heap.size→k≠lb→some k≠lv.ownBlock→(w3.setCell ⟨lb,1,none⟩ (.slice (some ⟨g,0,none⟩) (ts.length+1) cap)).heap[k]?=w.heap[k]?)∧w.heap.size≤w3.heap.size:=by
 have n1:=own_ne_row h.row h.names (by decide)
 have n2:=own_ne_row h.row h.lets (by decide)
 have n3:=own_ne_row h.row h.types (by decide)
 have R3:=(h.row.alloc o).grown hgrow (fun e=>n2 e.symm)
 have n4:=own_ne_row R3 O3 (by decide)
 have ng:g≠lb:=fun e=>n4 (by rw [e];rfl)
 have za:(w.alloc o).heap.size=w.heap.size+1:=by simp
 have kb:∀ k,k<w.heap.size→k≠lb→some k≠lv.ownBlock→(w3.setCell ⟨lb,1,none⟩ (.slice (some ⟨g,0,none⟩) (ts.length+1) cap)).heap[k]?=w.heap[k]?:=fun k h1 h2 h3 =>
  (heap_setCell_other w3 ⟨lb,1,none⟩ k _ h2).trans ((hgrow.block k (by rw [za];omega) h3).trans (Below.heap_alloc w o k h1))
 have zz:w.heap.size≤w3.heap.size:=by have:=hgrow.size;omega
 refine ⟨R3,⟨R3.set 1 (.slice (some ⟨g,0,none⟩) (ts.length+1) cap),owns_blocks2 h.names (fun q hq=>kb q (h.names.lt q hq).2 (fun e=>n1 (e ▸ hq)) (fun e=>own_apart h.names h.lets (by decide) q hq e.symm)),?_,owns_blocks2 h.types (fun q hq=>kb q (h.types.lt q hq).2 (fun e=>n3 (e ▸ hq)) (fun e=>h.apart q e.symm hq)),h.low,fun q hq e=>?_⟩,kb,zz⟩
 ·rw [intsV,List.map_append,List.length_append]
  refine own_set3 O3 ⟨lb,1,none⟩ _ (fun q hq=>?_)
  have:g=q:=by simpa [Value.ownBlock] using hq
  subst this
  exact ng
 ·have:g=q:=by simpa [Value.ownBlock] using hq
  subst this
  rcases hat with hat | hat
  ·exact h.apart g hat e
  ·have:=(h.types.lt g e).2;omega

structure Ls (B rb lb fb sb:Nat) (ns:List ByteArray) (ts tt:List Int) (nv lv tv:Value) (S:Array Value) (fc fa:Int) (w0 w:World):Prop where
 M:Lm B lb ns ts tt nv lv tv w
 F:Row w fb #[.int .i64 fc,.int .i64 fa] 88
 R:Row w rb #[.int .i64 0,.int .i64 0] 88
 S:Row w sb S 94
 low:Below rb w0 w
 ord:rb<lb∧lb<fb∧fb<B∧B≤sb

theorem Ls.below {B rb lb fb sb:Nat} {ns:List ByteArray} {ts tt:List Int} {nv lv tv:Value} {S:Array Value} {fc fa:Int} {w0 w w':World} (h:Ls B rb lb fb sb ns ts tt nv lv tv S fc fa w0 w) (hb:Below w.heap.size w w'):Ls B rb lb fb sb ns ts tt nv lv tv S fc fa w0 w' :=
 ⟨h.M.below hb,h.F.after hb nl,h.R.after hb nl,h.S.after hb nl,h.low.trans (hb.mono (by have:=h.R.lt;omega)),h.ord⟩

theorem Ls.tree {B rb lb fb sb:Nat} {ns:List ByteArray} {ts tt ys:List Int} {nv lv tv tv':Value} {S:Array Value} {fc fa:Int} {w0 w w':World} (h:Ls B rb lb fb sb ns ts tt nv lv tv S fc fa w0 w) (O:w'.ownsRow B 3 1 tv' (tt++ys).length (intsV (tt++ys))) (K:Keep w tv w' tv') (hb:Below B w w'):Ls B rb lb fb sb ns ts (tt++ys) nv lv tv' S fc fa w0 w' :=
 ⟨h.M.tree O K hb,h.F.below hb h.ord.2.2.1,h.R.below hb (by have:=h.ord;omega),⟨(K.1 sb h.S.lt (fun e=>own_ne_row h.S h.M.types (by decide) e.symm)).trans h.S.out⟩,h.low.trans (hb.mono (by have:=h.ord;omega)),h.ord⟩

theorem Ls.fault {B rb lb fb sb:Nat} {ns:List ByteArray} {ts tt:List Int} {nv lv tv:Value} {S:Array Value} {fc fa:Int} {w0 w:World} (h:Ls B rb lb fb sb ns ts tt nv lv tv S fc fa w0 w) (c a:Int):Ls B rb lb fb sb ns ts tt nv lv tv S c a w0 ((w.setCell ⟨fb,0,none⟩ (.int .i64 c)).setCell ⟨fb,1,none⟩ (.int .i64 a)):=by
 have o:=h.ord
 refine ⟨(h.M.set ⟨fb,0,none⟩ _ o.2.2.1 (by show fb≠lb;omega)).set ⟨fb,1,none⟩ _ o.2.2.1 (by show fb≠lb;omega),(h.F.set 0 _).set 1 _,(h.R.setFar (by show rb≠fb;omega) _).setFar (by show rb≠fb;omega) _,(h.S.setFar (by show sb≠fb;omega) _).setFar (by show sb≠fb;omega) _,?_,o⟩
 exact (h.low.setCell (p:=⟨fb,0,none⟩) (by show rb≤fb;omega) _).setCell (p:=⟨fb,1,none⟩) (by show rb≤fb;omega) _

theorem Ls.of_kept {B rb lb fb sb:Nat} {ns ns':List ByteArray} {ts tt ts':List Int} {nv lv tv nv' lv':Value} {S:Array Value} {fc fa:Int} {w0 w w':World} {e:TypeId} {size n:Nat} {xv:Value} {xs:List Value} (h:Ls B rb lb fb sb ns ts tt nv lv tv S fc fa w0 w) (hx:w.ownsRow B e size xv n xs) (h1:88≠e) (h2:94≠e)
  (M:Lm B lb ns' ts' tt nv' lv' tv w') (hk:∀ k,k<w.heap.size→k≠lb→some k≠xv.ownBlock→w'.heap[k]?=w.heap[k]?) (hb:Below rb w w'):Ls B rb lb fb sb ns' ts' tt nv' lv' tv S fc fa w0 w':=by
 have o:=h.ord
 exact ⟨M,⟨(hk fb h.F.lt (by omega) (fun q=>own_ne_row h.F hx h1 q.symm)).trans h.F.out⟩,⟨(hk rb h.R.lt (by omega) (fun q=>own_ne_row h.R hx h1 q.symm)).trans h.R.out⟩,⟨(hk sb h.S.lt (by omega) (fun q=>own_ne_row h.S hx h2 q.symm)).trans h.S.out⟩,h.low.trans hb,o⟩

end Go.Proofs.YtedlocniojlhfaaGreatDoor
