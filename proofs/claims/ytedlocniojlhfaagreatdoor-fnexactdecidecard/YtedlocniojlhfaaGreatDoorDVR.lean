/-
  The model's operators. Own work.
-/
import Derived.Test.YtedlocniojlhfaaGreatDoorMXAM
import Derived.Test.YtedlocniojlhfaaGreatDoorMXAN
import Derived.Test.YtedlocniojlhfaaGreatDoorMXAI
import Derived.Test.YtedlocniojlhfaaGreatDoorMXAO
namespace Go.Proofs.YtedlocniojlhfaaGreatDoor
set_option maxRecDepth 100000
set_option maxHeartbeats 6400000
open Go.RowKit
set_option linter.unusedVariables false

theorem row4V {w:World} {b:Nat} {v0 v1 v2 v3:Value} {t:TypeId} (R:Row w b #[v0,v1,v2,v3] t):w.cell? ⟨b,0,none⟩=some v0∧w.cell? ⟨b,1,none⟩=some v1∧w.cell? ⟨b,2,none⟩=some v2∧w.cell? ⟨b,3,none⟩=some v3:=⟨R.cell 0,R.cell 1,R.cell 2,R.cell 3⟩

theorem apply_neg (k:Int) (hi:I64 k) (g cap:Nat) (w:World) (e0:w.cell? ⟨g,0,none⟩=some (.int .i64 0)) (e1:w.cell? ⟨g,1,none⟩=some (.int .i64 k)) (e2:w.cell? ⟨g,2,none⟩=some (.string ⟨#[]⟩)) (e3:w.cell? ⟨g,3,none⟩=some (.slice none 0 0)) (hg:g<w.heap.size) :
  Calls Tryz.prog 74 #[.int .i64 8,.slice (some ⟨g,0,none⟩) 1 cap] w (MAns (evUn 8 (.int k)) w):=by
 have B0:=((((Below.refl w.heap.size w).alloc nl (.cells #[.int .i64 0,.int .i64 0,.string ⟨#[]⟩,.slice none 0 0] 96)).alloc (by simp) (.cells #[.int .i64 0,.int .i64 k,.string ⟨#[]⟩,.slice none 0 0] 96)).alloc (by simp;omega) (.cells #[.int .i64 0,.int .i64 k,.string ⟨#[]⟩,.slice none 0 0] 96))
 have R0:=((Row.new w #[.int .i64 0,.int .i64 0,.string ⟨#[]⟩,.slice none 0 0] 96).alloc (.cells #[.int .i64 0,.int .i64 k,.string ⟨#[]⟩,.slice none 0 0] 96)).alloc (.cells #[.int .i64 0,.int .i64 k,.string ⟨#[]⟩,.slice none 0 0] 96)
 have R1:=(Row.new (w.alloc (.cells #[.int .i64 0,.int .i64 0,.string ⟨#[]⟩,.slice none 0 0] 96)) #[.int .i64 0,.int .i64 k,.string ⟨#[]⟩,.slice none 0 0] 96).alloc (.cells #[.int .i64 0,.int .i64 k,.string ⟨#[]⟩,.slice none 0 0] 96)
 have R2:=Row.new ((w.alloc (.cells #[.int .i64 0,.int .i64 0,.string ⟨#[]⟩,.slice none 0 0] 96)).alloc (.cells #[.int .i64 0,.int .i64 k,.string ⟨#[]⟩,.slice none 0 0] 96)) #[.int .i64 0,.int .i64 k,.string ⟨#[]⟩,.slice none 0 0] 96
 simp only [World.size_alloc] at R1 R2

 have HC:=hide (fun (W:World)=>sCalc_any (w:=W) 2 (a:=0) (b:=k) ⟨by decide,by decide⟩ hi)
 have h2:=calcF_i64 2 0 k
 have HE:=hide (show evUn 8 (.int k)=ofCalc (calcF 2 0 k) from rfl)
 generalize calcF 2 0 k=p at HC h2 HE
 obtain ⟨z1,z2⟩:=p

 go_enter Tryz.func74,Tryz.ntmps74
 go_wp2_with fail

 refine (uh HC _).mono ?_
 rintro r w4 ⟨rfl,hb4⟩
 have R4:=R0.after hb4 nl
 have B4:=B0.trans (hb4.mono (by simp;omega))
 have HP:=hide h2
 clear h2

 obtain ⟨x0,x1,x2,x3⟩:=row4V R4
 have f0:=fun j=>R4.frozen j
 have Q1:=R4.set 0 (.int .i64 z2)
 have f1:=fun j=>Q1.frozen j
 have Q2:=Q1.set 1 (.int .i64 z1)
 have f2:=fun j=>Q2.frozen j
 have Q3:=Q2.set 2 (.string ⟨#[]⟩)
 have f3:=fun j=>Q3.frozen j
 have Q4:=Q3.set 3 (.slice none 0 0)
 obtain ⟨p0,p1,p2,p3⟩:=row4V Q4
 have BE:=(((B4.setCell (p:=⟨w.heap.size,0,none⟩) nl (.int .i64 z2)).setCell (p:=⟨w.heap.size,1,none⟩) nl (.int .i64 z1)).setCell (p:=⟨w.heap.size,2,none⟩) nl (.string ⟨#[]⟩)).setCell (p:=⟨w.heap.size,3,none⟩) nl (.slice none 0 0)
 dsimp only
 go_wp2_with fail
 refine bodyPost_ret (v:=.agg #[.int .i64 z2,.int .i64 z1,.string ⟨#[]⟩,.slice none 0 0]) (by simp [results,Tryz.results74,go_sem,p0,p1,p2,p3]) rfl ⟨⟨_,_,_,_,_,_,rfl,?_⟩,BE⟩
 rw [uh HE,ofCalc]
 by_cases h0:z2=0
 ·rw [if_pos h0]
  exact ⟨h0,⟨rfl,uh HP⟩,rfl,rfl,rfl,rfl⟩
 ·rw [if_neg h0]
  exact ⟨rfl,h0⟩

theorem apply_not (b:Bool) (g cap:Nat) (w:World) (e0:w.cell? ⟨g,0,none⟩=some (.int .i64 0)) (e1:w.cell? ⟨g,1,none⟩=some (.int .i64 (if b then 1 else 0))) (e2:w.cell? ⟨g,2,none⟩=some (.string ⟨#[]⟩)) (e3:w.cell? ⟨g,3,none⟩=some (.slice none 0 0)) (hg:g<w.heap.size) :
  Calls Tryz.prog 74 #[.int .i64 9,.slice (some ⟨g,0,none⟩) 1 cap] w (MAns (evUn 9 (.bool b)) w):=by
 cases b
 rotate_left
 ·have e1:w.cell? ⟨g,1,none⟩=some (.int .i64 1):=e1
  go_enter Tryz.func74,Tryz.ntmps74
  go_wp2_with fail
  refine bodyPost_ret (v:=.agg #[.int .i64 0,.int .i64 0,.string ⟨#[]⟩,.slice none 0 0]) (by simp [results,Tryz.results74,go_sem]) rfl ⟨⟨_,_,_,_,_,_,rfl,?_⟩,(((Below.refl w.heap.size w).alloc nl _).alloc (by simp) _).alloc (by simp;omega) _⟩
  exact ⟨rfl,rfl,rfl,rfl,rfl,rfl⟩
 ·have e1:w.cell? ⟨g,1,none⟩=some (.int .i64 0):=e1
  go_enter Tryz.func74,Tryz.ntmps74
  go_wp2_with fail
  refine bodyPost_ret (v:=.agg #[.int .i64 0,.int .i64 1,.string ⟨#[]⟩,.slice none 0 0]) (by simp [results,Tryz.results74,go_sem]) rfl ⟨⟨_,_,_,_,_,_,rfl,?_⟩,(((Below.refl w.heap.size w).alloc nl _).alloc (by simp) _).alloc (by simp;omega) _⟩
  exact ⟨rfl,rfl,rfl,rfl,rfl,rfl⟩

theorem apply_size (a:Option Addr) (n c:Nat) (ss:List ByteArray) (g cap:Nat) (w:World) (e0:w.cell? ⟨g,0,none⟩=some (.int .i64 0)) (e1:w.cell? ⟨g,1,none⟩=some (.int .i64 0)) (e2:w.cell? ⟨g,2,none⟩=some (.string ⟨#[]⟩)) (e3:w.cell? ⟨g,3,none⟩=some (.slice a n c)) (hS:Strs w a n c ss) (hg:g<w.heap.size) :
  Calls Tryz.prog 74 #[.int .i64 10,.slice (some ⟨g,0,none⟩) 1 cap] w (MAns (evUn 10 (.set ss)) w):=by
 have hl:=hS.len
 have hi:I64 (n:Int):=⟨by omega,by have:=hS.cap;have:=hS.small;unfold maxLen at this;omega⟩
 have HL:=hide hl
 clear hl hS
 go_enter Tryz.func74,Tryz.ntmps74
 go_wp2_with fail
 refine bodyPost_ret (v:=.agg #[.int .i64 0,.int .i64 n,.string ⟨#[]⟩,.slice none 0 0]) (by simp [results,Tryz.results74,go_sem]) rfl ⟨⟨_,_,_,_,_,_,rfl,?_⟩,(((Below.refl w.heap.size w).alloc nl _).alloc (by simp) _).alloc (by simp;omega) _⟩
 exact ⟨rfl,⟨by rw [uh HL],by rw [← uh HL];exact hi⟩,rfl,rfl,rfl,rfl⟩

theorem apply_num11 (k l:Int) (hi:I64 k) (hj:I64 l) (g cap:Nat) (w:World) (e0:w.cell? ⟨g,0,none⟩=some (.int .i64 0)) (e1:w.cell? ⟨g,1,none⟩=some (.int .i64 k)) (e2:w.cell? ⟨g,2,none⟩=some (.string ⟨#[]⟩)) (e3:w.cell? ⟨g,3,none⟩=some (.slice none 0 0)) (e4:w.cell? ⟨g,4,none⟩=some (.int .i64 0)) (e5:w.cell? ⟨g,5,none⟩=some (.int .i64 l)) (e6:w.cell? ⟨g,6,none⟩=some (.string ⟨#[]⟩)) (e7:w.cell? ⟨g,7,none⟩=some (.slice none 0 0)) (hg:g<w.heap.size) :
  Calls Tryz.prog 74 #[.int .i64 11,.slice (some ⟨g,0,none⟩) 2 cap] w (MAns (evBin 11 (.int k) (.int l)) w):=by
 have B0:=((((Below.refl w.heap.size w).alloc nl (.cells #[.int .i64 0,.int .i64 0,.string ⟨#[]⟩,.slice none 0 0] 96)).alloc (by simp) (.cells #[.int .i64 0,.int .i64 k,.string ⟨#[]⟩,.slice none 0 0] 96)).alloc (by simp;omega) (.cells #[.int .i64 0,.int .i64 l,.string ⟨#[]⟩,.slice none 0 0] 96))
 have R0:=((Row.new w #[.int .i64 0,.int .i64 0,.string ⟨#[]⟩,.slice none 0 0] 96).alloc (.cells #[.int .i64 0,.int .i64 k,.string ⟨#[]⟩,.slice none 0 0] 96)).alloc (.cells #[.int .i64 0,.int .i64 l,.string ⟨#[]⟩,.slice none 0 0] 96)
 have R1:=(Row.new (w.alloc (.cells #[.int .i64 0,.int .i64 0,.string ⟨#[]⟩,.slice none 0 0] 96)) #[.int .i64 0,.int .i64 k,.string ⟨#[]⟩,.slice none 0 0] 96).alloc (.cells #[.int .i64 0,.int .i64 l,.string ⟨#[]⟩,.slice none 0 0] 96)
 have R2:=Row.new ((w.alloc (.cells #[.int .i64 0,.int .i64 0,.string ⟨#[]⟩,.slice none 0 0] 96)).alloc (.cells #[.int .i64 0,.int .i64 k,.string ⟨#[]⟩,.slice none 0 0] 96)) #[.int .i64 0,.int .i64 l,.string ⟨#[]⟩,.slice none 0 0] 96
 simp only [World.size_alloc] at R1 R2

 have HC:=hide (fun (W:World)=>sCalc_any (w:=W) 1 (a:=k) (b:=l) hi hj)
 have h2:=calcF_i64 1 k l
 have HE:=hide (evBin_num (op:=11) (a:=k) (b:=l) (by decide))
 rw [show (11:Int) - 10=1 by decide] at HE
 generalize calcF 1 k l=p at HC h2 HE
 obtain ⟨z1,z2⟩:=p

 go_enter Tryz.func74,Tryz.ntmps74
 go_wp2_with fail

 refine (uh HC _).mono ?_
 rintro r w4 ⟨rfl,hb4⟩
 have R4:=R0.after hb4 nl
 have B4:=B0.trans (hb4.mono (by simp;omega))
 have HP:=hide h2
 clear h2

 obtain ⟨x0,x1,x2,x3⟩:=row4V R4
 have f0:=fun j=>R4.frozen j
 have Q1:=R4.set 0 (.int .i64 z2)
 have f1:=fun j=>Q1.frozen j
 have Q2:=Q1.set 1 (.int .i64 z1)
 have f2:=fun j=>Q2.frozen j
 have Q3:=Q2.set 2 (.string ⟨#[]⟩)
 have f3:=fun j=>Q3.frozen j
 have Q4:=Q3.set 3 (.slice none 0 0)
 obtain ⟨p0,p1,p2,p3⟩:=row4V Q4
 have BE:=(((B4.setCell (p:=⟨w.heap.size,0,none⟩) nl (.int .i64 z2)).setCell (p:=⟨w.heap.size,1,none⟩) nl (.int .i64 z1)).setCell (p:=⟨w.heap.size,2,none⟩) nl (.string ⟨#[]⟩)).setCell (p:=⟨w.heap.size,3,none⟩) nl (.slice none 0 0)
 dsimp only
 go_wp2_with fail
 refine bodyPost_ret (v:=.agg #[.int .i64 z2,.int .i64 z1,.string ⟨#[]⟩,.slice none 0 0]) (by simp [results,Tryz.results74,go_sem,p0,p1,p2,p3]) rfl ⟨⟨_,_,_,_,_,_,rfl,?_⟩,BE⟩
 rw [uh HE,ofCalc]
 by_cases h0:z2=0
 ·rw [if_pos h0]
  exact ⟨h0,⟨rfl,uh HP⟩,rfl,rfl,rfl,rfl⟩
 ·rw [if_neg h0]
  exact ⟨rfl,h0⟩

theorem apply_num12 (k l:Int) (hi:I64 k) (hj:I64 l) (g cap:Nat) (w:World) (e0:w.cell? ⟨g,0,none⟩=some (.int .i64 0)) (e1:w.cell? ⟨g,1,none⟩=some (.int .i64 k)) (e2:w.cell? ⟨g,2,none⟩=some (.string ⟨#[]⟩)) (e3:w.cell? ⟨g,3,none⟩=some (.slice none 0 0)) (e4:w.cell? ⟨g,4,none⟩=some (.int .i64 0)) (e5:w.cell? ⟨g,5,none⟩=some (.int .i64 l)) (e6:w.cell? ⟨g,6,none⟩=some (.string ⟨#[]⟩)) (e7:w.cell? ⟨g,7,none⟩=some (.slice none 0 0)) (hg:g<w.heap.size) :
  Calls Tryz.prog 74 #[.int .i64 12,.slice (some ⟨g,0,none⟩) 2 cap] w (MAns (evBin 12 (.int k) (.int l)) w):=by
 have B0:=((((Below.refl w.heap.size w).alloc nl (.cells #[.int .i64 0,.int .i64 0,.string ⟨#[]⟩,.slice none 0 0] 96)).alloc (by simp) (.cells #[.int .i64 0,.int .i64 k,.string ⟨#[]⟩,.slice none 0 0] 96)).alloc (by simp;omega) (.cells #[.int .i64 0,.int .i64 l,.string ⟨#[]⟩,.slice none 0 0] 96))
 have R0:=((Row.new w #[.int .i64 0,.int .i64 0,.string ⟨#[]⟩,.slice none 0 0] 96).alloc (.cells #[.int .i64 0,.int .i64 k,.string ⟨#[]⟩,.slice none 0 0] 96)).alloc (.cells #[.int .i64 0,.int .i64 l,.string ⟨#[]⟩,.slice none 0 0] 96)
 have R1:=(Row.new (w.alloc (.cells #[.int .i64 0,.int .i64 0,.string ⟨#[]⟩,.slice none 0 0] 96)) #[.int .i64 0,.int .i64 k,.string ⟨#[]⟩,.slice none 0 0] 96).alloc (.cells #[.int .i64 0,.int .i64 l,.string ⟨#[]⟩,.slice none 0 0] 96)
 have R2:=Row.new ((w.alloc (.cells #[.int .i64 0,.int .i64 0,.string ⟨#[]⟩,.slice none 0 0] 96)).alloc (.cells #[.int .i64 0,.int .i64 k,.string ⟨#[]⟩,.slice none 0 0] 96)) #[.int .i64 0,.int .i64 l,.string ⟨#[]⟩,.slice none 0 0] 96
 simp only [World.size_alloc] at R1 R2

 have HC:=hide (fun (W:World)=>sCalc_any (w:=W) 2 (a:=k) (b:=l) hi hj)
 have h2:=calcF_i64 2 k l
 have HE:=hide (evBin_num (op:=12) (a:=k) (b:=l) (by decide))
 rw [show (12:Int) - 10=2 by decide] at HE
 generalize calcF 2 k l=p at HC h2 HE
 obtain ⟨z1,z2⟩:=p

 go_enter Tryz.func74,Tryz.ntmps74
 go_wp2_with fail

 refine (uh HC _).mono ?_
 rintro r w4 ⟨rfl,hb4⟩
 have R4:=R0.after hb4 nl
 have B4:=B0.trans (hb4.mono (by simp;omega))
 have HP:=hide h2
 clear h2

 obtain ⟨x0,x1,x2,x3⟩:=row4V R4
 have f0:=fun j=>R4.frozen j
 have Q1:=R4.set 0 (.int .i64 z2)
 have f1:=fun j=>Q1.frozen j
 have Q2:=Q1.set 1 (.int .i64 z1)
 have f2:=fun j=>Q2.frozen j
 have Q3:=Q2.set 2 (.string ⟨#[]⟩)
 have f3:=fun j=>Q3.frozen j
 have Q4:=Q3.set 3 (.slice none 0 0)
 obtain ⟨p0,p1,p2,p3⟩:=row4V Q4
 have BE:=(((B4.setCell (p:=⟨w.heap.size,0,none⟩) nl (.int .i64 z2)).setCell (p:=⟨w.heap.size,1,none⟩) nl (.int .i64 z1)).setCell (p:=⟨w.heap.size,2,none⟩) nl (.string ⟨#[]⟩)).setCell (p:=⟨w.heap.size,3,none⟩) nl (.slice none 0 0)
 dsimp only
 go_wp2_with fail
 refine bodyPost_ret (v:=.agg #[.int .i64 z2,.int .i64 z1,.string ⟨#[]⟩,.slice none 0 0]) (by simp [results,Tryz.results74,go_sem,p0,p1,p2,p3]) rfl ⟨⟨_,_,_,_,_,_,rfl,?_⟩,BE⟩
 rw [uh HE,ofCalc]
 by_cases h0:z2=0
 ·rw [if_pos h0]
  exact ⟨h0,⟨rfl,uh HP⟩,rfl,rfl,rfl,rfl⟩
 ·rw [if_neg h0]
  exact ⟨rfl,h0⟩

theorem apply_num13 (k l:Int) (hi:I64 k) (hj:I64 l) (g cap:Nat) (w:World) (e0:w.cell? ⟨g,0,none⟩=some (.int .i64 0)) (e1:w.cell? ⟨g,1,none⟩=some (.int .i64 k)) (e2:w.cell? ⟨g,2,none⟩=some (.string ⟨#[]⟩)) (e3:w.cell? ⟨g,3,none⟩=some (.slice none 0 0)) (e4:w.cell? ⟨g,4,none⟩=some (.int .i64 0)) (e5:w.cell? ⟨g,5,none⟩=some (.int .i64 l)) (e6:w.cell? ⟨g,6,none⟩=some (.string ⟨#[]⟩)) (e7:w.cell? ⟨g,7,none⟩=some (.slice none 0 0)) (hg:g<w.heap.size) :
  Calls Tryz.prog 74 #[.int .i64 13,.slice (some ⟨g,0,none⟩) 2 cap] w (MAns (evBin 13 (.int k) (.int l)) w):=by
 have B0:=((((Below.refl w.heap.size w).alloc nl (.cells #[.int .i64 0,.int .i64 0,.string ⟨#[]⟩,.slice none 0 0] 96)).alloc (by simp) (.cells #[.int .i64 0,.int .i64 k,.string ⟨#[]⟩,.slice none 0 0] 96)).alloc (by simp;omega) (.cells #[.int .i64 0,.int .i64 l,.string ⟨#[]⟩,.slice none 0 0] 96))
 have R0:=((Row.new w #[.int .i64 0,.int .i64 0,.string ⟨#[]⟩,.slice none 0 0] 96).alloc (.cells #[.int .i64 0,.int .i64 k,.string ⟨#[]⟩,.slice none 0 0] 96)).alloc (.cells #[.int .i64 0,.int .i64 l,.string ⟨#[]⟩,.slice none 0 0] 96)
 have R1:=(Row.new (w.alloc (.cells #[.int .i64 0,.int .i64 0,.string ⟨#[]⟩,.slice none 0 0] 96)) #[.int .i64 0,.int .i64 k,.string ⟨#[]⟩,.slice none 0 0] 96).alloc (.cells #[.int .i64 0,.int .i64 l,.string ⟨#[]⟩,.slice none 0 0] 96)
 have R2:=Row.new ((w.alloc (.cells #[.int .i64 0,.int .i64 0,.string ⟨#[]⟩,.slice none 0 0] 96)).alloc (.cells #[.int .i64 0,.int .i64 k,.string ⟨#[]⟩,.slice none 0 0] 96)) #[.int .i64 0,.int .i64 l,.string ⟨#[]⟩,.slice none 0 0] 96
 simp only [World.size_alloc] at R1 R2

 have HC:=hide (fun (W:World)=>sCalc_any (w:=W) 3 (a:=k) (b:=l) hi hj)
 have h2:=calcF_i64 3 k l
 have HE:=hide (evBin_num (op:=13) (a:=k) (b:=l) (by decide))
 rw [show (13:Int) - 10=3 by decide] at HE
 generalize calcF 3 k l=p at HC h2 HE
 obtain ⟨z1,z2⟩:=p

 go_enter Tryz.func74,Tryz.ntmps74
 go_wp2_with fail

 refine (uh HC _).mono ?_
 rintro r w4 ⟨rfl,hb4⟩
 have R4:=R0.after hb4 nl
 have B4:=B0.trans (hb4.mono (by simp;omega))
 have HP:=hide h2
 clear h2

 obtain ⟨x0,x1,x2,x3⟩:=row4V R4
 have f0:=fun j=>R4.frozen j
 have Q1:=R4.set 0 (.int .i64 z2)
 have f1:=fun j=>Q1.frozen j
 have Q2:=Q1.set 1 (.int .i64 z1)
 have f2:=fun j=>Q2.frozen j
 have Q3:=Q2.set 2 (.string ⟨#[]⟩)
 have f3:=fun j=>Q3.frozen j
 have Q4:=Q3.set 3 (.slice none 0 0)
 obtain ⟨p0,p1,p2,p3⟩:=row4V Q4
 have BE:=(((B4.setCell (p:=⟨w.heap.size,0,none⟩) nl (.int .i64 z2)).setCell (p:=⟨w.heap.size,1,none⟩) nl (.int .i64 z1)).setCell (p:=⟨w.heap.size,2,none⟩) nl (.string ⟨#[]⟩)).setCell (p:=⟨w.heap.size,3,none⟩) nl (.slice none 0 0)
 dsimp only
 go_wp2_with fail
 refine bodyPost_ret (v:=.agg #[.int .i64 z2,.int .i64 z1,.string ⟨#[]⟩,.slice none 0 0]) (by simp [results,Tryz.results74,go_sem,p0,p1,p2,p3]) rfl ⟨⟨_,_,_,_,_,_,rfl,?_⟩,BE⟩
 rw [uh HE,ofCalc]
 by_cases h0:z2=0
 ·rw [if_pos h0]
  exact ⟨h0,⟨rfl,uh HP⟩,rfl,rfl,rfl,rfl⟩
 ·rw [if_neg h0]
  exact ⟨rfl,h0⟩

theorem apply_num14 (k l:Int) (hi:I64 k) (hj:I64 l) (g cap:Nat) (w:World) (e0:w.cell? ⟨g,0,none⟩=some (.int .i64 0)) (e1:w.cell? ⟨g,1,none⟩=some (.int .i64 k)) (e2:w.cell? ⟨g,2,none⟩=some (.string ⟨#[]⟩)) (e3:w.cell? ⟨g,3,none⟩=some (.slice none 0 0)) (e4:w.cell? ⟨g,4,none⟩=some (.int .i64 0)) (e5:w.cell? ⟨g,5,none⟩=some (.int .i64 l)) (e6:w.cell? ⟨g,6,none⟩=some (.string ⟨#[]⟩)) (e7:w.cell? ⟨g,7,none⟩=some (.slice none 0 0)) (hg:g<w.heap.size) :
  Calls Tryz.prog 74 #[.int .i64 14,.slice (some ⟨g,0,none⟩) 2 cap] w (MAns (evBin 14 (.int k) (.int l)) w):=by
 have B0:=((((Below.refl w.heap.size w).alloc nl (.cells #[.int .i64 0,.int .i64 0,.string ⟨#[]⟩,.slice none 0 0] 96)).alloc (by simp) (.cells #[.int .i64 0,.int .i64 k,.string ⟨#[]⟩,.slice none 0 0] 96)).alloc (by simp;omega) (.cells #[.int .i64 0,.int .i64 l,.string ⟨#[]⟩,.slice none 0 0] 96))
 have R0:=((Row.new w #[.int .i64 0,.int .i64 0,.string ⟨#[]⟩,.slice none 0 0] 96).alloc (.cells #[.int .i64 0,.int .i64 k,.string ⟨#[]⟩,.slice none 0 0] 96)).alloc (.cells #[.int .i64 0,.int .i64 l,.string ⟨#[]⟩,.slice none 0 0] 96)
 have R1:=(Row.new (w.alloc (.cells #[.int .i64 0,.int .i64 0,.string ⟨#[]⟩,.slice none 0 0] 96)) #[.int .i64 0,.int .i64 k,.string ⟨#[]⟩,.slice none 0 0] 96).alloc (.cells #[.int .i64 0,.int .i64 l,.string ⟨#[]⟩,.slice none 0 0] 96)
 have R2:=Row.new ((w.alloc (.cells #[.int .i64 0,.int .i64 0,.string ⟨#[]⟩,.slice none 0 0] 96)).alloc (.cells #[.int .i64 0,.int .i64 k,.string ⟨#[]⟩,.slice none 0 0] 96)) #[.int .i64 0,.int .i64 l,.string ⟨#[]⟩,.slice none 0 0] 96
 simp only [World.size_alloc] at R1 R2

 have HC:=hide (fun (W:World)=>sCalc_any (w:=W) 4 (a:=k) (b:=l) hi hj)
 have h2:=calcF_i64 4 k l
 have HE:=hide (evBin_num (op:=14) (a:=k) (b:=l) (by decide))
 rw [show (14:Int) - 10=4 by decide] at HE
 generalize calcF 4 k l=p at HC h2 HE
 obtain ⟨z1,z2⟩:=p

 go_enter Tryz.func74,Tryz.ntmps74
 go_wp2_with fail

 refine (uh HC _).mono ?_
 rintro r w4 ⟨rfl,hb4⟩
 have R4:=R0.after hb4 nl
 have B4:=B0.trans (hb4.mono (by simp;omega))
 have HP:=hide h2
 clear h2

 obtain ⟨x0,x1,x2,x3⟩:=row4V R4
 have f0:=fun j=>R4.frozen j
 have Q1:=R4.set 0 (.int .i64 z2)
 have f1:=fun j=>Q1.frozen j
 have Q2:=Q1.set 1 (.int .i64 z1)
 have f2:=fun j=>Q2.frozen j
 have Q3:=Q2.set 2 (.string ⟨#[]⟩)
 have f3:=fun j=>Q3.frozen j
 have Q4:=Q3.set 3 (.slice none 0 0)
 obtain ⟨p0,p1,p2,p3⟩:=row4V Q4
 have BE:=(((B4.setCell (p:=⟨w.heap.size,0,none⟩) nl (.int .i64 z2)).setCell (p:=⟨w.heap.size,1,none⟩) nl (.int .i64 z1)).setCell (p:=⟨w.heap.size,2,none⟩) nl (.string ⟨#[]⟩)).setCell (p:=⟨w.heap.size,3,none⟩) nl (.slice none 0 0)
 dsimp only
 go_wp2_with fail
 refine bodyPost_ret (v:=.agg #[.int .i64 z2,.int .i64 z1,.string ⟨#[]⟩,.slice none 0 0]) (by simp [results,Tryz.results74,go_sem,p0,p1,p2,p3]) rfl ⟨⟨_,_,_,_,_,_,rfl,?_⟩,BE⟩
 rw [uh HE,ofCalc]
 by_cases h0:z2=0
 ·rw [if_pos h0]
  exact ⟨h0,⟨rfl,uh HP⟩,rfl,rfl,rfl,rfl⟩
 ·rw [if_neg h0]
  exact ⟨rfl,h0⟩

theorem apply_num15 (k l:Int) (hi:I64 k) (hj:I64 l) (g cap:Nat) (w:World) (e0:w.cell? ⟨g,0,none⟩=some (.int .i64 0)) (e1:w.cell? ⟨g,1,none⟩=some (.int .i64 k)) (e2:w.cell? ⟨g,2,none⟩=some (.string ⟨#[]⟩)) (e3:w.cell? ⟨g,3,none⟩=some (.slice none 0 0)) (e4:w.cell? ⟨g,4,none⟩=some (.int .i64 0)) (e5:w.cell? ⟨g,5,none⟩=some (.int .i64 l)) (e6:w.cell? ⟨g,6,none⟩=some (.string ⟨#[]⟩)) (e7:w.cell? ⟨g,7,none⟩=some (.slice none 0 0)) (hg:g<w.heap.size) :
  Calls Tryz.prog 74 #[.int .i64 15,.slice (some ⟨g,0,none⟩) 2 cap] w (MAns (evBin 15 (.int k) (.int l)) w):=by
 have B0:=((((Below.refl w.heap.size w).alloc nl (.cells #[.int .i64 0,.int .i64 0,.string ⟨#[]⟩,.slice none 0 0] 96)).alloc (by simp) (.cells #[.int .i64 0,.int .i64 k,.string ⟨#[]⟩,.slice none 0 0] 96)).alloc (by simp;omega) (.cells #[.int .i64 0,.int .i64 l,.string ⟨#[]⟩,.slice none 0 0] 96))
 have R0:=((Row.new w #[.int .i64 0,.int .i64 0,.string ⟨#[]⟩,.slice none 0 0] 96).alloc (.cells #[.int .i64 0,.int .i64 k,.string ⟨#[]⟩,.slice none 0 0] 96)).alloc (.cells #[.int .i64 0,.int .i64 l,.string ⟨#[]⟩,.slice none 0 0] 96)
 have R1:=(Row.new (w.alloc (.cells #[.int .i64 0,.int .i64 0,.string ⟨#[]⟩,.slice none 0 0] 96)) #[.int .i64 0,.int .i64 k,.string ⟨#[]⟩,.slice none 0 0] 96).alloc (.cells #[.int .i64 0,.int .i64 l,.string ⟨#[]⟩,.slice none 0 0] 96)
 have R2:=Row.new ((w.alloc (.cells #[.int .i64 0,.int .i64 0,.string ⟨#[]⟩,.slice none 0 0] 96)).alloc (.cells #[.int .i64 0,.int .i64 k,.string ⟨#[]⟩,.slice none 0 0] 96)) #[.int .i64 0,.int .i64 l,.string ⟨#[]⟩,.slice none 0 0] 96
 simp only [World.size_alloc] at R1 R2

 have HC:=hide (fun (W:World)=>sCalc_any (w:=W) 5 (a:=k) (b:=l) hi hj)
 have h2:=calcF_i64 5 k l
 have HE:=hide (evBin_num (op:=15) (a:=k) (b:=l) (by decide))
 rw [show (15:Int) - 10=5 by decide] at HE
 generalize calcF 5 k l=p at HC h2 HE
 obtain ⟨z1,z2⟩:=p

 go_enter Tryz.func74,Tryz.ntmps74
 go_wp2_with fail

 refine (uh HC _).mono ?_
 rintro r w4 ⟨rfl,hb4⟩
 have R4:=R0.after hb4 nl
 have B4:=B0.trans (hb4.mono (by simp;omega))
 have HP:=hide h2
 clear h2

 obtain ⟨x0,x1,x2,x3⟩:=row4V R4
 have f0:=fun j=>R4.frozen j
 have Q1:=R4.set 0 (.int .i64 z2)
 have f1:=fun j=>Q1.frozen j
 have Q2:=Q1.set 1 (.int .i64 z1)
 have f2:=fun j=>Q2.frozen j
 have Q3:=Q2.set 2 (.string ⟨#[]⟩)
 have f3:=fun j=>Q3.frozen j
 have Q4:=Q3.set 3 (.slice none 0 0)
 obtain ⟨p0,p1,p2,p3⟩:=row4V Q4
 have BE:=(((B4.setCell (p:=⟨w.heap.size,0,none⟩) nl (.int .i64 z2)).setCell (p:=⟨w.heap.size,1,none⟩) nl (.int .i64 z1)).setCell (p:=⟨w.heap.size,2,none⟩) nl (.string ⟨#[]⟩)).setCell (p:=⟨w.heap.size,3,none⟩) nl (.slice none 0 0)
 dsimp only
 go_wp2_with fail
 refine bodyPost_ret (v:=.agg #[.int .i64 z2,.int .i64 z1,.string ⟨#[]⟩,.slice none 0 0]) (by simp [results,Tryz.results74,go_sem,p0,p1,p2,p3]) rfl ⟨⟨_,_,_,_,_,_,rfl,?_⟩,BE⟩
 rw [uh HE,ofCalc]
 by_cases h0:z2=0
 ·rw [if_pos h0]
  exact ⟨h0,⟨rfl,uh HP⟩,rfl,rfl,rfl,rfl⟩
 ·rw [if_neg h0]
  exact ⟨rfl,h0⟩

theorem apply_union (a:Option Addr) (n c:Nat) (ss:List ByteArray) (a2:Option Addr) (n2 c2:Nat) (tt:List ByteArray) (g cap:Nat) (w:World) (e0:w.cell? ⟨g,0,none⟩=some (.int .i64 0)) (e1:w.cell? ⟨g,1,none⟩=some (.int .i64 0)) (e2:w.cell? ⟨g,2,none⟩=some (.string ⟨#[]⟩)) (e3:w.cell? ⟨g,3,none⟩=some (.slice a n c)) (e4:w.cell? ⟨g,4,none⟩=some (.int .i64 0)) (e5:w.cell? ⟨g,5,none⟩=some (.int .i64 0)) (e6:w.cell? ⟨g,6,none⟩=some (.string ⟨#[]⟩)) (e7:w.cell? ⟨g,7,none⟩=some (.slice a2 n2 c2)) (hS:Strs w a n c ss) (hS2:Strs w a2 n2 c2 tt) (k1:a=none→c=0) (k2:a2=none→c2=0) (hg:g<w.heap.size) :
  Calls Tryz.prog 74 #[.int .i64 16,.slice (some ⟨g,0,none⟩) 2 cap] w (MAns (evBin 16 (.set ss) (.set tt)) w):=by
 have B0:=((((Below.refl w.heap.size w).alloc nl (.cells #[.int .i64 0,.int .i64 0,.string ⟨#[]⟩,.slice none 0 0] 96)).alloc (by simp) (.cells #[.int .i64 0,.int .i64 0,.string ⟨#[]⟩,.slice a n c] 96)).alloc (by simp;omega) (.cells #[.int .i64 0,.int .i64 0,.string ⟨#[]⟩,.slice a2 n2 c2] 96))
 have R0:=((Row.new w #[.int .i64 0,.int .i64 0,.string ⟨#[]⟩,.slice none 0 0] 96).alloc (.cells #[.int .i64 0,.int .i64 0,.string ⟨#[]⟩,.slice a n c] 96)).alloc (.cells #[.int .i64 0,.int .i64 0,.string ⟨#[]⟩,.slice a2 n2 c2] 96)
 have R1:=(Row.new (w.alloc (.cells #[.int .i64 0,.int .i64 0,.string ⟨#[]⟩,.slice none 0 0] 96)) #[.int .i64 0,.int .i64 0,.string ⟨#[]⟩,.slice a n c] 96).alloc (.cells #[.int .i64 0,.int .i64 0,.string ⟨#[]⟩,.slice a2 n2 c2] 96)
 have R2:=Row.new ((w.alloc (.cells #[.int .i64 0,.int .i64 0,.string ⟨#[]⟩,.slice none 0 0] 96)).alloc (.cells #[.int .i64 0,.int .i64 0,.string ⟨#[]⟩,.slice a n c] 96)) #[.int .i64 0,.int .i64 0,.string ⟨#[]⟩,.slice a2 n2 c2] 96
 simp only [World.size_alloc] at R1 R2

 have H1:=hS.below B0 nl
 have H2:=hS2.below B0 nl
 have HZ:=hide (And.intro (sizes_of hS) (sizes_of hS2))
 have HC:=hide (sUnionG_any a n c ss a2 n2 c2 tt _ H1 H2 k1 k2)
 clear H1 H2 hS hS2 k1 k2

 go_enter Tryz.func74,Tryz.ntmps74
 go_wp2_with fail

 refine (uh HC).mono ?_
 rintro r w4 ⟨x,cx,K,e,rfl,O4,hb4,hU⟩
 have R4:=R0.after hb4 nl
 have B4:=B0.trans (hb4.mono (by simp;omega))
 have hS4:=Strs.of_owns O4 (hU.sizes (uh HZ).1 (uh HZ).2)
 have HU:=hide hU
 have HO:=hide O4
 have z4:=R0.lt
 clear hU O4 HC

 obtain ⟨x0,x1,x2,x3⟩:=row4V R4
 have f0:=fun j=>R4.frozen j
 have Q1:=R4.set 0 (.int .i64 e)
 have f1:=fun j=>Q1.frozen j
 have Q2:=Q1.set 1 (.int .i64 0)
 have f2:=fun j=>Q2.frozen j
 have Q3:=Q2.set 2 (.string ⟨#[]⟩)
 have f3:=fun j=>Q3.frozen j
 have Q4:=Q3.set 3 (.slice x K.length cx)
 obtain ⟨p0,p1,p2,p3⟩:=row4V Q4
 have BE:=(((B4.setCell (p:=⟨w.heap.size,0,none⟩) nl (.int .i64 e)).setCell (p:=⟨w.heap.size,1,none⟩) nl (.int .i64 0)).setCell (p:=⟨w.heap.size,2,none⟩) nl (.string ⟨#[]⟩)).setCell (p:=⟨w.heap.size,3,none⟩) nl (.slice x K.length cx)
 dsimp only
 go_wp2_with fail
 refine bodyPost_ret (v:=.agg #[.int .i64 e,.int .i64 0,.string ⟨#[]⟩,.slice x K.length cx]) (by simp [results,Tryz.results74,go_sem,p0,p1,p2,p3]) rfl ⟨⟨_,_,_,_,_,_,rfl,?_⟩,BE⟩
 rw [evBin_union,unionK_of (uh HU),ofUnion]
 by_cases h0:e=0
 ·rw [if_pos h0]
  have O4:=uh HO
  refine ⟨h0,rfl,rfl,?_,by have:=(uh HU).len;show K.length≤1048576;omega,((((ZS.of_owns O4).setCell _ _ _).setCell _ _ _).setCell _ _ _).setCell _ _ _⟩
  ·refine Strs.of_owns (base:=w.heap.size+3) (own_set3 (own_set3 (own_set3 (own_set3 (by simpa using O4) _ _ (fun q hq=>?_)) _ _ (fun q hq=>?_)) _ _ (fun q hq=>?_)) _ _ (fun q hq=>?_)) ((uh HU).sizes (uh HZ).1 (uh HZ).2)
   all_goals (have:=(O4.lt q hq).1;simp at this;show q≠w.heap.size;omega)
 ·rw [if_neg h0]
  exact ⟨rfl,h0⟩

theorem apply_meet (a:Option Addr) (n c:Nat) (ss:List ByteArray) (a2:Option Addr) (n2 c2:Nat) (tt:List ByteArray) (g cap:Nat) (w:World) (e0:w.cell? ⟨g,0,none⟩=some (.int .i64 0)) (e1:w.cell? ⟨g,1,none⟩=some (.int .i64 0)) (e2:w.cell? ⟨g,2,none⟩=some (.string ⟨#[]⟩)) (e3:w.cell? ⟨g,3,none⟩=some (.slice a n c)) (e4:w.cell? ⟨g,4,none⟩=some (.int .i64 0)) (e5:w.cell? ⟨g,5,none⟩=some (.int .i64 0)) (e6:w.cell? ⟨g,6,none⟩=some (.string ⟨#[]⟩)) (e7:w.cell? ⟨g,7,none⟩=some (.slice a2 n2 c2)) (hS:Strs w a n c ss) (hS2:Strs w a2 n2 c2 tt) (l1:ss.length≤1048576) (hg:g<w.heap.size) :
  Calls Tryz.prog 74 #[.int .i64 17,.slice (some ⟨g,0,none⟩) 2 cap] w (MAns (evBin 17 (.set ss) (.set tt)) w):=by
 have B0:=((((Below.refl w.heap.size w).alloc nl (.cells #[.int .i64 0,.int .i64 0,.string ⟨#[]⟩,.slice none 0 0] 96)).alloc (by simp) (.cells #[.int .i64 0,.int .i64 0,.string ⟨#[]⟩,.slice a n c] 96)).alloc (by simp;omega) (.cells #[.int .i64 0,.int .i64 0,.string ⟨#[]⟩,.slice a2 n2 c2] 96))
 have R0:=((Row.new w #[.int .i64 0,.int .i64 0,.string ⟨#[]⟩,.slice none 0 0] 96).alloc (.cells #[.int .i64 0,.int .i64 0,.string ⟨#[]⟩,.slice a n c] 96)).alloc (.cells #[.int .i64 0,.int .i64 0,.string ⟨#[]⟩,.slice a2 n2 c2] 96)
 have R1:=(Row.new (w.alloc (.cells #[.int .i64 0,.int .i64 0,.string ⟨#[]⟩,.slice none 0 0] 96)) #[.int .i64 0,.int .i64 0,.string ⟨#[]⟩,.slice a n c] 96).alloc (.cells #[.int .i64 0,.int .i64 0,.string ⟨#[]⟩,.slice a2 n2 c2] 96)
 have R2:=Row.new ((w.alloc (.cells #[.int .i64 0,.int .i64 0,.string ⟨#[]⟩,.slice none 0 0] 96)).alloc (.cells #[.int .i64 0,.int .i64 0,.string ⟨#[]⟩,.slice a n c] 96)) #[.int .i64 0,.int .i64 0,.string ⟨#[]⟩,.slice a2 n2 c2] 96
 simp only [World.size_alloc] at R1 R2

 have H1:=hS.below B0 nl
 have H2:=hS2.below B0 nl
 have HZ:=hide (meet_sizes ss tt (sizes_of hS))
 have HW:=hide (Nat.le_trans (meet_len ss tt) l1)
 have HC:=hide (sMeet_any a n c ss a2 n2 c2 tt _ H1 H2)
 generalize hL:meetL ss tt=K at HZ HW
 have HL:=hide hL
 clear H1 H2 hS hS2 hL

 go_enter Tryz.func74,Tryz.ntmps74
 go_wp2_with fail

 refine (uh HC).mono ?_
 rintro r w4 ⟨x,cx,rfl,O4,hb4⟩
 rw [uh HL] at O4 ⊢
 have R4:=R0.after hb4 nl
 have B4:=B0.trans (hb4.mono (by simp;omega))
 have HO:=hide O4
 clear O4 HC

 obtain ⟨x0,x1,x2,x3⟩:=row4V R4
 have f0:=fun j=>R4.frozen j
 have Q1:=R4.set 0 (.int .i64 0)
 have f1:=fun j=>Q1.frozen j
 have Q2:=Q1.set 1 (.int .i64 0)
 have f2:=fun j=>Q2.frozen j
 have Q3:=Q2.set 2 (.string ⟨#[]⟩)
 have f3:=fun j=>Q3.frozen j
 have Q4:=Q3.set 3 (.slice x K.length cx)
 obtain ⟨p0,p1,p2,p3⟩:=row4V Q4
 have BE:=(((B4.setCell (p:=⟨w.heap.size,0,none⟩) nl (.int .i64 0)).setCell (p:=⟨w.heap.size,1,none⟩) nl (.int .i64 0)).setCell (p:=⟨w.heap.size,2,none⟩) nl (.string ⟨#[]⟩)).setCell (p:=⟨w.heap.size,3,none⟩) nl (.slice x K.length cx)
 dsimp only
 go_wp2_with fail
 refine bodyPost_ret (v:=.agg #[.int .i64 0,.int .i64 0,.string ⟨#[]⟩,.slice x K.length cx]) (by simp [results,Tryz.results74,go_sem,p0,p1,p2,p3]) rfl ⟨⟨_,_,_,_,_,_,rfl,?_⟩,BE⟩
 rw [evBin_meet,uh HL]
 have O4:=uh HO
 refine ⟨rfl,rfl,rfl,?_,uh HW,((((ZS.of_owns O4).setCell _ _ _).setCell _ _ _).setCell _ _ _).setCell _ _ _⟩
 ·refine Strs.of_owns (base:=w.heap.size+3) (own_set3 (own_set3 (own_set3 (own_set3 (by simpa using O4) _ _ (fun q hq=>?_)) _ _ (fun q hq=>?_)) _ _ (fun q hq=>?_)) _ _ (fun q hq=>?_)) (uh HZ)
  all_goals (have:=(O4.lt q hq).1;simp at this;show q≠w.heap.size;omega)

theorem apply_minus (a:Option Addr) (n c:Nat) (ss:List ByteArray) (a2:Option Addr) (n2 c2:Nat) (tt:List ByteArray) (g cap:Nat) (w:World) (e0:w.cell? ⟨g,0,none⟩=some (.int .i64 0)) (e1:w.cell? ⟨g,1,none⟩=some (.int .i64 0)) (e2:w.cell? ⟨g,2,none⟩=some (.string ⟨#[]⟩)) (e3:w.cell? ⟨g,3,none⟩=some (.slice a n c)) (e4:w.cell? ⟨g,4,none⟩=some (.int .i64 0)) (e5:w.cell? ⟨g,5,none⟩=some (.int .i64 0)) (e6:w.cell? ⟨g,6,none⟩=some (.string ⟨#[]⟩)) (e7:w.cell? ⟨g,7,none⟩=some (.slice a2 n2 c2)) (hS:Strs w a n c ss) (hS2:Strs w a2 n2 c2 tt) (l1:ss.length≤1048576) (hg:g<w.heap.size) :
  Calls Tryz.prog 74 #[.int .i64 18,.slice (some ⟨g,0,none⟩) 2 cap] w (MAns (evBin 18 (.set ss) (.set tt)) w):=by
 have B0:=((((Below.refl w.heap.size w).alloc nl (.cells #[.int .i64 0,.int .i64 0,.string ⟨#[]⟩,.slice none 0 0] 96)).alloc (by simp) (.cells #[.int .i64 0,.int .i64 0,.string ⟨#[]⟩,.slice a n c] 96)).alloc (by simp;omega) (.cells #[.int .i64 0,.int .i64 0,.string ⟨#[]⟩,.slice a2 n2 c2] 96))
 have R0:=((Row.new w #[.int .i64 0,.int .i64 0,.string ⟨#[]⟩,.slice none 0 0] 96).alloc (.cells #[.int .i64 0,.int .i64 0,.string ⟨#[]⟩,.slice a n c] 96)).alloc (.cells #[.int .i64 0,.int .i64 0,.string ⟨#[]⟩,.slice a2 n2 c2] 96)
 have R1:=(Row.new (w.alloc (.cells #[.int .i64 0,.int .i64 0,.string ⟨#[]⟩,.slice none 0 0] 96)) #[.int .i64 0,.int .i64 0,.string ⟨#[]⟩,.slice a n c] 96).alloc (.cells #[.int .i64 0,.int .i64 0,.string ⟨#[]⟩,.slice a2 n2 c2] 96)
 have R2:=Row.new ((w.alloc (.cells #[.int .i64 0,.int .i64 0,.string ⟨#[]⟩,.slice none 0 0] 96)).alloc (.cells #[.int .i64 0,.int .i64 0,.string ⟨#[]⟩,.slice a n c] 96)) #[.int .i64 0,.int .i64 0,.string ⟨#[]⟩,.slice a2 n2 c2] 96
 simp only [World.size_alloc] at R1 R2

 have H1:=hS.below B0 nl
 have H2:=hS2.below B0 nl
 have HZ:=hide (minus_sizes ss tt (sizes_of hS))
 have HW:=hide (Nat.le_trans (minus_len ss tt) l1)
 have HC:=hide (sMinus_any a n c ss a2 n2 c2 tt _ H1 H2)
 generalize hL:minusL ss tt=K at HZ HW
 have HL:=hide hL
 clear H1 H2 hS hS2 hL

 go_enter Tryz.func74,Tryz.ntmps74
 go_wp2_with fail

 refine (uh HC).mono ?_
 rintro r w4 ⟨x,cx,rfl,O4,hb4⟩
 rw [uh HL] at O4 ⊢
 have R4:=R0.after hb4 nl
 have B4:=B0.trans (hb4.mono (by simp;omega))
 have HO:=hide O4
 clear O4 HC

 obtain ⟨x0,x1,x2,x3⟩:=row4V R4
 have f0:=fun j=>R4.frozen j
 have Q1:=R4.set 0 (.int .i64 0)
 have f1:=fun j=>Q1.frozen j
 have Q2:=Q1.set 1 (.int .i64 0)
 have f2:=fun j=>Q2.frozen j
 have Q3:=Q2.set 2 (.string ⟨#[]⟩)
 have f3:=fun j=>Q3.frozen j
 have Q4:=Q3.set 3 (.slice x K.length cx)
 obtain ⟨p0,p1,p2,p3⟩:=row4V Q4
 have BE:=(((B4.setCell (p:=⟨w.heap.size,0,none⟩) nl (.int .i64 0)).setCell (p:=⟨w.heap.size,1,none⟩) nl (.int .i64 0)).setCell (p:=⟨w.heap.size,2,none⟩) nl (.string ⟨#[]⟩)).setCell (p:=⟨w.heap.size,3,none⟩) nl (.slice x K.length cx)
 dsimp only
 go_wp2_with fail
 refine bodyPost_ret (v:=.agg #[.int .i64 0,.int .i64 0,.string ⟨#[]⟩,.slice x K.length cx]) (by simp [results,Tryz.results74,go_sem,p0,p1,p2,p3]) rfl ⟨⟨_,_,_,_,_,_,rfl,?_⟩,BE⟩
 rw [evBin_minus,uh HL]
 have O4:=uh HO
 refine ⟨rfl,rfl,rfl,?_,uh HW,((((ZS.of_owns O4).setCell _ _ _).setCell _ _ _).setCell _ _ _).setCell _ _ _⟩
 ·refine Strs.of_owns (base:=w.heap.size+3) (own_set3 (own_set3 (own_set3 (own_set3 (by simpa using O4) _ _ (fun q hq=>?_)) _ _ (fun q hq=>?_)) _ _ (fun q hq=>?_)) _ _ (fun q hq=>?_)) (uh HZ)
  all_goals (have:=(O4.lt q hq).1;simp at this;show q≠w.heap.size;omega)

theorem apply_less (k l:Int) (hi:I64 k) (hj:I64 l) (g cap:Nat) (w:World) (e0:w.cell? ⟨g,0,none⟩=some (.int .i64 0)) (e1:w.cell? ⟨g,1,none⟩=some (.int .i64 k)) (e2:w.cell? ⟨g,2,none⟩=some (.string ⟨#[]⟩)) (e3:w.cell? ⟨g,3,none⟩=some (.slice none 0 0)) (e4:w.cell? ⟨g,4,none⟩=some (.int .i64 0)) (e5:w.cell? ⟨g,5,none⟩=some (.int .i64 l)) (e6:w.cell? ⟨g,6,none⟩=some (.string ⟨#[]⟩)) (e7:w.cell? ⟨g,7,none⟩=some (.slice none 0 0)) (hg:g<w.heap.size) :
  Calls Tryz.prog 74 #[.int .i64 21,.slice (some ⟨g,0,none⟩) 2 cap] w (MAns (evBin 21 (.int k) (.int l)) w):=by
 have B0:=((((Below.refl w.heap.size w).alloc nl (.cells #[.int .i64 0,.int .i64 0,.string ⟨#[]⟩,.slice none 0 0] 96)).alloc (by simp) (.cells #[.int .i64 0,.int .i64 k,.string ⟨#[]⟩,.slice none 0 0] 96)).alloc (by simp;omega) (.cells #[.int .i64 0,.int .i64 l,.string ⟨#[]⟩,.slice none 0 0] 96))
 have R0:=((Row.new w #[.int .i64 0,.int .i64 0,.string ⟨#[]⟩,.slice none 0 0] 96).alloc (.cells #[.int .i64 0,.int .i64 k,.string ⟨#[]⟩,.slice none 0 0] 96)).alloc (.cells #[.int .i64 0,.int .i64 l,.string ⟨#[]⟩,.slice none 0 0] 96)
 have R1:=(Row.new (w.alloc (.cells #[.int .i64 0,.int .i64 0,.string ⟨#[]⟩,.slice none 0 0] 96)) #[.int .i64 0,.int .i64 k,.string ⟨#[]⟩,.slice none 0 0] 96).alloc (.cells #[.int .i64 0,.int .i64 l,.string ⟨#[]⟩,.slice none 0 0] 96)
 have R2:=Row.new ((w.alloc (.cells #[.int .i64 0,.int .i64 0,.string ⟨#[]⟩,.slice none 0 0] 96)).alloc (.cells #[.int .i64 0,.int .i64 k,.string ⟨#[]⟩,.slice none 0 0] 96)) #[.int .i64 0,.int .i64 l,.string ⟨#[]⟩,.slice none 0 0] 96
 simp only [World.size_alloc] at R1 R2

 go_enter Tryz.func74,Tryz.ntmps74
 go_wp2_with fail

 generalize hq:(decide (k<l))=tq
 have HTQ:=hide hq
 clear hq
 refine (l3truth_any tq _).mono ?_
 rintro r w5 ⟨⟨cd,nm,tx,xa,xn,xc,rfl,rfl,hnm,rfl,rfl,rfl,rfl⟩,hb5⟩
 have HNM:=hide hnm
 clear hnm
 have R5:=R0.after hb5 nl
 have B5:=B0.trans (hb5.mono (by simp;omega))

 obtain ⟨x0,x1,x2,x3⟩:=row4V R5
 have f0:=fun j=>R5.frozen j
 have Q1:=R5.set 0 (.int .i64 0)
 have f1:=fun j=>Q1.frozen j
 have Q2:=Q1.set 1 (.int .i64 nm)
 have f2:=fun j=>Q2.frozen j
 have Q3:=Q2.set 2 (.string ⟨#[]⟩)
 have f3:=fun j=>Q3.frozen j
 have Q4:=Q3.set 3 (.slice none 0 0)
 obtain ⟨p0,p1,p2,p3⟩:=row4V Q4
 have BE:=(((B5.setCell (p:=⟨w.heap.size,0,none⟩) nl (.int .i64 0)).setCell (p:=⟨w.heap.size,1,none⟩) nl (.int .i64 nm)).setCell (p:=⟨w.heap.size,2,none⟩) nl (.string ⟨#[]⟩)).setCell (p:=⟨w.heap.size,3,none⟩) nl (.slice none 0 0)
 dsimp only
 go_wp2_with fail
 refine bodyPost_ret (v:=.agg #[.int .i64 0,.int .i64 nm,.string ⟨#[]⟩,.slice none 0 0]) (by simp [results,Tryz.results74,go_sem,p0,p1,p2,p3]) rfl ⟨⟨_,_,_,_,_,_,rfl,?_⟩,BE⟩
 rw [evBin_less]
 exact ⟨rfl,by rw [uh HNM,← uh HTQ],rfl,rfl,rfl,rfl⟩

theorem apply_most (k l:Int) (hi:I64 k) (hj:I64 l) (g cap:Nat) (w:World) (e0:w.cell? ⟨g,0,none⟩=some (.int .i64 0)) (e1:w.cell? ⟨g,1,none⟩=some (.int .i64 k)) (e2:w.cell? ⟨g,2,none⟩=some (.string ⟨#[]⟩)) (e3:w.cell? ⟨g,3,none⟩=some (.slice none 0 0)) (e4:w.cell? ⟨g,4,none⟩=some (.int .i64 0)) (e5:w.cell? ⟨g,5,none⟩=some (.int .i64 l)) (e6:w.cell? ⟨g,6,none⟩=some (.string ⟨#[]⟩)) (e7:w.cell? ⟨g,7,none⟩=some (.slice none 0 0)) (hg:g<w.heap.size) :
  Calls Tryz.prog 74 #[.int .i64 22,.slice (some ⟨g,0,none⟩) 2 cap] w (MAns (evBin 22 (.int k) (.int l)) w):=by
 have B0:=((((Below.refl w.heap.size w).alloc nl (.cells #[.int .i64 0,.int .i64 0,.string ⟨#[]⟩,.slice none 0 0] 96)).alloc (by simp) (.cells #[.int .i64 0,.int .i64 k,.string ⟨#[]⟩,.slice none 0 0] 96)).alloc (by simp;omega) (.cells #[.int .i64 0,.int .i64 l,.string ⟨#[]⟩,.slice none 0 0] 96))
 have R0:=((Row.new w #[.int .i64 0,.int .i64 0,.string ⟨#[]⟩,.slice none 0 0] 96).alloc (.cells #[.int .i64 0,.int .i64 k,.string ⟨#[]⟩,.slice none 0 0] 96)).alloc (.cells #[.int .i64 0,.int .i64 l,.string ⟨#[]⟩,.slice none 0 0] 96)
 have R1:=(Row.new (w.alloc (.cells #[.int .i64 0,.int .i64 0,.string ⟨#[]⟩,.slice none 0 0] 96)) #[.int .i64 0,.int .i64 k,.string ⟨#[]⟩,.slice none 0 0] 96).alloc (.cells #[.int .i64 0,.int .i64 l,.string ⟨#[]⟩,.slice none 0 0] 96)
 have R2:=Row.new ((w.alloc (.cells #[.int .i64 0,.int .i64 0,.string ⟨#[]⟩,.slice none 0 0] 96)).alloc (.cells #[.int .i64 0,.int .i64 k,.string ⟨#[]⟩,.slice none 0 0] 96)) #[.int .i64 0,.int .i64 l,.string ⟨#[]⟩,.slice none 0 0] 96
 simp only [World.size_alloc] at R1 R2

 go_enter Tryz.func74,Tryz.ntmps74
 go_wp2_with fail

 generalize hq:(decide (k≤l))=tq
 have HTQ:=hide hq
 clear hq
 refine (l3truth_any tq _).mono ?_
 rintro r w5 ⟨⟨cd,nm,tx,xa,xn,xc,rfl,rfl,hnm,rfl,rfl,rfl,rfl⟩,hb5⟩
 have HNM:=hide hnm
 clear hnm
 have R5:=R0.after hb5 nl
 have B5:=B0.trans (hb5.mono (by simp;omega))

 obtain ⟨x0,x1,x2,x3⟩:=row4V R5
 have f0:=fun j=>R5.frozen j
 have Q1:=R5.set 0 (.int .i64 0)
 have f1:=fun j=>Q1.frozen j
 have Q2:=Q1.set 1 (.int .i64 nm)
 have f2:=fun j=>Q2.frozen j
 have Q3:=Q2.set 2 (.string ⟨#[]⟩)
 have f3:=fun j=>Q3.frozen j
 have Q4:=Q3.set 3 (.slice none 0 0)
 obtain ⟨p0,p1,p2,p3⟩:=row4V Q4
 have BE:=(((B5.setCell (p:=⟨w.heap.size,0,none⟩) nl (.int .i64 0)).setCell (p:=⟨w.heap.size,1,none⟩) nl (.int .i64 nm)).setCell (p:=⟨w.heap.size,2,none⟩) nl (.string ⟨#[]⟩)).setCell (p:=⟨w.heap.size,3,none⟩) nl (.slice none 0 0)
 dsimp only
 go_wp2_with fail
 refine bodyPost_ret (v:=.agg #[.int .i64 0,.int .i64 nm,.string ⟨#[]⟩,.slice none 0 0]) (by simp [results,Tryz.results74,go_sem,p0,p1,p2,p3]) rfl ⟨⟨_,_,_,_,_,_,rfl,?_⟩,BE⟩
 rw [evBin_most]
 exact ⟨rfl,by rw [uh HNM,← uh HTQ],rfl,rfl,rfl,rfl⟩

end Go.Proofs.YtedlocniojlhfaaGreatDoor
