/-
  The model's evaluation of inner nodes. Own work.
-/
import Derived.Test.YtedlocniojlhfaaGreatDoorDVW
namespace Go.Proofs.YtedlocniojlhfaaGreatDoor
set_option maxRecDepth 100000
set_option maxHeartbeats 6400000
open Go.RowKit
set_option linter.unusedVariables false

theorem eval_ite_false (x:Nd) (ho:x.op=27) (k l:Nat) (b off n c i:Nat) (hin:i<n) (hn:n≤1048576) (an:Option Addr) (nn cn:Nat) (kb ko ck:Nat) (R:Rq) (a1:Option Addr) (n1 c1:Nat) (a2:Option Addr) (n2 c2:Nat) (la:Option Addr) (ln lc:Nat) (w:World) (hb:b<w.heap.size) (hkb:kb<w.heap.size) (hx:NdC w b (off+i*5) x an nn cn (some ⟨kb,ko,none⟩) 3 ck) (hk0:w.cell? ⟨kb,ko,none⟩=some (.int .i64 k)) (hkq:w.cell? ⟨kb,ko+2,none⟩=some (.int .i64 l)) (E:Ev) (h1:KidC b off n c k R a1 n1 c1 a2 n2 c2 la ln lc w (.ok (.bool false))) (h2:KidC b off n c l R a1 n1 c1 a2 n2 c2 la ln lc w (E)) :
  Calls Tryz.prog 49 #[.slice (some ⟨b,off,none⟩) n c,.int .i64 i,.agg #[.string R.cl,.string R.us,.int .i64 R.lv,.int .i64 R.nw,.slice a1 n1 c1,.slice a2 n2 c2],.slice la ln lc] w (MAns E w):=by
 have B2:=((Below.refl w.heap.size w).alloc nl (.cells #[.string R.cl,.string R.us,.int .i64 R.lv,.int .i64 R.nw,.slice a1 n1 c1,.slice a2 n2 c2] 40)).alloc (by simp) (.cells #[.int .i64 0,.int .i64 0,.string ⟨#[]⟩,.slice none 0 0] 96)
 obtain ⟨d0,d1,d2,d3,d4⟩:=hx.below B2 hb
 have B3:=B2.alloc B2.size (.cells #[.int .i64 27,.int .i64 x.num,.string x.text,.slice an nn cn,.slice (some ⟨kb,ko,none⟩) 3 ck] 98)
 have R1:=(Row.new (w.alloc (.cells #[.string R.cl,.string R.us,.int .i64 R.lv,.int .i64 R.nw,.slice a1 n1 c1,.slice a2 n2 c2] 40)) #[.int .i64 0,.int .i64 0,.string ⟨#[]⟩,.slice none 0 0] 96).alloc (.cells #[.int .i64 27,.int .i64 x.num,.string x.text,.slice an nn cn,.slice (some ⟨kb,ko,none⟩) 3 ck] 98)
 have R2:=Row.new ((w.alloc (.cells #[.string R.cl,.string R.us,.int .i64 R.lv,.int .i64 R.nw,.slice a1 n1 c1,.slice a2 n2 c2] 40)).alloc (.cells #[.int .i64 0,.int .i64 0,.string ⟨#[]⟩,.slice none 0 0] 96)) #[.int .i64 27,.int .i64 x.num,.string x.text,.slice an nn cn,.slice (some ⟨kb,ko,none⟩) 3 ck] 98
 have R0:=((Row.new w #[.string R.cl,.string R.us,.int .i64 R.lv,.int .i64 R.nw,.slice a1 n1 c1,.slice a2 n2 c2] 40).alloc (.cells #[.int .i64 0,.int .i64 0,.string ⟨#[]⟩,.slice none 0 0] 96)).alloc (.cells #[.int .i64 27,.int .i64 x.num,.string x.text,.slice an nn cn,.slice (some ⟨kb,ko,none⟩) 3 ck] 98)
 simp only [World.size_alloc] at R1 R2
 have iin:(i:Int)<(n:Int):=by omega
 rw [ho] at d0
 have k0:=(B3.cell (p:=⟨kb,ko,none⟩) hkb).trans hk0
 have kQ:=(B3.cell (p:=⟨kb,ko+2,none⟩) hkb).trans hkq
 have nk0:(0:Int)<((3:Nat):Int):=by omega
 have HC:=hide h1
 have HC2:=hide h2
 have D3:=B3.drew
 have D3a:=D3.alloc D3.size (.cells #[.int .i64 0,.int .i64 0,.string ⟨#[]⟩,.slice none 0 0] 96)
 have RZ:=Row.new (((w.alloc (.cells #[.string R.cl,.string R.us,.int .i64 R.lv,.int .i64 R.nw,.slice a1 n1 c1,.slice a2 n2 c2] 40)).alloc (.cells #[.int .i64 0,.int .i64 0,.string ⟨#[]⟩,.slice none 0 0] 96)).alloc (.cells #[.int .i64 27,.int .i64 x.num,.string x.text,.slice an nn cn,.slice (some ⟨kb,ko,none⟩) 3 ck] 98)).drew #[.int .i64 0,.int .i64 0,.string ⟨#[]⟩,.slice none 0 0] 96
 simp only [World.size_alloc,World.size_drew] at RZ
 have keep:∀ w',Below (((w.alloc (.cells #[.string R.cl,.string R.us,.int .i64 R.lv,.int .i64 R.nw,.slice a1 n1 c1,.slice a2 n2 c2] 40)).alloc (.cells #[.int .i64 0,.int .i64 0,.string ⟨#[]⟩,.slice none 0 0] 96)).alloc (.cells #[.int .i64 27,.int .i64 x.num,.string x.text,.slice an nn cn,.slice (some ⟨kb,ko,none⟩) 3 ck] 98)).heap.size (((w.alloc (.cells #[.string R.cl,.string R.us,.int .i64 R.lv,.int .i64 R.nw,.slice a1 n1 c1,.slice a2 n2 c2] 40)).alloc (.cells #[.int .i64 0,.int .i64 0,.string ⟨#[]⟩,.slice none 0 0] 96)).alloc (.cells #[.int .i64 27,.int .i64 x.num,.string x.text,.slice an nn cn,.slice (some ⟨kb,ko,none⟩) 3 ck] 98)) w'→((fun w'=>w'.cell? ⟨w.heap.size+1+1,4,none⟩=some (.slice (some ⟨kb,ko,none⟩) 3 ck)∧w'.cell? ⟨kb,ko,none⟩=some (.int .i64 k)∧w'.cell? ⟨w.heap.size,0,none⟩=some (.string R.cl)∧w'.cell? ⟨w.heap.size,1,none⟩=some (.string R.us)∧w'.cell? ⟨w.heap.size,2,none⟩=some (.int .i64 R.lv)∧w'.cell? ⟨w.heap.size,3,none⟩=some (.int .i64 R.nw)∧w'.cell? ⟨w.heap.size,4,none⟩=some (.slice a1 n1 c1)∧w'.cell? ⟨w.heap.size,5,none⟩=some (.slice a2 n2 c2)) w'):=fun w' hb=>⟨(R2.after hb nl).cell 4,(hb.cell (p:=⟨kb,ko,none⟩) (by simp;omega)).trans k0,(R0.after hb nl).cell 0,(R0.after hb nl).cell 1,(R0.after hb nl).cell 2,(R0.after hb nl).cell 3,(R0.after hb nl).cell 4,(R0.after hb nl).cell 5⟩
 have KP:=hide keep
 have HW3:=hide (Below.refl (((w.alloc (.cells #[.string R.cl,.string R.us,.int .i64 R.lv,.int .i64 R.nw,.slice a1 n1 c1,.slice a2 n2 c2] 40)).alloc (.cells #[.int .i64 0,.int .i64 0,.string ⟨#[]⟩,.slice none 0 0] 96)).alloc (.cells #[.int .i64 27,.int .i64 x.num,.string x.text,.slice an nn cn,.slice (some ⟨kb,ko,none⟩) 3 ck] 98)).heap.size (((w.alloc (.cells #[.string R.cl,.string R.us,.int .i64 R.lv,.int .i64 R.nw,.slice a1 n1 c1,.slice a2 n2 c2] 40)).alloc (.cells #[.int .i64 0,.int .i64 0,.string ⟨#[]⟩,.slice none 0 0] 96)).alloc (.cells #[.int .i64 27,.int .i64 x.num,.string x.text,.slice an nn cn,.slice (some ⟨kb,ko,none⟩) 3 ck] 98)))
 have HW3a:=hide ((Below.refl (((w.alloc (.cells #[.string R.cl,.string R.us,.int .i64 R.lv,.int .i64 R.nw,.slice a1 n1 c1,.slice a2 n2 c2] 40)).alloc (.cells #[.int .i64 0,.int .i64 0,.string ⟨#[]⟩,.slice none 0 0] 96)).alloc (.cells #[.int .i64 27,.int .i64 x.num,.string x.text,.slice an nn cn,.slice (some ⟨kb,ko,none⟩) 3 ck] 98)).heap.size (((w.alloc (.cells #[.string R.cl,.string R.us,.int .i64 R.lv,.int .i64 R.nw,.slice a1 n1 c1,.slice a2 n2 c2] 40)).alloc (.cells #[.int .i64 0,.int .i64 0,.string ⟨#[]⟩,.slice none 0 0] 96)).alloc (.cells #[.int .i64 27,.int .i64 x.num,.string x.text,.slice an nn cn,.slice (some ⟨kb,ko,none⟩) 3 ck] 98))).drew.alloc (by simp) (.cells #[.int .i64 0,.int .i64 0,.string ⟨#[]⟩,.slice none 0 0] 96))
 have q1:=keep _ (Below.refl _ _).drew
 have q2:=keep _ ((Below.refl _ _).drew.alloc (by simp) (.cells #[.int .i64 0,.int .i64 0,.string ⟨#[]⟩,.slice none 0 0] 96))
 clear hx h1 h2 hk0 hkq keep ho
 go_enter Tryz.func49,Tryz.ntmps49
 go_wp2_with fail
 go_region_held3 (fun w'=>w'.cell? ⟨w.heap.size+1+1,4,none⟩=some (.slice (some ⟨kb,ko,none⟩) 3 ck)∧w'.cell? ⟨kb,ko,none⟩=some (.int .i64 k)∧w'.cell? ⟨w.heap.size,0,none⟩=some (.string R.cl)∧w'.cell? ⟨w.heap.size,1,none⟩=some (.string R.us)∧w'.cell? ⟨w.heap.size,2,none⟩=some (.int .i64 R.lv)∧w'.cell? ⟨w.heap.size,3,none⟩=some (.int .i64 R.nw)∧w'.cell? ⟨w.heap.size,4,none⟩=some (.slice a1 n1 c1)∧w'.cell? ⟨w.heap.size,5,none⟩=some (.slice a2 n2 c2)) (first | assumption | fail)
  (first
   | (go_at_call 49;refine (uh HC _ D3).mono ?_;rintro r w4 ⟨⟨_,nm,tx,xa,xn,xc,rfl,rfl,hv⟩,hb4⟩;have G4:=(uh HW3).drew.trans (hb4.mono (by simp));have q4:=uh KP _ G4;have q5:=uh KP _ (G4.alloc G4.size (.cells #[.int .i64 0,.int .i64 0,.string ⟨#[]⟩,.slice none 0 0] 96));have G5:=G4.alloc G4.size (.cells #[.int .i64 0,.int .i64 nm,.string tx,.slice xa xn xc] 96);have q6:=uh KP _ G5)
   | (go_at_call 49;refine (uh HC _ D3a).mono ?_;rintro r w4 ⟨⟨_,nm,tx,xa,xn,xc,rfl,rfl,hv⟩,hb4⟩;have G4:=(uh HW3a).trans (hb4.mono (by simp));have q4:=uh KP _ G4;have RF:=RZ.after hb4 (by simp);obtain ⟨x0,x1,x2,x3⟩:=row4V RF;have f0:=(fun j=>RF.frozen j);have Q1:=RF.set 0 (.int .i64 0);have f1:=(fun j=>Q1.frozen j);have Q2:=Q1.set 1 (.int .i64 nm);have f2:=(fun j=>Q2.frozen j);have Q3:=Q2.set 2 (.string tx);have f3:=(fun j=>Q3.frozen j);have Q4:=Q3.set 3 (.slice xa xn xc);have G5:=(((G4.setCell (p:=⟨w.heap.size+1+1+1,0,none⟩) (by simp) (.int .i64 0)).setCell (p:=⟨w.heap.size+1+1+1,1,none⟩) (by simp) (.int .i64 nm)).setCell (p:=⟨w.heap.size+1+1+1,2,none⟩) (by simp) (.string tx)).setCell (p:=⟨w.heap.size+1+1+1,3,none⟩) (by simp) (.slice xa xn xc);have q5:=uh KP _ G5))
 all_goals clear q1 q2 q4 HW3 HW3a KP HC D3 D3a
 all_goals first
 | (have RF5:=Row.new w4 #[.int .i64 0,.int .i64 nm,.string tx,.slice xa xn xc] 96
    have LF:w4.heap.size≠w.heap.size+1:=by have:=G4.size;simp at this;omega
    have HV:=hide (hv.below ((Below.refl w4.heap.size w4).alloc nl (.cells #[.int .i64 0,.int .i64 nm,.string tx,.slice xa xn xc] 96)) nl)
    clear hv
    clear q5 q6 G4 hb4 RZ
    generalize w4.alloc (Obj.cells #[Value.int IntKind.i64 0,Value.int IntKind.i64 nm,Value.string tx,Value.slice xa xn xc] 96)=w5 at *
    generalize w4.heap.size=F at *)
 | (have RF5:=Q4
    have LF:w.heap.size+1+1+1≠w.heap.size+1:=by omega
    have HV:=hide (hv.set4 RF)
    clear hv
    clear x0 x1 x2 x3 f0 f1 f2 f3 Q1 Q2 Q3 RF q5 Q4 G4 hb4 RZ
    generalize (((w4.setCell ⟨w.heap.size+1+1+1,0,none⟩ (Value.int IntKind.i64 0)).setCell ⟨w.heap.size+1+1+1,1,none⟩ (Value.int IntKind.i64 nm)).setCell ⟨w.heap.size+1+1+1,2,none⟩ (Value.string tx)).setCell ⟨w.heap.size+1+1+1,3,none⟩ (Value.slice xa xn xc)=w5 at *
    generalize w.heap.size+1+1+1=F at *)
 all_goals
  obtain rfl:nm=0:=(uh HV).1
  obtain ⟨y0,y1,y2,y3⟩:=row4V RF5
  have R5:=R1.after G5 (by simp)
  have NK5:=(R2.after G5 (by simp)).cell 4
  have NO5:=(R2.after G5 (by simp)).cell 0
  have kq:=(G5.cell (p:=⟨kb,ko+2,none⟩) (by simp;omega)).trans kQ
  have HB5:=hide (B3.trans (G5.mono (by simp;omega)))
  have HR5:=hide R5
  have HR0:=hide (R0.after G5 (by simp))
  have lkb:kb<w5.heap.size:=by have:=G5.size;simp at this;omega
  have L0:w.heap.size+1+1<w5.heap.size:=by have:=G5.size;simp at this;omega
  have lk1:kb≠w.heap.size+1:=by omega
  have LFX:F≠w.heap.size+1:=LF
  have R25:=R2.after G5 (by simp)
  have R05:=R0.after G5 (by simp)
  have keep2:∀ w',Below w5.heap.size w5 w'→((fun w'=>w'.cell? ⟨w.heap.size+1+1,4,none⟩=some (.slice (some ⟨kb,ko,none⟩) 3 ck)∧w'.cell? ⟨kb,ko+2,none⟩=some (.int .i64 l)∧w'.cell? ⟨w.heap.size,0,none⟩=some (.string R.cl)∧w'.cell? ⟨w.heap.size,1,none⟩=some (.string R.us)∧w'.cell? ⟨w.heap.size,2,none⟩=some (.int .i64 R.lv)∧w'.cell? ⟨w.heap.size,3,none⟩=some (.int .i64 R.nw)∧w'.cell? ⟨w.heap.size,4,none⟩=some (.slice a1 n1 c1)∧w'.cell? ⟨w.heap.size,5,none⟩=some (.slice a2 n2 c2)∧w'.cell? ⟨F,1,none⟩=some (.int .i64 0)) w'):=fun w' hb=>⟨(R25.after hb nl).cell 4,(hb.cell (p:=⟨kb,ko+2,none⟩) lkb).trans kq,(R05.after hb nl).cell 0,(R05.after hb nl).cell 1,(R05.after hb nl).cell 2,(R05.after hb nl).cell 3,(R05.after hb nl).cell 4,(R05.after hb nl).cell 5,(RF5.after hb nl).cell 1⟩
  have KP2:=hide keep2
  have HW5:=hide (Below.refl w5.heap.size w5).drew
  have wq:IntKind.i64.wrap (2 - 0)=2:=rfl
  have wq2:IntKind.i64.wrap 2=2:=rfl
  have lz:(0:Int)≤2:=by omega
  have lq2:(2:Int)<3:=by omega
  have lq:(2:Int)<((3:Nat):Int):=by omega
  have q1:=keep2 _ (Below.refl _ _).drew
  have WF2:=hide (show w.heap.size+1+1≠w.heap.size+1∧kb≠w.heap.size+1∧w.heap.size≠w.heap.size+1∧F≠w.heap.size+1 from ⟨by omega,lk1,by omega,LFX⟩)
  clear keep2 R25 R05 RF5 lkb L0 lk1 LFX LF
  clear B2 B3 R0 R1 R2 G5 R5 d0 d1 d2 d3 d4 k0 hb hkb nk0 iin hin hn kQ
  go_wp2_with fail
  go_region_held3 (fun w'=>w'.cell? ⟨w.heap.size+1+1,4,none⟩=some (.slice (some ⟨kb,ko,none⟩) 3 ck)∧w'.cell? ⟨kb,ko+2,none⟩=some (.int .i64 l)∧w'.cell? ⟨w.heap.size,0,none⟩=some (.string R.cl)∧w'.cell? ⟨w.heap.size,1,none⟩=some (.string R.us)∧w'.cell? ⟨w.heap.size,2,none⟩=some (.int .i64 R.lv)∧w'.cell? ⟨w.heap.size,3,none⟩=some (.int .i64 R.nw)∧w'.cell? ⟨w.heap.size,4,none⟩=some (.slice a1 n1 c1)∧w'.cell? ⟨w.heap.size,5,none⟩=some (.slice a2 n2 c2)∧w'.cell? ⟨F,1,none⟩=some (.int .i64 0)) (first | assumption | fail)
   (first
    | (go_at_call 49;refine (uh HC2 _ ((uh HB5).drew)).mono ?_;intro r w6 hr;obtain ⟨cd,rn,rt,ra,rk,rc,rfl,hm,hb6⟩:=hr.form;have R6:=((uh HR5).after (uh HW5) nl).after hb6 (by simp);have HM:=hide (hm.set4 R6);clear hm hr;have q6:=uh KP2 _ ((uh HW5).trans (hb6.mono (by simp)));obtain ⟨q60,q61,q62,q63,q64,q65,q66,q67,q68⟩:=q6;have q7:=(show ((fun w'=>w'.cell? ⟨w.heap.size+1+1,4,none⟩=some (.slice (some ⟨kb,ko,none⟩) 3 ck)∧w'.cell? ⟨kb,ko+2,none⟩=some (.int .i64 l)∧w'.cell? ⟨w.heap.size,0,none⟩=some (.string R.cl)∧w'.cell? ⟨w.heap.size,1,none⟩=some (.string R.us)∧w'.cell? ⟨w.heap.size,2,none⟩=some (.int .i64 R.lv)∧w'.cell? ⟨w.heap.size,3,none⟩=some (.int .i64 R.nw)∧w'.cell? ⟨w.heap.size,4,none⟩=some (.slice a1 n1 c1)∧w'.cell? ⟨w.heap.size,5,none⟩=some (.slice a2 n2 c2)∧w'.cell? ⟨F,1,none⟩=some (.int .i64 0)) ((((w6.setCell ⟨w.heap.size+1,0,none⟩ (.int .i64 cd)).setCell ⟨w.heap.size+1,1,none⟩ (.int .i64 rn)).setCell ⟨w.heap.size+1,2,none⟩ (.string rt)).setCell ⟨w.heap.size+1,3,none⟩ (.slice ra rk rc))) from ⟨(cell_set4 (uh WF2).1 _ _ _ _).trans q60,(cell_set4 (uh WF2).2.1 _ _ _ _).trans q61,(cell_set4 (uh WF2).2.2.1 _ _ _ _).trans q62,(cell_set4 (uh WF2).2.2.1 _ _ _ _).trans q63,(cell_set4 (uh WF2).2.2.1 _ _ _ _).trans q64,(cell_set4 (uh WF2).2.2.1 _ _ _ _).trans q65,(cell_set4 (uh WF2).2.2.1 _ _ _ _).trans q66,(cell_set4 (uh WF2).2.2.1 _ _ _ _).trans q67,(cell_set4 (uh WF2).2.2.2 _ _ _ _).trans q68⟩);have q6:(fun w'=>w'.cell? ⟨w.heap.size+1+1,4,none⟩=some (.slice (some ⟨kb,ko,none⟩) 3 ck)∧w'.cell? ⟨kb,ko+2,none⟩=some (.int .i64 l)∧w'.cell? ⟨w.heap.size,0,none⟩=some (.string R.cl)∧w'.cell? ⟨w.heap.size,1,none⟩=some (.string R.us)∧w'.cell? ⟨w.heap.size,2,none⟩=some (.int .i64 R.lv)∧w'.cell? ⟨w.heap.size,3,none⟩=some (.int .i64 R.nw)∧w'.cell? ⟨w.heap.size,4,none⟩=some (.slice a1 n1 c1)∧w'.cell? ⟨w.heap.size,5,none⟩=some (.slice a2 n2 c2)∧w'.cell? ⟨F,1,none⟩=some (.int .i64 0)) w6:=⟨q60,q61,q62,q63,q64,q65,q66,q67,q68⟩;clear q60 q61 q62 q63 q64 q65 q66 q67 q68;obtain ⟨x0,x1,x2,x3⟩:=row4V R6;have f0:=(fun j=>R6.frozen j);have Q1:=R6.set 0 (.int .i64 cd);have f1:=(fun j=>Q1.frozen j);have Q2:=Q1.set 1 (.int .i64 rn);have f2:=(fun j=>Q2.frozen j);have Q3:=Q2.set 2 (.string rt);have f3:=(fun j=>Q3.frozen j);have Q4:=Q3.set 3 (.slice ra rk rc);obtain ⟨p0,p1,p2,p3⟩:=row4V Q4;have HBE:=hide ((((((uh HB5).drew.trans (hb6.mono (by have:=(uh HB5).size;simp;omega))).setCell (p:=⟨w.heap.size+1,0,none⟩) (by simp) (.int .i64 cd)).setCell (p:=⟨w.heap.size+1,1,none⟩) (by simp) (.int .i64 rn)).setCell (p:=⟨w.heap.size+1,2,none⟩) (by simp) (.string rt)).setCell (p:=⟨w.heap.size+1,3,none⟩) (by simp) (.slice ra rk rc));clear Q1 Q2 Q3 Q4 R6 hb6)
    | fail)
  go_wp2_with fail
  refine bodyPost_ret (v:=.agg #[.int .i64 cd,.int .i64 rn,.string rt,.slice ra rk rc]) (by simp [results,Tryz.results49,go_sem,p0,p1,p2,p3]) rfl ((uh HM).ans (uh HBE))

end Go.Proofs.YtedlocniojlhfaaGreatDoor
