/-
  The model's evaluation of inner nodes. Own work.
-/
import Derived.Test.YtedlocniojlhfaaGreatDoorDVW
namespace Go.Proofs.YtedlocniojlhfaaGreatDoor
set_option maxRecDepth 100000
set_option maxHeartbeats 6400000
open Go.RowKit
set_option linter.unusedVariables false

theorem eval_conn25err (x:Nd) (ho:x.op=25) (e:Int) (k l:Nat) (b off n c i:Nat) (hin:i<n) (hn:n≤1048576) (an:Option Addr) (nn cn:Nat) (kb ko ck:Nat) (R:Rq) (a1:Option Addr) (n1 c1:Nat) (a2:Option Addr) (n2 c2:Nat) (la:Option Addr) (ln lc:Nat) (w:World) (hb:b<w.heap.size) (hkb:kb<w.heap.size) (hx:NdC w b (off+i*5) x an nn cn (some ⟨kb,ko,none⟩) 2 ck) (hk0:w.cell? ⟨kb,ko,none⟩=some (.int .i64 k)) (hkq:w.cell? ⟨kb,ko+1,none⟩=some (.int .i64 l)) (h1:KidC b off n c k R a1 n1 c1 a2 n2 c2 la ln lc w (.ok (.bool true))) (h2:KidC b off n c l R a1 n1 c1 a2 n2 c2 la ln lc w (.err e)) :
  Calls Tryz.prog 49 #[.slice (some ⟨b,off,none⟩) n c,.int .i64 i,.agg #[.string R.cl,.string R.us,.int .i64 R.lv,.int .i64 R.nw,.slice a1 n1 c1,.slice a2 n2 c2],.slice la ln lc] w (MAns (.err e) w):=by
 have B2:=((Below.refl w.heap.size w).alloc nl (.cells #[.string R.cl,.string R.us,.int .i64 R.lv,.int .i64 R.nw,.slice a1 n1 c1,.slice a2 n2 c2] 40)).alloc (by simp) (.cells #[.int .i64 0,.int .i64 0,.string ⟨#[]⟩,.slice none 0 0] 96)
 obtain ⟨d0,d1,d2,d3,d4⟩:=hx.below B2 hb
 have B3:=B2.alloc B2.size (.cells #[.int .i64 25,.int .i64 x.num,.string x.text,.slice an nn cn,.slice (some ⟨kb,ko,none⟩) 2 ck] 98)
 have R1:=(Row.new (w.alloc (.cells #[.string R.cl,.string R.us,.int .i64 R.lv,.int .i64 R.nw,.slice a1 n1 c1,.slice a2 n2 c2] 40)) #[.int .i64 0,.int .i64 0,.string ⟨#[]⟩,.slice none 0 0] 96).alloc (.cells #[.int .i64 25,.int .i64 x.num,.string x.text,.slice an nn cn,.slice (some ⟨kb,ko,none⟩) 2 ck] 98)
 have R2:=Row.new ((w.alloc (.cells #[.string R.cl,.string R.us,.int .i64 R.lv,.int .i64 R.nw,.slice a1 n1 c1,.slice a2 n2 c2] 40)).alloc (.cells #[.int .i64 0,.int .i64 0,.string ⟨#[]⟩,.slice none 0 0] 96)) #[.int .i64 25,.int .i64 x.num,.string x.text,.slice an nn cn,.slice (some ⟨kb,ko,none⟩) 2 ck] 98
 have R0:=((Row.new w #[.string R.cl,.string R.us,.int .i64 R.lv,.int .i64 R.nw,.slice a1 n1 c1,.slice a2 n2 c2] 40).alloc (.cells #[.int .i64 0,.int .i64 0,.string ⟨#[]⟩,.slice none 0 0] 96)).alloc (.cells #[.int .i64 25,.int .i64 x.num,.string x.text,.slice an nn cn,.slice (some ⟨kb,ko,none⟩) 2 ck] 98)
 simp only [World.size_alloc] at R1 R2
 have iin:(i:Int)<(n:Int):=by omega
 rw [ho] at d0
 have k0:=(B3.cell (p:=⟨kb,ko,none⟩) hkb).trans hk0
 have kQ:=(B3.cell (p:=⟨kb,ko+1,none⟩) hkb).trans hkq
 have nk0:(0:Int)<((2:Nat):Int):=by omega
 have HC:=hide h1
 have HC2:=hide h2
 have D3:=B3.drew
 have D3a:=D3.alloc D3.size (.cells #[.int .i64 0,.int .i64 0,.string ⟨#[]⟩,.slice none 0 0] 96)
 have RZ:=Row.new (((w.alloc (.cells #[.string R.cl,.string R.us,.int .i64 R.lv,.int .i64 R.nw,.slice a1 n1 c1,.slice a2 n2 c2] 40)).alloc (.cells #[.int .i64 0,.int .i64 0,.string ⟨#[]⟩,.slice none 0 0] 96)).alloc (.cells #[.int .i64 25,.int .i64 x.num,.string x.text,.slice an nn cn,.slice (some ⟨kb,ko,none⟩) 2 ck] 98)).drew #[.int .i64 0,.int .i64 0,.string ⟨#[]⟩,.slice none 0 0] 96
 simp only [World.size_alloc,World.size_drew] at RZ
 have keep:∀ w',Below (((w.alloc (.cells #[.string R.cl,.string R.us,.int .i64 R.lv,.int .i64 R.nw,.slice a1 n1 c1,.slice a2 n2 c2] 40)).alloc (.cells #[.int .i64 0,.int .i64 0,.string ⟨#[]⟩,.slice none 0 0] 96)).alloc (.cells #[.int .i64 25,.int .i64 x.num,.string x.text,.slice an nn cn,.slice (some ⟨kb,ko,none⟩) 2 ck] 98)).heap.size (((w.alloc (.cells #[.string R.cl,.string R.us,.int .i64 R.lv,.int .i64 R.nw,.slice a1 n1 c1,.slice a2 n2 c2] 40)).alloc (.cells #[.int .i64 0,.int .i64 0,.string ⟨#[]⟩,.slice none 0 0] 96)).alloc (.cells #[.int .i64 25,.int .i64 x.num,.string x.text,.slice an nn cn,.slice (some ⟨kb,ko,none⟩) 2 ck] 98)) w'→((fun w'=>w'.cell? ⟨w.heap.size+1+1,4,none⟩=some (.slice (some ⟨kb,ko,none⟩) 2 ck)∧w'.cell? ⟨kb,ko,none⟩=some (.int .i64 k)∧w'.cell? ⟨w.heap.size,0,none⟩=some (.string R.cl)∧w'.cell? ⟨w.heap.size,1,none⟩=some (.string R.us)∧w'.cell? ⟨w.heap.size,2,none⟩=some (.int .i64 R.lv)∧w'.cell? ⟨w.heap.size,3,none⟩=some (.int .i64 R.nw)∧w'.cell? ⟨w.heap.size,4,none⟩=some (.slice a1 n1 c1)∧w'.cell? ⟨w.heap.size,5,none⟩=some (.slice a2 n2 c2)) w'):=fun w' hb=>⟨(R2.after hb nl).cell 4,(hb.cell (p:=⟨kb,ko,none⟩) (by simp;omega)).trans k0,(R0.after hb nl).cell 0,(R0.after hb nl).cell 1,(R0.after hb nl).cell 2,(R0.after hb nl).cell 3,(R0.after hb nl).cell 4,(R0.after hb nl).cell 5⟩
 have KP:=hide keep
 have HW3:=hide (Below.refl (((w.alloc (.cells #[.string R.cl,.string R.us,.int .i64 R.lv,.int .i64 R.nw,.slice a1 n1 c1,.slice a2 n2 c2] 40)).alloc (.cells #[.int .i64 0,.int .i64 0,.string ⟨#[]⟩,.slice none 0 0] 96)).alloc (.cells #[.int .i64 25,.int .i64 x.num,.string x.text,.slice an nn cn,.slice (some ⟨kb,ko,none⟩) 2 ck] 98)).heap.size (((w.alloc (.cells #[.string R.cl,.string R.us,.int .i64 R.lv,.int .i64 R.nw,.slice a1 n1 c1,.slice a2 n2 c2] 40)).alloc (.cells #[.int .i64 0,.int .i64 0,.string ⟨#[]⟩,.slice none 0 0] 96)).alloc (.cells #[.int .i64 25,.int .i64 x.num,.string x.text,.slice an nn cn,.slice (some ⟨kb,ko,none⟩) 2 ck] 98)))
 have HW3a:=hide ((Below.refl (((w.alloc (.cells #[.string R.cl,.string R.us,.int .i64 R.lv,.int .i64 R.nw,.slice a1 n1 c1,.slice a2 n2 c2] 40)).alloc (.cells #[.int .i64 0,.int .i64 0,.string ⟨#[]⟩,.slice none 0 0] 96)).alloc (.cells #[.int .i64 25,.int .i64 x.num,.string x.text,.slice an nn cn,.slice (some ⟨kb,ko,none⟩) 2 ck] 98)).heap.size (((w.alloc (.cells #[.string R.cl,.string R.us,.int .i64 R.lv,.int .i64 R.nw,.slice a1 n1 c1,.slice a2 n2 c2] 40)).alloc (.cells #[.int .i64 0,.int .i64 0,.string ⟨#[]⟩,.slice none 0 0] 96)).alloc (.cells #[.int .i64 25,.int .i64 x.num,.string x.text,.slice an nn cn,.slice (some ⟨kb,ko,none⟩) 2 ck] 98))).drew.alloc (by simp) (.cells #[.int .i64 0,.int .i64 0,.string ⟨#[]⟩,.slice none 0 0] 96))
 have q1:=keep _ (Below.refl _ _).drew
 have q2:=keep _ ((Below.refl _ _).drew.alloc (by simp) (.cells #[.int .i64 0,.int .i64 0,.string ⟨#[]⟩,.slice none 0 0] 96))
 clear hx h1 hk0 hkq keep ho h2
 go_enter Tryz.func49,Tryz.ntmps49
 go_wp2_with fail
 go_region_held3 (fun w'=>w'.cell? ⟨w.heap.size+1+1,4,none⟩=some (.slice (some ⟨kb,ko,none⟩) 2 ck)∧w'.cell? ⟨kb,ko,none⟩=some (.int .i64 k)∧w'.cell? ⟨w.heap.size,0,none⟩=some (.string R.cl)∧w'.cell? ⟨w.heap.size,1,none⟩=some (.string R.us)∧w'.cell? ⟨w.heap.size,2,none⟩=some (.int .i64 R.lv)∧w'.cell? ⟨w.heap.size,3,none⟩=some (.int .i64 R.nw)∧w'.cell? ⟨w.heap.size,4,none⟩=some (.slice a1 n1 c1)∧w'.cell? ⟨w.heap.size,5,none⟩=some (.slice a2 n2 c2)) (first | assumption | fail)
  (first
   | (go_at_call 49;refine (uh HC _ D3).mono ?_;rintro r w4 ⟨⟨_,nm,tx,xa,xn,xc,rfl,rfl,hv⟩,hb4⟩;have G4:=(uh HW3).drew.trans (hb4.mono (by simp));have q4:=uh KP _ G4;have q5:=uh KP _ (G4.alloc G4.size (.cells #[.int .i64 0,.int .i64 0,.string ⟨#[]⟩,.slice none 0 0] 96));have G5:=G4.alloc G4.size (.cells #[.int .i64 0,.int .i64 nm,.string tx,.slice xa xn xc] 96);have q6:=uh KP _ G5)
   | (go_at_call 49;refine (uh HC _ D3a).mono ?_;rintro r w4 ⟨⟨_,nm,tx,xa,xn,xc,rfl,rfl,hv⟩,hb4⟩;have G4:=(uh HW3a).trans (hb4.mono (by simp));have q4:=uh KP _ G4;have RF:=RZ.after hb4 (by simp);obtain ⟨x0,x1,x2,x3⟩:=row4V RF;have f0:=(fun j=>RF.frozen j);have Q1:=RF.set 0 (.int .i64 0);have f1:=(fun j=>Q1.frozen j);have Q2:=Q1.set 1 (.int .i64 nm);have f2:=(fun j=>Q2.frozen j);have Q3:=Q2.set 2 (.string tx);have f3:=(fun j=>Q3.frozen j);have Q4:=Q3.set 3 (.slice xa xn xc);have G5:=(((G4.setCell (p:=⟨w.heap.size+1+1+1,0,none⟩) (by simp) (.int .i64 0)).setCell (p:=⟨w.heap.size+1+1+1,1,none⟩) (by simp) (.int .i64 nm)).setCell (p:=⟨w.heap.size+1+1+1,2,none⟩) (by simp) (.string tx)).setCell (p:=⟨w.heap.size+1+1+1,3,none⟩) (by simp) (.slice xa xn xc);have q5:=uh KP _ G5))
 all_goals clear q1 q2 q4 HW3 HW3a KP HC D3 D3a
 all_goals first
 | (have RF5:=Row.new w4 #[.int .i64 0,.int .i64 nm,.string tx,.slice xa xn xc] 96
    have LF:w4.heap.size≠w.heap.size+1:=by have:=G4.size;simp at this;omega
    have HV:=hide (hv.below ((Below.refl w4.heap.size w4).alloc nl (.cells #[.int .i64 0,.int .i64 nm,.string tx,.slice xa xn xc] 96)) nl)
    clear hv
    clear q5 q6 G4 hb4 RZ
    generalize w4.alloc (Obj.cells #[Value.int IntKind.i64 0,Value.int IntKind.i64 nm,Value.string tx,Value.slice xa xn xc] 96)=w5 at *
    generalize w4.heap.size=F at *)
 | (have RF5:=Q4
    have LF:w.heap.size+1+1+1≠w.heap.size+1:=by omega
    have HV:=hide (hv.set4 RF)
    clear hv
    clear x0 x1 x2 x3 f0 f1 f2 f3 Q1 Q2 Q3 RF q5 Q4 G4 hb4 RZ
    generalize (((w4.setCell ⟨w.heap.size+1+1+1,0,none⟩ (Value.int IntKind.i64 0)).setCell ⟨w.heap.size+1+1+1,1,none⟩ (Value.int IntKind.i64 nm)).setCell ⟨w.heap.size+1+1+1,2,none⟩ (Value.string tx)).setCell ⟨w.heap.size+1+1+1,3,none⟩ (Value.slice xa xn xc)=w5 at *
    generalize w.heap.size+1+1+1=F at *)
 all_goals
  obtain rfl:nm=1:=(uh HV).1
  obtain ⟨y0,y1,y2,y3⟩:=row4V RF5
  have R5:=R1.after G5 (by simp)
  have NK5:=(R2.after G5 (by simp)).cell 4
  have NO5:=(R2.after G5 (by simp)).cell 0
  have kq:=(G5.cell (p:=⟨kb,ko+1,none⟩) (by simp;omega)).trans kQ
  have HB5:=hide (B3.trans (G5.mono (by simp;omega)))
  have HR5:=hide R5
  have lkb:kb<w5.heap.size:=by have:=G5.size;simp at this;omega
  have R25:=R2.after G5 (by simp)
  have R05:=R0.after G5 (by simp)
  have keep2:∀ w',Below w5.heap.size w5 w'→((fun w'=>w'.cell? ⟨w.heap.size+1+1,4,none⟩=some (.slice (some ⟨kb,ko,none⟩) 2 ck)∧w'.cell? ⟨kb,ko+1,none⟩=some (.int .i64 l)∧w'.cell? ⟨w.heap.size,0,none⟩=some (.string R.cl)∧w'.cell? ⟨w.heap.size,1,none⟩=some (.string R.us)∧w'.cell? ⟨w.heap.size,2,none⟩=some (.int .i64 R.lv)∧w'.cell? ⟨w.heap.size,3,none⟩=some (.int .i64 R.nw)∧w'.cell? ⟨w.heap.size,4,none⟩=some (.slice a1 n1 c1)∧w'.cell? ⟨w.heap.size,5,none⟩=some (.slice a2 n2 c2)) w'):=fun w' hb=>⟨(R25.after hb nl).cell 4,(hb.cell (p:=⟨kb,ko+1,none⟩) lkb).trans kq,(R05.after hb nl).cell 0,(R05.after hb nl).cell 1,(R05.after hb nl).cell 2,(R05.after hb nl).cell 3,(R05.after hb nl).cell 4,(R05.after hb nl).cell 5⟩
  have KP2:=hide keep2
  have HW5:=hide (Below.refl w5.heap.size w5).drew
  have HW5a:=hide ((Below.refl w5.heap.size w5).drew.alloc (by simp) (.cells #[.int .i64 0,.int .i64 0,.string ⟨#[]⟩,.slice none 0 0] 96))
  have RZ2:=Row.new w5.drew #[.int .i64 0,.int .i64 0,.string ⟨#[]⟩,.slice none 0 0] 96
  simp only [World.size_drew] at RZ2
  have q1:=keep2 _ (Below.refl _ _).drew
  have q2:=keep2 _ ((Below.refl _ _).drew.alloc (by simp) (.cells #[.int .i64 0,.int .i64 0,.string ⟨#[]⟩,.slice none 0 0] 96))
  have D5:=(uh HB5).drew
  have D5a:=D5.alloc D5.size (.cells #[.int .i64 0,.int .i64 0,.string ⟨#[]⟩,.slice none 0 0] 96)
  have HRF:=hide RF5
  have HR2:=hide R25
  have lq:(1:Int)<((2:Nat):Int):=by omega
  clear keep2 R25 R05 RF5 lkb LF B2 B3 R0 R1 R2 G5 R5 d0 d1 d2 d3 d4 k0 hb hkb nk0 iin hin hn kQ
  go_wp2_with fail
  go_region_held3 (fun w'=>w'.cell? ⟨w.heap.size+1+1,4,none⟩=some (.slice (some ⟨kb,ko,none⟩) 2 ck)∧w'.cell? ⟨kb,ko+1,none⟩=some (.int .i64 l)∧w'.cell? ⟨w.heap.size,0,none⟩=some (.string R.cl)∧w'.cell? ⟨w.heap.size,1,none⟩=some (.string R.us)∧w'.cell? ⟨w.heap.size,2,none⟩=some (.int .i64 R.lv)∧w'.cell? ⟨w.heap.size,3,none⟩=some (.int .i64 R.nw)∧w'.cell? ⟨w.heap.size,4,none⟩=some (.slice a1 n1 c1)∧w'.cell? ⟨w.heap.size,5,none⟩=some (.slice a2 n2 c2)) (first | assumption | fail)
   (first
    | (go_at_call 49;refine (uh HC2 _ D5).mono ?_;rintro r w6 ⟨⟨cd,rn,rt,ra,rk,rc,rfl,rfl,hce⟩,hb6⟩;have G6:=(uh HW5).trans (hb6.mono (by simp));have q6:=uh KP2 _ G6;have q7:=uh KP2 _ (G6.alloc G6.size (.cells #[.int .i64 0,.int .i64 0,.string ⟨#[]⟩,.slice none 0 0] 96));have G7:=G6.alloc G6.size (.cells #[.int .i64 cd,.int .i64 rn,.string rt,.slice ra rk rc] 96);have q8:=uh KP2 _ G7)
    | (go_at_call 49;refine (uh HC2 _ D5a).mono ?_;rintro r w6 ⟨⟨cd,rn,rt,ra,rk,rc,rfl,rfl,hce⟩,hb6⟩;have G6:=(uh HW5a).trans (hb6.mono (by simp));have q6:=uh KP2 _ G6;have RG:=RZ2.after hb6 (by simp);obtain ⟨x0,x1,x2,x3⟩:=row4V RG;have f0:=(fun j=>RG.frozen j);have Q1:=RG.set 0 (.int .i64 cd);have f1:=(fun j=>Q1.frozen j);have Q2:=Q1.set 1 (.int .i64 rn);have f2:=(fun j=>Q2.frozen j);have Q3:=Q2.set 2 (.string rt);have f3:=(fun j=>Q3.frozen j);have Q4:=Q3.set 3 (.slice ra rk rc);obtain ⟨p0,p1,p2,p3⟩:=row4V Q4;have G7:=((((G6.setCell (p:=⟨w5.heap.size,0,none⟩) (by simp) (.int .i64 cd)).setCell (p:=⟨w5.heap.size,1,none⟩) (by simp) (.int .i64 rn)).setCell (p:=⟨w5.heap.size,2,none⟩) (by simp) (.string rt)).setCell (p:=⟨w5.heap.size,3,none⟩) (by simp) (.slice ra rk rc));have q7:=uh KP2 _ G7))
  all_goals clear q1 q2 q6 q7 HW5 HW5a KP2 HC2 D5 D5a kq lq
  all_goals first
  | (have RG7:=Row.new w6 #[.int .i64 cd,.int .i64 rn,.string rt,.slice ra rk rc] 96
     clear q8 G6 hb6 RZ2
     generalize w6.alloc (Obj.cells #[Value.int IntKind.i64 cd,Value.int IntKind.i64 rn,Value.string rt,Value.slice ra rk rc] 96)=w7 at *
     generalize w6.heap.size=G at *)
  | (have RG7:=Q4
     clear x0 x1 x2 x3 f0 f1 f2 f3 p0 p1 p2 p3 Q1 Q2 Q3 Q4 RG G6 hb6 RZ2
     generalize (((w6.setCell ⟨w5.heap.size,0,none⟩ (Value.int IntKind.i64 cd)).setCell ⟨w5.heap.size,1,none⟩ (Value.int IntKind.i64 rn)).setCell ⟨w5.heap.size,2,none⟩ (Value.string rt)).setCell ⟨w5.heap.size,3,none⟩ (Value.slice ra rk rc)=w7 at *)
  all_goals
   obtain ⟨y0,y1,y2,y3⟩:=row4V RG7
   have R7:=(uh HR5).after G7 nl
   have NO7:=((uh HR2).after G7 nl).cell 0
   obtain ⟨x0,x1,x2,x3⟩:=row4V R7
   have f0:=fun j=>R7.frozen j
   have Q1:=R7.set 0 (.int .i64 cd)
   have f1:=fun j=>Q1.frozen j
   have Q2:=Q1.set 1 (.int .i64 rn)
   have f2:=fun j=>Q2.frozen j
   have Q3:=Q2.set 2 (.string rt)
   have f3:=fun j=>Q3.frozen j
   have Q4:=Q3.set 3 (.slice ra rk rc)
   obtain ⟨p0,p1,p2,p3⟩:=row4V Q4
   have HBE:=hide ((((((uh HB5).trans (G7.mono (uh HB5).size)).setCell (p:=⟨w.heap.size+1,0,none⟩) (by simp) (.int .i64 cd)).setCell (p:=⟨w.heap.size+1,1,none⟩) (by simp) (.int .i64 rn)).setCell (p:=⟨w.heap.size+1,2,none⟩) (by simp) (.string rt)).setCell (p:=⟨w.heap.size+1,3,none⟩) (by simp) (.slice ra rk rc))
   skip
   clear Q1 Q2 Q3 Q4 R7 RG7 G7
   go_wp2_with fail
   refine bodyPost_ret (v:=.agg #[.int .i64 cd,.int .i64 rn,.string rt,.slice ra rk rc]) (by simp [results,Tryz.results49,go_sem,p0,p1,p2,p3]) rfl ⟨⟨_,_,_,_,_,_,rfl,rfl,hce⟩,uh HBE⟩

end Go.Proofs.YtedlocniojlhfaaGreatDoor
