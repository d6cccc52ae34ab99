/-
  The model's evaluation of inner nodes. Own work.
-/
import Derived.Test.YtedlocniojlhfaaGreatDoorDVU
namespace Go.Proofs.YtedlocniojlhfaaGreatDoor
set_option maxRecDepth 100000
set_option maxHeartbeats 6400000
open Go.RowKit
set_option linter.unusedVariables false

def KidC (b off n c:Nat) (k:Nat) (R:Rq) (a1:Option Addr) (n1 c1:Nat) (a2:Option Addr) (n2 c2:Nat) (la:Option Addr) (ln lc:Nat) (w:World) (E:Ev):Prop:=∀ w2,Below w.heap.size w w2→Calls Tryz.prog 49 #[.slice (some ⟨b,off,none⟩) n c,.int .i64 k,.agg #[.string R.cl,.string R.us,.int .i64 R.lv,.int .i64 R.nw,.slice a1 n1 c1,.slice a2 n2 c2],.slice la ln lc] w2 (MAns E w2)

theorem eval_k1err (x:Nd) (ho:8≤x.op∧x.op≤27) (k:Nat) (b off n c i:Nat) (hin:i<n) (hn:n≤1048576) (an:Option Addr) (nn cn:Nat) (kb ko nk ck:Nat) (R:Rq) (a1:Option Addr) (n1 c1:Nat) (a2:Option Addr) (n2 c2:Nat) (la:Option Addr) (ln lc:Nat) (w:World) (hb:b<w.heap.size) (hkb:kb<w.heap.size) (hx:NdC w b (off+i*5) x an nn cn (some ⟨kb,ko,none⟩) nk ck) (hnk:nk≤3∧0<nk) (hk0:w.cell? ⟨kb,ko,none⟩=some (.int .i64 k)) (e:Int) (h1:KidC b off n c k R a1 n1 c1 a2 n2 c2 la ln lc w (.err e)) :
  Calls Tryz.prog 49 #[.slice (some ⟨b,off,none⟩) n c,.int .i64 i,.agg #[.string R.cl,.string R.us,.int .i64 R.lv,.int .i64 R.nw,.slice a1 n1 c1,.slice a2 n2 c2],.slice la ln lc] w (MAns (.err e) w):=by
 have B2:=((Below.refl w.heap.size w).alloc nl (.cells #[.string R.cl,.string R.us,.int .i64 R.lv,.int .i64 R.nw,.slice a1 n1 c1,.slice a2 n2 c2] 40)).alloc (by simp) (.cells #[.int .i64 0,.int .i64 0,.string ⟨#[]⟩,.slice none 0 0] 96)
 obtain ⟨d0,d1,d2,d3,d4⟩:=hx.below B2 hb
 have B3:=B2.alloc B2.size (.cells #[.int .i64 x.op,.int .i64 x.num,.string x.text,.slice an nn cn,.slice (some ⟨kb,ko,none⟩) nk ck] 98)
 have R1:=(Row.new (w.alloc (.cells #[.string R.cl,.string R.us,.int .i64 R.lv,.int .i64 R.nw,.slice a1 n1 c1,.slice a2 n2 c2] 40)) #[.int .i64 0,.int .i64 0,.string ⟨#[]⟩,.slice none 0 0] 96).alloc (.cells #[.int .i64 x.op,.int .i64 x.num,.string x.text,.slice an nn cn,.slice (some ⟨kb,ko,none⟩) nk ck] 98)
 have R2:=Row.new ((w.alloc (.cells #[.string R.cl,.string R.us,.int .i64 R.lv,.int .i64 R.nw,.slice a1 n1 c1,.slice a2 n2 c2] 40)).alloc (.cells #[.int .i64 0,.int .i64 0,.string ⟨#[]⟩,.slice none 0 0] 96)) #[.int .i64 x.op,.int .i64 x.num,.string x.text,.slice an nn cn,.slice (some ⟨kb,ko,none⟩) nk ck] 98
 have R0:=((Row.new w #[.string R.cl,.string R.us,.int .i64 R.lv,.int .i64 R.nw,.slice a1 n1 c1,.slice a2 n2 c2] 40).alloc (.cells #[.int .i64 0,.int .i64 0,.string ⟨#[]⟩,.slice none 0 0] 96)).alloc (.cells #[.int .i64 x.op,.int .i64 x.num,.string x.text,.slice an nn cn,.slice (some ⟨kb,ko,none⟩) nk ck] 98)
 simp only [World.size_alloc] at R1 R2
 have iin:(i:Int)<(n:Int):=by omega
 have o1:x.op≠1:=by omega
 have o2:x.op≠2:=by omega
 have o3:x.op≠3:=by omega
 have o4:x.op≠4:=by omega
 have o6:x.op≠6:=by omega
 have o7:x.op≠7:=by omega
 have k0:=(B3.cell (p:=⟨kb,ko,none⟩) hkb).trans hk0
 have nk0:(0:Int)<(nk:Int):=by omega
 have HC:=hide h1
 have D3:=B3.drew
 have D3a:=D3.alloc D3.size (.cells #[.int .i64 0,.int .i64 0,.string ⟨#[]⟩,.slice none 0 0] 96)
 have RZ:=Row.new (((w.alloc (.cells #[.string R.cl,.string R.us,.int .i64 R.lv,.int .i64 R.nw,.slice a1 n1 c1,.slice a2 n2 c2] 40)).alloc (.cells #[.int .i64 0,.int .i64 0,.string ⟨#[]⟩,.slice none 0 0] 96)).alloc (.cells #[.int .i64 x.op,.int .i64 x.num,.string x.text,.slice an nn cn,.slice (some ⟨kb,ko,none⟩) nk ck] 98)).drew #[.int .i64 0,.int .i64 0,.string ⟨#[]⟩,.slice none 0 0] 96
 simp only [World.size_alloc,World.size_drew] at RZ
 have keep:∀ w',Below (((w.alloc (.cells #[.string R.cl,.string R.us,.int .i64 R.lv,.int .i64 R.nw,.slice a1 n1 c1,.slice a2 n2 c2] 40)).alloc (.cells #[.int .i64 0,.int .i64 0,.string ⟨#[]⟩,.slice none 0 0] 96)).alloc (.cells #[.int .i64 x.op,.int .i64 x.num,.string x.text,.slice an nn cn,.slice (some ⟨kb,ko,none⟩) nk ck] 98)).heap.size (((w.alloc (.cells #[.string R.cl,.string R.us,.int .i64 R.lv,.int .i64 R.nw,.slice a1 n1 c1,.slice a2 n2 c2] 40)).alloc (.cells #[.int .i64 0,.int .i64 0,.string ⟨#[]⟩,.slice none 0 0] 96)).alloc (.cells #[.int .i64 x.op,.int .i64 x.num,.string x.text,.slice an nn cn,.slice (some ⟨kb,ko,none⟩) nk ck] 98)) w'→((fun w'=>w'.cell? ⟨w.heap.size+1+1,4,none⟩=some (.slice (some ⟨kb,ko,none⟩) nk ck)∧w'.cell? ⟨kb,ko,none⟩=some (.int .i64 k)∧w'.cell? ⟨w.heap.size,0,none⟩=some (.string R.cl)∧w'.cell? ⟨w.heap.size,1,none⟩=some (.string R.us)∧w'.cell? ⟨w.heap.size,2,none⟩=some (.int .i64 R.lv)∧w'.cell? ⟨w.heap.size,3,none⟩=some (.int .i64 R.nw)∧w'.cell? ⟨w.heap.size,4,none⟩=some (.slice a1 n1 c1)∧w'.cell? ⟨w.heap.size,5,none⟩=some (.slice a2 n2 c2)) w'):=fun w' hb=>⟨(R2.after hb nl).cell 4,(hb.cell (p:=⟨kb,ko,none⟩) (by simp;omega)).trans k0,(R0.after hb nl).cell 0,(R0.after hb nl).cell 1,(R0.after hb nl).cell 2,(R0.after hb nl).cell 3,(R0.after hb nl).cell 4,(R0.after hb nl).cell 5⟩
 have KP:=hide keep
 have HW3:=hide (Below.refl (((w.alloc (.cells #[.string R.cl,.string R.us,.int .i64 R.lv,.int .i64 R.nw,.slice a1 n1 c1,.slice a2 n2 c2] 40)).alloc (.cells #[.int .i64 0,.int .i64 0,.string ⟨#[]⟩,.slice none 0 0] 96)).alloc (.cells #[.int .i64 x.op,.int .i64 x.num,.string x.text,.slice an nn cn,.slice (some ⟨kb,ko,none⟩) nk ck] 98)).heap.size (((w.alloc (.cells #[.string R.cl,.string R.us,.int .i64 R.lv,.int .i64 R.nw,.slice a1 n1 c1,.slice a2 n2 c2] 40)).alloc (.cells #[.int .i64 0,.int .i64 0,.string ⟨#[]⟩,.slice none 0 0] 96)).alloc (.cells #[.int .i64 x.op,.int .i64 x.num,.string x.text,.slice an nn cn,.slice (some ⟨kb,ko,none⟩) nk ck] 98)))
 have HW3a:=hide ((Below.refl (((w.alloc (.cells #[.string R.cl,.string R.us,.int .i64 R.lv,.int .i64 R.nw,.slice a1 n1 c1,.slice a2 n2 c2] 40)).alloc (.cells #[.int .i64 0,.int .i64 0,.string ⟨#[]⟩,.slice none 0 0] 96)).alloc (.cells #[.int .i64 x.op,.int .i64 x.num,.string x.text,.slice an nn cn,.slice (some ⟨kb,ko,none⟩) nk ck] 98)).heap.size (((w.alloc (.cells #[.string R.cl,.string R.us,.int .i64 R.lv,.int .i64 R.nw,.slice a1 n1 c1,.slice a2 n2 c2] 40)).alloc (.cells #[.int .i64 0,.int .i64 0,.string ⟨#[]⟩,.slice none 0 0] 96)).alloc (.cells #[.int .i64 x.op,.int .i64 x.num,.string x.text,.slice an nn cn,.slice (some ⟨kb,ko,none⟩) nk ck] 98))).drew.alloc (by simp) (.cells #[.int .i64 0,.int .i64 0,.string ⟨#[]⟩,.slice none 0 0] 96))
 have q1:=keep _ (Below.refl _ _).drew
 have q2:=keep _ ((Below.refl _ _).drew.alloc (by simp) (.cells #[.int .i64 0,.int .i64 0,.string ⟨#[]⟩,.slice none 0 0] 96))
 clear ho hx h1 hk0 keep
 go_enter Tryz.func49,Tryz.ntmps49
 go_wp2_with fail
 go_region_held3 (fun w'=>w'.cell? ⟨w.heap.size+1+1,4,none⟩=some (.slice (some ⟨kb,ko,none⟩) nk ck)∧w'.cell? ⟨kb,ko,none⟩=some (.int .i64 k)∧w'.cell? ⟨w.heap.size,0,none⟩=some (.string R.cl)∧w'.cell? ⟨w.heap.size,1,none⟩=some (.string R.us)∧w'.cell? ⟨w.heap.size,2,none⟩=some (.int .i64 R.lv)∧w'.cell? ⟨w.heap.size,3,none⟩=some (.int .i64 R.nw)∧w'.cell? ⟨w.heap.size,4,none⟩=some (.slice a1 n1 c1)∧w'.cell? ⟨w.heap.size,5,none⟩=some (.slice a2 n2 c2)) (first | assumption | fail)
  (first
   | (go_at_call 49;refine (uh HC _ D3).mono ?_;rintro r w4 ⟨⟨cd,nm,tx,xa,xn,xc,rfl,rfl,hce⟩,hb4⟩;have G4:=(uh HW3).drew.trans (hb4.mono (by simp));have q4:=uh KP _ G4;have q5:=uh KP _ (G4.alloc G4.size (.cells #[.int .i64 0,.int .i64 0,.string ⟨#[]⟩,.slice none 0 0] 96));have G5:=G4.alloc G4.size (.cells #[.int .i64 cd,.int .i64 nm,.string tx,.slice xa xn xc] 96);have q6:=uh KP _ G5)
   | (go_at_call 49;refine (uh HC _ D3a).mono ?_;rintro r w4 ⟨⟨cd,nm,tx,xa,xn,xc,rfl,rfl,hce⟩,hb4⟩;have G4:=(uh HW3a).trans (hb4.mono (by simp));have q4:=uh KP _ G4;have RF:=RZ.after hb4 (by simp);obtain ⟨x0,x1,x2,x3⟩:=row4V RF;have f0:=(fun j=>RF.frozen j);have Q1:=RF.set 0 (.int .i64 cd);have f1:=(fun j=>Q1.frozen j);have Q2:=Q1.set 1 (.int .i64 nm);have f2:=(fun j=>Q2.frozen j);have Q3:=Q2.set 2 (.string tx);have f3:=(fun j=>Q3.frozen j);have Q4:=Q3.set 3 (.slice xa xn xc);have G5:=(((G4.setCell (p:=⟨w.heap.size+1+1+1,0,none⟩) (by simp) (.int .i64 cd)).setCell (p:=⟨w.heap.size+1+1+1,1,none⟩) (by simp) (.int .i64 nm)).setCell (p:=⟨w.heap.size+1+1+1,2,none⟩) (by simp) (.string tx)).setCell (p:=⟨w.heap.size+1+1+1,3,none⟩) (by simp) (.slice xa xn xc);have q5:=uh KP _ G5))
 all_goals clear q1 q2 q4 HW3 HW3a KP HC D3 D3a
 all_goals first
 | (have RF5:=Row.new w4 #[.int .i64 cd,.int .i64 nm,.string tx,.slice xa xn xc] 96
    clear q5 q6 G4 hb4 RZ
    generalize w4.alloc (Obj.cells #[Value.int IntKind.i64 cd,Value.int IntKind.i64 nm,Value.string tx,Value.slice xa xn xc] 96)=w5 at *)
 | (have RF5:=Q4
    clear x0 x1 x2 x3 f0 f1 f2 f3 Q1 Q2 Q3 RF q5 Q4 G4 hb4 RZ
    generalize (((w4.setCell ⟨w.heap.size+1+1+1,0,none⟩ (Value.int IntKind.i64 cd)).setCell ⟨w.heap.size+1+1+1,1,none⟩ (Value.int IntKind.i64 nm)).setCell ⟨w.heap.size+1+1+1,2,none⟩ (Value.string tx)).setCell ⟨w.heap.size+1+1+1,3,none⟩ (Value.slice xa xn xc)=w5 at *)
 all_goals
  obtain ⟨y0,y1,y2,y3⟩:=row4V RF5
  have R5:=R1.after G5 (by simp)
  obtain ⟨x0,x1,x2,x3⟩:=row4V R5
  have f0:=fun j=>R5.frozen j
  have Q1:=R5.set 0 (.int .i64 cd)
  have f1:=fun j=>Q1.frozen j
  have Q2:=Q1.set 1 (.int .i64 nm)
  have f2:=fun j=>Q2.frozen j
  have Q3:=Q2.set 2 (.string tx)
  have f3:=fun j=>Q3.frozen j
  have Q4:=Q3.set 3 (.slice xa xn xc)
  obtain ⟨p0,p1,p2,p3⟩:=row4V Q4
  have BE:=(((((B3.trans (G5.mono (by simp;omega))).setCell (p:=⟨w.heap.size+1,0,none⟩) (by simp) (.int .i64 cd)).setCell (p:=⟨w.heap.size+1,1,none⟩) (by simp) (.int .i64 nm)).setCell (p:=⟨w.heap.size+1,2,none⟩) (by simp) (.string tx)).setCell (p:=⟨w.heap.size+1,3,none⟩) (by simp) (.slice xa xn xc))
  have HBE:=hide BE
  clear o1 o2 o3 o4 o6 o7
  clear BE B2 B3 R0 R1 R2 G5 RF5 R5 Q1 Q2 Q3 Q4 d0 d1 d2 d3 d4 k0 hb hkb nk0 iin hin hn hnk
  go_wp2_with fail
  refine bodyPost_ret (v:=.agg #[.int .i64 cd,.int .i64 nm,.string tx,.slice xa xn xc]) (by simp [results,Tryz.results49,go_sem,p0,p1,p2,p3]) rfl ⟨⟨_,_,_,_,_,_,rfl,rfl,hce⟩,uh HBE⟩

theorem Strs.set4 {w:World} {F:Nat} {t:TypeId} (r:Row w F #[.int .i64 0,.int .i64 0,.string ⟨#[]⟩,.slice none 0 0] t) {a:Option Addr} {n c:Nat} {ss:List ByteArray} (h:Strs w a n c ss) (u:Value):Strs ((((w.setCell ⟨F,0,none⟩ (.int .i64 0)).setCell ⟨F,1,none⟩ (.int .i64 0)).setCell ⟨F,2,none⟩ (.string ⟨#[]⟩)).setCell ⟨F,3,none⟩ u) a n c ss :=
 ⟨h.len,h.cap,h.small,h.sizes,fun j hj=>by
  obtain ⟨b,off,ha,hlt,hc⟩:=h.cells j hj
  refine ⟨b,off,ha,by simpa using hlt,?_⟩
  by_cases hF:b=F
  ·subst hF
   have e:=(r.cell (off+j)).symm.trans hc
   have hj2:off+j=2:=by
    rcases Nat.lt_or_ge (off+j) 4 with hq | hq
    ·have:off+j=0∨off+j=1∨off+j=2∨off+j=3:=by omega
     rcases this with q | q | q | q
     ·rw [q] at e;cases e
     ·rw [q] at e;cases e
     ·exact q
     ·rw [q] at e;cases e
    ·rw [Array.getElem?_eq_none (by simpa using hq)] at e;cases e
   rw [hj2] at e ⊢
   exact (((((r.set 0 (.int .i64 0)).set 1 (.int .i64 0)).set 2 (.string ⟨#[]⟩)).set 3 u).cell 2).trans e
  ·rw [World.cell?_setCell_other _ _ _ _ (fun q=>hF (congrArg Addr.block q).symm),World.cell?_setCell_other _ _ _ _ (fun q=>hF (congrArg Addr.block q).symm),World.cell?_setCell_other _ _ _ _ (fun q=>hF (congrArg Addr.block q).symm),World.cell?_setCell_other _ _ _ _ (fun q=>hF (congrArg Addr.block q).symm)]
   exact hc⟩

theorem MVs.set4 {w:World} {F:Nat} {t:TypeId} (r:Row w F #[.int .i64 0,.int .i64 0,.string ⟨#[]⟩,.slice none 0 0] t) {num:Int} {text:ByteArray} {a:Option Addr} {n c:Nat} {v:Vv} (h:MVs w num text a n c v):MVs ((((w.setCell ⟨F,0,none⟩ (.int .i64 0)).setCell ⟨F,1,none⟩ (.int .i64 num)).setCell ⟨F,2,none⟩ (.string text)).setCell ⟨F,3,none⟩ (.slice a n c)) num text a n c v:=by
 cases v with
 | bool b=>exact h
 | int k=>exact h
 | text s=>exact h
 | set ss =>
  obtain ⟨rfl,rfl,hS,hl,hc⟩:=h
  exact ⟨rfl,rfl,hS.set4 r _,hl,(((hc.setCell _ _ _).setCell _ _ _).setCell _ _ _).setCell _ _ _⟩

theorem cell_set4 {w:World} {F:Nat} {p:Addr} (h:p.block≠F) (v0 v1 v2 v3:Value):((((w.setCell ⟨F,0,none⟩ v0).setCell ⟨F,1,none⟩ v1).setCell ⟨F,2,none⟩ v2).setCell ⟨F,3,none⟩ v3).cell? p=w.cell? p:=by
 rw [World.cell?_setCell_other _ _ _ _ (fun q=>h (congrArg Addr.block q).symm),World.cell?_setCell_other _ _ _ _ (fun q=>h (congrArg Addr.block q).symm),World.cell?_setCell_other _ _ _ _ (fun q=>h (congrArg Addr.block q).symm),World.cell?_setCell_other _ _ _ _ (fun q=>h (congrArg Addr.block q).symm)]

def MOut (o:Ev) (w:World) (cd num:Int) (text:ByteArray) (a:Option Addr) (n c:Nat):Prop:=match o with
 | .ok v=>cd=0∧MVs w num text a n c v
 | .err e=>cd=e∧e≠0

theorem MAns.form {o:Ev} {w w':World} {r:Ending} (h:MAns o w r w'):∃ cd num text a n c,r=.returned (.agg #[.int .i64 cd,.int .i64 num,.string text,.slice a n c])∧MOut o w' cd num text a n c∧Below w.heap.size w w':=by
 obtain ⟨⟨cd,num,text,a,n,c,e,h1⟩,hb⟩:=h
 refine ⟨cd,num,text,a,n,c,e,?_,hb⟩
 cases o <;> exact h1

theorem MOut.ans {o:Ev} {w w':World} {cd num:Int} {text:ByteArray} {a:Option Addr} {n c:Nat} (h:MOut o w' cd num text a n c) (hb:Below w.heap.size w w'):MAns o w (.returned (.agg #[.int .i64 cd,.int .i64 num,.string text,.slice a n c])) w':=by
 refine ⟨⟨cd,num,text,a,n,c,rfl,?_⟩,hb⟩
 cases o <;> exact h

theorem MOut.set4 {o:Ev} {w:World} {F:Nat} {t:TypeId} (r:Row w F #[.int .i64 0,.int .i64 0,.string ⟨#[]⟩,.slice none 0 0] t) {cd num:Int} {text:ByteArray} {a:Option Addr} {n c:Nat} (h:MOut o w cd num text a n c):MOut o ((((w.setCell ⟨F,0,none⟩ (.int .i64 cd)).setCell ⟨F,1,none⟩ (.int .i64 num)).setCell ⟨F,2,none⟩ (.string text)).setCell ⟨F,3,none⟩ (.slice a n c)) cd num text a n c:=by
 cases o with
 | ok v=>obtain ⟨rfl,h1⟩:=h;exact ⟨rfl,h1.set4 r⟩
 | err e=>exact h

theorem eval_un (x:Nd) (ho:8≤x.op∧x.op≤10) (k:Nat) (b off n c i:Nat) (hin:i<n) (hn:n≤1048576) (an:Option Addr) (nn cn:Nat) (kb ko ck:Nat) (R:Rq) (a1:Option Addr) (n1 c1:Nat) (a2:Option Addr) (n2 c2:Nat) (la:Option Addr) (ln lc:Nat) (w:World) (hb:b<w.heap.size) (hkb:kb<w.heap.size) (hx:NdC w b (off+i*5) x an nn cn (some ⟨kb,ko,none⟩) 1 ck) (hk0:w.cell? ⟨kb,ko,none⟩=some (.int .i64 k)) (v:Vv) (t:Int) (ht:nz (tyOp x.op [v.ty])=some t) (h1:KidC b off n c k R a1 n1 c1 a2 n2 c2 la ln lc w (.ok v)) :
  Calls Tryz.prog 49 #[.slice (some ⟨b,off,none⟩) n c,.int .i64 i,.agg #[.string R.cl,.string R.us,.int .i64 R.lv,.int .i64 R.nw,.slice a1 n1 c1,.slice a2 n2 c2],.slice la ln lc] w (MAns (evUn x.op v) w):=by
 have B2:=((Below.refl w.heap.size w).alloc nl (.cells #[.string R.cl,.string R.us,.int .i64 R.lv,.int .i64 R.nw,.slice a1 n1 c1,.slice a2 n2 c2] 40)).alloc (by simp) (.cells #[.int .i64 0,.int .i64 0,.string ⟨#[]⟩,.slice none 0 0] 96)
 obtain ⟨d0,d1,d2,d3,d4⟩:=hx.below B2 hb
 have B3:=B2.alloc B2.size (.cells #[.int .i64 x.op,.int .i64 x.num,.string x.text,.slice an nn cn,.slice (some ⟨kb,ko,none⟩) 1 ck] 98)
 have R1:=(Row.new (w.alloc (.cells #[.string R.cl,.string R.us,.int .i64 R.lv,.int .i64 R.nw,.slice a1 n1 c1,.slice a2 n2 c2] 40)) #[.int .i64 0,.int .i64 0,.string ⟨#[]⟩,.slice none 0 0] 96).alloc (.cells #[.int .i64 x.op,.int .i64 x.num,.string x.text,.slice an nn cn,.slice (some ⟨kb,ko,none⟩) 1 ck] 98)
 have R2:=Row.new ((w.alloc (.cells #[.string R.cl,.string R.us,.int .i64 R.lv,.int .i64 R.nw,.slice a1 n1 c1,.slice a2 n2 c2] 40)).alloc (.cells #[.int .i64 0,.int .i64 0,.string ⟨#[]⟩,.slice none 0 0] 96)) #[.int .i64 x.op,.int .i64 x.num,.string x.text,.slice an nn cn,.slice (some ⟨kb,ko,none⟩) 1 ck] 98
 have R0:=((Row.new w #[.string R.cl,.string R.us,.int .i64 R.lv,.int .i64 R.nw,.slice a1 n1 c1,.slice a2 n2 c2] 40).alloc (.cells #[.int .i64 0,.int .i64 0,.string ⟨#[]⟩,.slice none 0 0] 96)).alloc (.cells #[.int .i64 x.op,.int .i64 x.num,.string x.text,.slice an nn cn,.slice (some ⟨kb,ko,none⟩) 1 ck] 98)
 simp only [World.size_alloc] at R1 R2
 have iin:(i:Int)<(n:Int):=by omega
 have o1:x.op≠1:=by omega
 have o2:x.op≠2:=by omega
 have o3:x.op≠3:=by omega
 have o4:x.op≠4:=by omega
 have o6:x.op≠6:=by omega
 have o7:x.op≠7:=by omega
 have o25:x.op≠25:=by omega
 have o26:x.op≠26:=by omega
 have o27:x.op≠27:=by omega
 have k0:=(B3.cell (p:=⟨kb,ko,none⟩) hkb).trans hk0
 have nk0:(0:Int)<((1:Nat):Int):=by omega
 have HC:=hide h1
 have HT:=hide ht
 have D3:=B3.drew
 have D3a:=D3.alloc D3.size (.cells #[.int .i64 0,.int .i64 0,.string ⟨#[]⟩,.slice none 0 0] 96)
 have RZ:=Row.new (((w.alloc (.cells #[.string R.cl,.string R.us,.int .i64 R.lv,.int .i64 R.nw,.slice a1 n1 c1,.slice a2 n2 c2] 40)).alloc (.cells #[.int .i64 0,.int .i64 0,.string ⟨#[]⟩,.slice none 0 0] 96)).alloc (.cells #[.int .i64 x.op,.int .i64 x.num,.string x.text,.slice an nn cn,.slice (some ⟨kb,ko,none⟩) 1 ck] 98)).drew #[.int .i64 0,.int .i64 0,.string ⟨#[]⟩,.slice none 0 0] 96
 simp only [World.size_alloc,World.size_drew] at RZ
 have keep:∀ w',Below (((w.alloc (.cells #[.string R.cl,.string R.us,.int .i64 R.lv,.int .i64 R.nw,.slice a1 n1 c1,.slice a2 n2 c2] 40)).alloc (.cells #[.int .i64 0,.int .i64 0,.string ⟨#[]⟩,.slice none 0 0] 96)).alloc (.cells #[.int .i64 x.op,.int .i64 x.num,.string x.text,.slice an nn cn,.slice (some ⟨kb,ko,none⟩) 1 ck] 98)).heap.size (((w.alloc (.cells #[.string R.cl,.string R.us,.int .i64 R.lv,.int .i64 R.nw,.slice a1 n1 c1,.slice a2 n2 c2] 40)).alloc (.cells #[.int .i64 0,.int .i64 0,.string ⟨#[]⟩,.slice none 0 0] 96)).alloc (.cells #[.int .i64 x.op,.int .i64 x.num,.string x.text,.slice an nn cn,.slice (some ⟨kb,ko,none⟩) 1 ck] 98)) w'→((fun w'=>w'.cell? ⟨w.heap.size+1+1,4,none⟩=some (.slice (some ⟨kb,ko,none⟩) 1 ck)∧w'.cell? ⟨kb,ko,none⟩=some (.int .i64 k)∧w'.cell? ⟨w.heap.size,0,none⟩=some (.string R.cl)∧w'.cell? ⟨w.heap.size,1,none⟩=some (.string R.us)∧w'.cell? ⟨w.heap.size,2,none⟩=some (.int .i64 R.lv)∧w'.cell? ⟨w.heap.size,3,none⟩=some (.int .i64 R.nw)∧w'.cell? ⟨w.heap.size,4,none⟩=some (.slice a1 n1 c1)∧w'.cell? ⟨w.heap.size,5,none⟩=some (.slice a2 n2 c2)) w'):=fun w' hb=>⟨(R2.after hb nl).cell 4,(hb.cell (p:=⟨kb,ko,none⟩) (by simp;omega)).trans k0,(R0.after hb nl).cell 0,(R0.after hb nl).cell 1,(R0.after hb nl).cell 2,(R0.after hb nl).cell 3,(R0.after hb nl).cell 4,(R0.after hb nl).cell 5⟩
 have KP:=hide keep
 have HW3:=hide (Below.refl (((w.alloc (.cells #[.string R.cl,.string R.us,.int .i64 R.lv,.int .i64 R.nw,.slice a1 n1 c1,.slice a2 n2 c2] 40)).alloc (.cells #[.int .i64 0,.int .i64 0,.string ⟨#[]⟩,.slice none 0 0] 96)).alloc (.cells #[.int .i64 x.op,.int .i64 x.num,.string x.text,.slice an nn cn,.slice (some ⟨kb,ko,none⟩) 1 ck] 98)).heap.size (((w.alloc (.cells #[.string R.cl,.string R.us,.int .i64 R.lv,.int .i64 R.nw,.slice a1 n1 c1,.slice a2 n2 c2] 40)).alloc (.cells #[.int .i64 0,.int .i64 0,.string ⟨#[]⟩,.slice none 0 0] 96)).alloc (.cells #[.int .i64 x.op,.int .i64 x.num,.string x.text,.slice an nn cn,.slice (some ⟨kb,ko,none⟩) 1 ck] 98)))
 have HW3a:=hide ((Below.refl (((w.alloc (.cells #[.string R.cl,.string R.us,.int .i64 R.lv,.int .i64 R.nw,.slice a1 n1 c1,.slice a2 n2 c2] 40)).alloc (.cells #[.int .i64 0,.int .i64 0,.string ⟨#[]⟩,.slice none 0 0] 96)).alloc (.cells #[.int .i64 x.op,.int .i64 x.num,.string x.text,.slice an nn cn,.slice (some ⟨kb,ko,none⟩) 1 ck] 98)).heap.size (((w.alloc (.cells #[.string R.cl,.string R.us,.int .i64 R.lv,.int .i64 R.nw,.slice a1 n1 c1,.slice a2 n2 c2] 40)).alloc (.cells #[.int .i64 0,.int .i64 0,.string ⟨#[]⟩,.slice none 0 0] 96)).alloc (.cells #[.int .i64 x.op,.int .i64 x.num,.string x.text,.slice an nn cn,.slice (some ⟨kb,ko,none⟩) 1 ck] 98))).drew.alloc (by simp) (.cells #[.int .i64 0,.int .i64 0,.string ⟨#[]⟩,.slice none 0 0] 96))
 have q1:=keep _ (Below.refl _ _).drew
 have q2:=keep _ ((Below.refl _ _).drew.alloc (by simp) (.cells #[.int .i64 0,.int .i64 0,.string ⟨#[]⟩,.slice none 0 0] 96))
 clear ho hx h1 hk0 keep ht
 go_enter Tryz.func49,Tryz.ntmps49
 go_wp2_with fail
 go_region_held3 (fun w'=>w'.cell? ⟨w.heap.size+1+1,4,none⟩=some (.slice (some ⟨kb,ko,none⟩) 1 ck)∧w'.cell? ⟨kb,ko,none⟩=some (.int .i64 k)∧w'.cell? ⟨w.heap.size,0,none⟩=some (.string R.cl)∧w'.cell? ⟨w.heap.size,1,none⟩=some (.string R.us)∧w'.cell? ⟨w.heap.size,2,none⟩=some (.int .i64 R.lv)∧w'.cell? ⟨w.heap.size,3,none⟩=some (.int .i64 R.nw)∧w'.cell? ⟨w.heap.size,4,none⟩=some (.slice a1 n1 c1)∧w'.cell? ⟨w.heap.size,5,none⟩=some (.slice a2 n2 c2)) (first | assumption | fail)
  (first
   | (go_at_call 49;refine (uh HC _ D3).mono ?_;rintro r w4 ⟨⟨_,nm,tx,xa,xn,xc,rfl,rfl,hv⟩,hb4⟩;have G4:=(uh HW3).drew.trans (hb4.mono (by simp));have q4:=uh KP _ G4;have q5:=uh KP _ (G4.alloc G4.size (.cells #[.int .i64 0,.int .i64 0,.string ⟨#[]⟩,.slice none 0 0] 96));have G5:=G4.alloc G4.size (.cells #[.int .i64 0,.int .i64 nm,.string tx,.slice xa xn xc] 96);have q6:=uh KP _ G5)
   | (go_at_call 49;refine (uh HC _ D3a).mono ?_;rintro r w4 ⟨⟨_,nm,tx,xa,xn,xc,rfl,rfl,hv⟩,hb4⟩;have G4:=(uh HW3a).trans (hb4.mono (by simp));have q4:=uh KP _ G4;have RF:=RZ.after hb4 (by simp);obtain ⟨x0,x1,x2,x3⟩:=row4V RF;have f0:=(fun j=>RF.frozen j);have Q1:=RF.set 0 (.int .i64 0);have f1:=(fun j=>Q1.frozen j);have Q2:=Q1.set 1 (.int .i64 nm);have f2:=(fun j=>Q2.frozen j);have Q3:=Q2.set 2 (.string tx);have f3:=(fun j=>Q3.frozen j);have Q4:=Q3.set 3 (.slice xa xn xc);have G5:=(((G4.setCell (p:=⟨w.heap.size+1+1+1,0,none⟩) (by simp) (.int .i64 0)).setCell (p:=⟨w.heap.size+1+1+1,1,none⟩) (by simp) (.int .i64 nm)).setCell (p:=⟨w.heap.size+1+1+1,2,none⟩) (by simp) (.string tx)).setCell (p:=⟨w.heap.size+1+1+1,3,none⟩) (by simp) (.slice xa xn xc);have q5:=uh KP _ G5))
 all_goals clear q1 q2 q4 HW3 HW3a KP HC D3 D3a
 all_goals first
 | (have RF5:=Row.new w4 #[.int .i64 0,.int .i64 nm,.string tx,.slice xa xn xc] 96
    have LF:w4.heap.size≠w.heap.size+1:=by have:=G4.size;simp at this;omega
    have HV:=hide (hv.below ((Below.refl w4.heap.size w4).alloc nl (.cells #[.int .i64 0,.int .i64 nm,.string tx,.slice xa xn xc] 96)) nl)
    clear hv
    clear q5 q6 G4 hb4 RZ
    generalize w4.alloc (Obj.cells #[Value.int IntKind.i64 0,Value.int IntKind.i64 nm,Value.string tx,Value.slice xa xn xc] 96)=w5 at *
    generalize w4.heap.size=F at *)
 | (have RF5:=Q4
    have LF:w.heap.size+1+1+1≠w.heap.size+1:=by omega
    have HV:=hide (hv.set4 RF)
    clear hv
    clear x0 x1 x2 x3 f0 f1 f2 f3 Q1 Q2 Q3 RF q5 Q4 G4 hb4 RZ
    generalize (((w4.setCell ⟨w.heap.size+1+1+1,0,none⟩ (Value.int IntKind.i64 0)).setCell ⟨w.heap.size+1+1+1,1,none⟩ (Value.int IntKind.i64 nm)).setCell ⟨w.heap.size+1+1+1,2,none⟩ (Value.string tx)).setCell ⟨w.heap.size+1+1+1,3,none⟩ (Value.slice xa xn xc)=w5 at *
    generalize w.heap.size+1+1+1=F at *)
 all_goals
  obtain ⟨y0,y1,y2,y3⟩:=row4V RF5
  have R5:=R1.after G5 (by simp)
  have NK5:=(R2.after G5 (by simp)).cell 4
  have NO5:=(R2.after G5 (by simp)).cell 0
  have HB5:=hide (B3.trans (G5.mono (by simp;omega)))
  have HR5:=hide R5
  clear B2 B3 R0 R1 R2 G5 R5 d0 d1 d2 d3 d4 k0 hb hkb nk0 iin hin hn o1 o2 o3 o4 o6 o7
  go_wp2_with fail
  have RA:=Row.new w5 #[.int .i64 0,.int .i64 nm,.string tx,.slice xa xn xc] 96
  obtain ⟨z0,z1,z2,z3⟩:=row4V RA
  have BA:=(uh HB5).alloc (uh HB5).size (.cells #[.int .i64 0,.int .i64 nm,.string tx,.slice xa xn xc] 96)
  have RB:=(uh HR5).alloc (.cells #[.int .i64 0,.int .i64 nm,.string tx,.slice xa xn xc] 96)
  have HV6:=(uh HV).below ((Below.refl w5.heap.size w5).alloc nl (.cells #[.int .i64 0,.int .i64 nm,.string tx,.slice xa xn xc] 96)) nl
  clear y0 y1 y2 y3 NK5 NO5 o25 o26 o27
  refine (apply1_any x.op v t (uh HT) nm tx xa xn xc w5.heap.size 1 _ HV6 z0 z1 z2 z3 (by simp)).mono ?_
  intro r w6 hr
  obtain ⟨cd,rn,rt,ra,rk,rc,rfl,hm,hb6⟩:=hr.form
  have R6:=RB.after hb6 (by simp)
  have HM:=hide (hm.set4 R6)
  clear hm hr
  obtain ⟨x0,x1,x2,x3⟩:=row4V R6
  have f0:=fun j=>R6.frozen j
  have Q1:=R6.set 0 (.int .i64 cd)
  have f1:=fun j=>Q1.frozen j
  have Q2:=Q1.set 1 (.int .i64 rn)
  have f2:=fun j=>Q2.frozen j
  have Q3:=Q2.set 2 (.string rt)
  have f3:=fun j=>Q3.frozen j
  have Q4:=Q3.set 3 (.slice ra rk rc)
  obtain ⟨p0,p1,p2,p3⟩:=row4V Q4
  have HBE:=hide (((((BA.trans (hb6.mono (by have:=BA.size;simp at this ⊢;omega))).setCell (p:=⟨w.heap.size+1,0,none⟩) (by simp) (.int .i64 cd)).setCell (p:=⟨w.heap.size+1,1,none⟩) (by simp) (.int .i64 rn)).setCell (p:=⟨w.heap.size+1,2,none⟩) (by simp) (.string rt)).setCell (p:=⟨w.heap.size+1,3,none⟩) (by simp) (.slice ra rk rc))
  clear Q1 Q2 Q3 Q4 R6 hb6
  dsimp only
  go_wp2_with fail
  refine bodyPost_ret (v:=.agg #[.int .i64 cd,.int .i64 rn,.string rt,.slice ra rk rc]) (by simp [results,Tryz.results49,go_sem,p0,p1,p2,p3]) rfl ((uh HM).ans (uh HBE))

end Go.Proofs.YtedlocniojlhfaaGreatDoor
