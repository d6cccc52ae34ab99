/-
  QK, ZD, ZE, VPM0, JM, QJ1, VPO, VPT. Own work.
-/
import Derived.Test.YtedlocniojlhfaaGreatDoorMXAO
import Derived.Test.YtedlocniojlhfaaGreatDoorVPK
import Derived.Test.YtedlocniojlhfaaGreatDoorMXAQ
import Derived.Test.YtedlocniojlhfaaGreatDoorMXAI
import Derived.Test.YtedlocniojlhfaaGreatDoorMXAM
import Derived.Test.YtedlocniojlhfaaGreatDoorJJ
namespace Go.Proofs.YtedlocniojlhfaaGreatDoor
set_option maxRecDepth 100000
set_option maxHeartbeats 1600000
open Go.RowKit
set_option linter.unusedVariables false

def optV (Es:List Ex) (k:Int):Value:=if k=-1 then .nilIface else match Es[k.toNat]? with
 | some e=>e.val
 | none=>.nilIface

def stmV (Es:List Ex) (j:Nat) (s:St):List Value:=[.int .i64 j,.int .i64 s.kind,.string s.name,optV Es s.cond,optV Es s.grant]

def stC (Es:List Ex):Nat→List St→List Value
 | _,[]=>[]
 | i,s::L=>stmV Es i s++stC Es (i+1) L

theorem stC_len (Es:List Ex):∀ (L:List St) (i:Nat),(stC Es i L).length=L.length*5
 | [],i=>rfl
 | s::L,i=>by rw [stC,List.length_append,stC_len Es L (i+1)];simp [stmV];omega

theorem stC_snoc (Es:List Ex) (s:St):∀ (L:List St) (i:Nat),stC Es i (L++[s])=stC Es i L++stmV Es (i+L.length) s
 | [],i=>by simp [stC]
 | x::L,i=>by
  rw [List.cons_append,stC,stC,stC_snoc Es s L (i+1),List.append_assoc]
  congr 3
  simp;omega

theorem stC_at (Es:List Ex):∀ (L:List St) (i j:Nat) (h:j<L.length) (r:Nat),r<5→(stC Es i L)[j*5+r]?=(stmV Es (i+j) L[j])[r]?
 | x::L,i,0,h,r,hr=>by
  rw [stC,Nat.zero_mul,Nat.zero_add,List.getElem?_append_left (by simp [stmV];omega)]
  simp
 | x::L,i,j+1,h,r,hr=>by
  rw [stC,List.getElem?_append_right (by simp [stmV];omega)]
  have e:(j+1)*5+r - (stmV Es i x).length=j*5+r:=by simp [stmV];omega
  rw [e,stC_at Es L (i+1) j (by simpa using h) r hr]
  simp only [List.getElem_cons_succ]
  congr 2
  omega
 | [],_,_,h,_,_=>absurd h (by simp)

theorem infoStm:(Tryz.prog.info? 113).map (fun i=>(i.zero,i.size,i.bytes))=some (some (.agg #[.int .i64 0,.int .i64 0,.string ByteArray.empty,.nilIface,.nilIface]),5,64):=by kernel_rfl

theorem optV_none (Es:List Ex):optV Es (-1)=.nilIface:=rfl

theorem optV_some {Es:List Ex} {k:Int} (h0:0≤k) (h:k<Es.length):optV Es k=(Es[k.toNat]'(by omega)).val:=by
 rw [optV,if_neg (by omega),List.getElem?_eq_getElem (by omega)]

theorem five_cell (w:World) (v0 v1 v2 v3 v4:Value) (t:TypeId) (b:Nat) (hb:b=w.heap.size):∀ j u,([v0,v1,v2,v3,v4]:List Value)[j]?=some u→(w.alloc (.cells #[v0,v1,v2,v3,v4] t)).cell? ((⟨b,0,none⟩:Addr).add j)=some u:=fun j u h=>by
 subst hb
 have hadd:(⟨w.heap.size,0,none⟩:Addr).add j=⟨w.heap.size,j,none⟩:=by by_cases e:j=0 <;> simp [Addr.add,e]
 rw [hadd,(Row.new w #[v0,v1,v2,v3,v4] t).cell j,← h]
 simp

theorem own_set {w:World} {base:Nat} {e:TypeId} {size n:Nat} {v:Value} {xs:List Value} (h:w.ownsRow base e size v n xs) (p:Addr) (u:Value) (hp:∀ q,v.ownBlock=some q→q≠p.block):(w.setCell p u).ownsRow base e size v n xs :=
 owns_blocks2 h (fun q hq=>heap_setCell_other w p q u (hp q hq))

theorem statementsOf_any (a b:Option Addr) (n c m d:Nat) (N:List Nd) (L:List St) (w0 w:World) (h:Nds w0 a n c N) (hw:Below w0.heap.size w0 w) (hL:Sts w b m d L) (P:Ex→Prop) (hM:Makes w0 N P)
  (hR:∀ s∈L,(s.cond=-1∨(0≤s.cond∧s.cond<n))∧(s.grant=-1∨(0≤s.grant∧s.grant<n))) :
  Calls Tryz.prog 31 #[.agg #[.slice a n c,.slice b m d]] w fun r w'=>(∃ v Es,r=.returned v∧Es.length=n∧(∀ j,(h:j<Es.length)→IsT N j Es[j])∧(∀ e∈Es,P e)∧w'.ownsRow w.heap.size 113 5 v m (stC Es 0 L))∧Below w.heap.size w w':=by
 have hm:=hL.small
 have hn:=h.small
 have HL:=hide hL.len
 have HR:=hide hR
 have R0:=Row.new w #[.slice a n c,.slice b m d] 70
 have B0:=(Below.refl w.heap.size w).alloc nl (.cells #[.slice a n c,.slice b m d] 70)
 have HT:=hide (treesOf_any a n c N w0 _ h (hw.trans (B0.mono hw.size)) P hM)
 clear hR hM h
 obtain ⟨ie,hie,ez0,ez1,ez2⟩:=info_parts infoStm
 go_enter Tryz.func31,Tryz.ntmps31
 go_wp2_with fail
 refine (uh HT).mono ?_
 rintro r w1 ⟨⟨v,Es,rfl,hEl,O1⟩,hb1⟩
 subst hEl
 have B1:=B0.trans (hb1.mono B0.size)
 have R1:=R0.after hb1 nl
 have p0:w1.cell? ⟨w.heap.size,0,none⟩=some (.slice a Es.length c):=R1.cell 0
 have p1:w1.cell? ⟨w.heap.size,1,none⟩=some (.slice b m d):=R1.cell 1
 obtain ⟨av,cv,rfl,T1⟩:=O1.trs (by omega)
 have z1:=B1.size
 dsimp only
 go_wp2_with fail
 go_loopw [4,14] (fun v i wr=>∃ (k:Nat),k≤m∧i=.int .i64 k∧wr.ownsRow w1.heap.size 113 5 v k (stC Es 0 (L.take k))∧Below w1.heap.size w1 wr) (fun _ i _=>m - (intOf i).toNat)
 case atStart=>exact ⟨0,by omega,rfl,World.ownsRow_nil _ _ _ _,Below.refl _ _⟩
 case round =>
  obtain ⟨k,hk,rfl,Q1,D1⟩:=hrel
  have zd:=D1.size
  by_cases hlt:k<m
  ·have ilt:(k:Int)<(m:Int):=by omega
   have hkl:k<L.length:=by rw [uh HL];exact hlt
   obtain ⟨b1,off,rfl,hbl,c0,c1,c2,c3⟩:=(hL.below (B1.trans (D1.mono B1.size)) nl).cells k hkl
   obtain ⟨hr1,hr2⟩:=uh HR L[k] (List.getElem_mem hkl)
   have HS:=hide (show stC Es 0 (L.take (k+1))=stC Es 0 (L.take k)++stmV Es k L[k] by
    rw [List.take_succ_eq_append_getElem hkl,stC_snoc,List.length_take,Nat.zero_add,show min k L.length=k by omega])
   have Hlt:=hide hlt
   generalize L[k]=s at c0 c1 c2 c3 hr1 hr2 HS
   generalize stC Es 0 (L.take k)=A at Q1 HS
   obtain ⟨xv,kv,rfl,_⟩:=owns_form2 Q1
   have T2:=T1.below D1 nl
   clear hkl hlt T1
   obtain ⟨cd,hcd⟩:∃ cd,cd=s.cond:=⟨_,rfl⟩
   obtain ⟨gr,hgr⟩:∃ gr,gr=s.grant:=⟨_,rfl⟩
   rw [← hcd] at c2 hr1
   rw [← hgr] at c3 hr2
   have HV:=hide (show stmV Es k s=[.int .i64 k,.int .i64 s.kind,.string s.name,optV Es cd,optV Es gr] by rw [hcd,hgr];rfl)
   rw [uh HV] at HS
   clear hcd hgr HV
   generalize s.kind=kd at c0 HS
   generalize s.name=nm at c1 HS
   rcases hr1 with rfl | hr1
   ·rcases hr2 with rfl | hr2
    ·have Q2:=(Q1.alloc (.cells #[.int .i64 kd,.string nm,.int .i64 (-1),.int .i64 (-1)] 94)).alloc (.cells #[.int .i64 k,.int .i64 kd,.string nm,.nilIface,.nilIface] 113)
     have D2:=(D1.alloc D1.size (.cells #[.int .i64 kd,.string nm,.int .i64 (-1),.int .i64 (-1)] 94)).alloc (by simp;omega) (.cells #[.int .i64 k,.int .i64 kd,.string nm,.nilIface,.nilIface] 113)
     have HW:=hide (show [Value.int .i64 k,.int .i64 kd,.string nm,optV Es (-1),optV Es (-1)]=[.int .i64 k,.int .i64 kd,.string nm,.nilIface,.nilIface] by rw [optV_none])
     rw [uh HW] at HS
     go_wp2_with (at_builtin;refine wpList_append_own _ rfl _ _ 67 rfl w1.heap.size 113 ie (.agg #[.int .i64 0,.int .i64 0,.string ByteArray.empty,.nilIface,.nilIface]) 5 64 Tryz.underlying67 hie ez0 ez1 ez2 rfl (by decide) _ _ _ rfl (World.ownsRow.alloc Q2 _) ⟨wr.heap.size+2,0,none⟩ 1 1 [.int .i64 k,.int .i64 kd,.string nm,.nilIface,.nilIface] rfl rfl ?d1 ?d2 ?d3 ?d4 ?d5 ?_)
     case d1=>exact five_cell _ _ _ _ _ _ _ _ (by simp)
     case d2=>intro u hu;simp at hu;rcases hu with rfl | rfl | rfl | rfl <;> rfl
     case d3=>unfold maxLen;omega
     case d4=>omega
     case d5=>simp;omega
     intro v' w4 Q5 hgrow _
     have D5:=(D2.alloc D2.size (.cells #[.int .i64 k,.int .i64 kd,.string nm,.nilIface,.nilIface] 113)).grown hgrow (by simp;omega) (fun q hq=>(Q2.lt q hq).1)
     clear hgrow
     go_wp2_with fail
     go_roundw
     case rel=>exact ⟨k+1,uh Hlt,by go_num,by rw [uh HS];exact Q5,D5⟩
     case measure=>have:=uh Hlt;simp [intOf];omega
    ·obtain ⟨qg,rfl⟩:∃ qg:Nat,gr=(qg:Int):=⟨gr.toNat,by omega⟩
     have HG1:=hide (optV_some (Es:=Es) (k:=(qg:Int)) (by omega) (by omega))
     obtain ⟨bqg,oqg,haqg,lqg,gqg,iqg⟩:=T2.get (k:=qg) (List.getElem?_eq_getElem (by omega))
     simp only [Int.toNat_natCast] at HG1
     obtain ⟨tg,ug,fqg⟩:=(Es[qg]'(by omega)).form
     rw [fqg] at HG1 gqg
     have nqg:((qg:Int) == -1)=false:=beq_eq_false_iff_ne.2 (by omega)
     have mqg:((qg:Int) != -1)=true:=bne_iff_ne.2 (by omega)
     have jqg:(qg:Int)<(Es.length:Int):=by omega
     subst haqg
     have Q2:=(Q1.alloc (.cells #[.int .i64 kd,.string nm,.int .i64 (-1),.int .i64 qg] 94)).alloc (.cells #[.int .i64 k,.int .i64 kd,.string nm,.nilIface,.iface tg ug] 113)
     have D2:=(D1.alloc D1.size (.cells #[.int .i64 kd,.string nm,.int .i64 (-1),.int .i64 qg] 94)).alloc (by simp;omega) (.cells #[.int .i64 k,.int .i64 kd,.string nm,.nilIface,.iface tg ug] 113)
     have HW:=hide (show [Value.int .i64 k,.int .i64 kd,.string nm,optV Es (-1),optV Es qg]=[.int .i64 k,.int .i64 kd,.string nm,.nilIface,.iface tg ug] by rw [uh HG1,optV_none])
     rw [uh HW] at HS
     go_wp2_with (at_builtin;refine wpList_append_own _ rfl _ _ 67 rfl w1.heap.size 113 ie (.agg #[.int .i64 0,.int .i64 0,.string ByteArray.empty,.nilIface,.nilIface]) 5 64 Tryz.underlying67 hie ez0 ez1 ez2 rfl (by decide) _ _ _ rfl (World.ownsRow.alloc Q2 _) ⟨wr.heap.size+2,0,none⟩ 1 1 [.int .i64 k,.int .i64 kd,.string nm,.nilIface,.iface tg ug] rfl rfl ?d1 ?d2 ?d3 ?d4 ?d5 ?_)
     case d1=>exact five_cell _ _ _ _ _ _ _ _ (by simp)
     case d2=>intro u hu;simp at hu;rcases hu with rfl | rfl | rfl | rfl | rfl <;> rfl
     case d3=>unfold maxLen;omega
     case d4=>omega
     case d5=>simp;omega
     intro v' w4 Q5 hgrow _
     have D5:=(D2.alloc D2.size (.cells #[.int .i64 k,.int .i64 kd,.string nm,.nilIface,.iface tg ug] 113)).grown hgrow (by simp;omega) (fun q hq=>(Q2.lt q hq).1)
     clear hgrow
     go_wp2_with fail
     go_roundw
     case rel=>exact ⟨k+1,uh Hlt,by go_num,by rw [uh HS];exact Q5,D5⟩
     case measure=>have:=uh Hlt;simp [intOf];omega
   ·obtain ⟨qc,rfl⟩:∃ qc:Nat,cd=(qc:Int):=⟨cd.toNat,by omega⟩
    have HC1:=hide (optV_some (Es:=Es) (k:=(qc:Int)) (by omega) (by omega))
    obtain ⟨bqc,oqc,haqc,lqc,gqc,iqc⟩:=T2.get (k:=qc) (List.getElem?_eq_getElem (by omega))
    simp only [Int.toNat_natCast] at HC1
    obtain ⟨tc,uc,fqc⟩:=(Es[qc]'(by omega)).form
    rw [fqc] at HC1 gqc
    have nqc:((qc:Int) == -1)=false:=beq_eq_false_iff_ne.2 (by omega)
    have mqc:((qc:Int) != -1)=true:=bne_iff_ne.2 (by omega)
    have jqc:(qc:Int)<(Es.length:Int):=by omega
    rcases hr2 with rfl | hr2
    ·subst haqc
     have Q2:=(Q1.alloc (.cells #[.int .i64 kd,.string nm,.int .i64 qc,.int .i64 (-1)] 94)).alloc (.cells #[.int .i64 k,.int .i64 kd,.string nm,.iface tc uc,.nilIface] 113)
     have D2:=(D1.alloc D1.size (.cells #[.int .i64 kd,.string nm,.int .i64 qc,.int .i64 (-1)] 94)).alloc (by simp;omega) (.cells #[.int .i64 k,.int .i64 kd,.string nm,.iface tc uc,.nilIface] 113)
     have HW:=hide (show [Value.int .i64 k,.int .i64 kd,.string nm,optV Es qc,optV Es (-1)]=[.int .i64 k,.int .i64 kd,.string nm,.iface tc uc,.nilIface] by rw [uh HC1,optV_none])
     rw [uh HW] at HS
     go_wp2_with (at_builtin;refine wpList_append_own _ rfl _ _ 67 rfl w1.heap.size 113 ie (.agg #[.int .i64 0,.int .i64 0,.string ByteArray.empty,.nilIface,.nilIface]) 5 64 Tryz.underlying67 hie ez0 ez1 ez2 rfl (by decide) _ _ _ rfl (World.ownsRow.alloc Q2 _) ⟨wr.heap.size+2,0,none⟩ 1 1 [.int .i64 k,.int .i64 kd,.string nm,.iface tc uc,.nilIface] rfl rfl ?d1 ?d2 ?d3 ?d4 ?d5 ?_)
     case d1=>exact five_cell _ _ _ _ _ _ _ _ (by simp)
     case d2=>intro u hu;simp at hu;rcases hu with rfl | rfl | rfl | rfl | rfl <;> rfl
     case d3=>unfold maxLen;omega
     case d4=>omega
     case d5=>simp;omega
     intro v' w4 Q5 hgrow _
     have D5:=(D2.alloc D2.size (.cells #[.int .i64 k,.int .i64 kd,.string nm,.iface tc uc,.nilIface] 113)).grown hgrow (by simp;omega) (fun q hq=>(Q2.lt q hq).1)
     clear hgrow
     go_wp2_with fail
     go_roundw
     case rel=>exact ⟨k+1,uh Hlt,by go_num,by rw [uh HS];exact Q5,D5⟩
     case measure=>have:=uh Hlt;simp [intOf];omega
    ·obtain ⟨qg,rfl⟩:∃ qg:Nat,gr=(qg:Int):=⟨gr.toNat,by omega⟩
     have HG1:=hide (optV_some (Es:=Es) (k:=(qg:Int)) (by omega) (by omega))
     obtain ⟨bqg,oqg,haqg,lqg,gqg,iqg⟩:=T2.get (k:=qg) (List.getElem?_eq_getElem (by omega))
     simp only [Int.toNat_natCast] at HG1
     obtain ⟨tg,ug,fqg⟩:=(Es[qg]'(by omega)).form
     rw [fqg] at HG1 gqg
     have nqg:((qg:Int) == -1)=false:=beq_eq_false_iff_ne.2 (by omega)
     have mqg:((qg:Int) != -1)=true:=bne_iff_ne.2 (by omega)
     have jqg:(qg:Int)<(Es.length:Int):=by omega
     subst haqc
     obtain ⟨rfl,rfl⟩:bqc=bqg∧oqc=oqg:=by simpa using haqg
     clear haqg
     have Q2:=(Q1.alloc (.cells #[.int .i64 kd,.string nm,.int .i64 qc,.int .i64 qg] 94)).alloc (.cells #[.int .i64 k,.int .i64 kd,.string nm,.iface tc uc,.iface tg ug] 113)
     have D2:=(D1.alloc D1.size (.cells #[.int .i64 kd,.string nm,.int .i64 qc,.int .i64 qg] 94)).alloc (by simp;omega) (.cells #[.int .i64 k,.int .i64 kd,.string nm,.iface tc uc,.iface tg ug] 113)
     have HW:=hide (show [Value.int .i64 k,.int .i64 kd,.string nm,optV Es qc,optV Es qg]=[.int .i64 k,.int .i64 kd,.string nm,.iface tc uc,.iface tg ug] by rw [uh HC1,uh HG1])
     rw [uh HW] at HS
     go_wp2_with (at_builtin;refine wpList_append_own _ rfl _ _ 67 rfl w1.heap.size 113 ie (.agg #[.int .i64 0,.int .i64 0,.string ByteArray.empty,.nilIface,.nilIface]) 5 64 Tryz.underlying67 hie ez0 ez1 ez2 rfl (by decide) _ _ _ rfl (World.ownsRow.alloc Q2 _) ⟨wr.heap.size+2,0,none⟩ 1 1 [.int .i64 k,.int .i64 kd,.string nm,.iface tc uc,.iface tg ug] rfl rfl ?d1 ?d2 ?d3 ?d4 ?d5 ?_)
     case d1=>exact five_cell _ _ _ _ _ _ _ _ (by simp)
     case d2=>intro u hu;simp at hu;rcases hu with rfl | rfl | rfl | rfl | rfl <;> rfl
     case d3=>unfold maxLen;omega
     case d4=>omega
     case d5=>simp;omega
     intro v' w4 Q5 hgrow _
     have D5:=(D2.alloc D2.size (.cells #[.int .i64 k,.int .i64 kd,.string nm,.iface tc uc,.iface tg ug] 113)).grown hgrow (by simp;omega) (fun q hq=>(Q2.lt q hq).1)
     clear hgrow
     go_wp2_with fail
     go_roundw
     case rel=>exact ⟨k+1,uh Hlt,by go_num,by rw [uh HS];exact Q5,D5⟩
     case measure=>have:=uh Hlt;simp [intOf];omega
  ·have e:k=m:=by omega
   subst e
   rw [show L.take k=L by rw [← uh HL,List.take_length]] at Q1
   obtain ⟨xv,kv,rfl,_⟩:=owns_form2 Q1
   go_wp2_with fail
   go_ret
   exact ⟨⟨_,Es,rfl,rfl,O1.tree,O1.fit,ownsRow_low Q1 z1⟩,B1.trans (D1.mono B1.size)⟩

end Go.Proofs.YtedlocniojlhfaaGreatDoor

namespace Go.Proofs.YtedlocniojlhfaaGreatDoor
set_option maxRecDepth 100000
set_option maxHeartbeats 1600000
open Go.RowKit
set_option linter.unusedVariables false

open Classical in
noncomputable def findI (s:ByteArray):List ByteArray→Int→Int
 | [],_=>-1
 | x::r,k=>if x=s then k else findI s r (k+1)

theorem findI_pos (s:ByteArray):∀ (L:List ByteArray) (k:Int),0≤k→(0≤findI s L k↔s∈L)
 | [],k,h=>by simp [findI]
 | x::r,k,h=>by
  rw [findI]
  by_cases e:x=s
  ·rw [if_pos e];simp [e,h]
  ·rw [if_neg e,findI_pos s r (k+1) (by omega)]
   simp [Ne.symm e]

theorem findI_at {s:ByteArray} {L:List ByteArray} {k:Nat} (h:k<L.length):findI s (L.drop k) k=if L[k]=s then (k:Int) else findI s (L.drop (k+1)) ((k+1:Nat):Int):=by
 rw [List.drop_eq_getElem_cons h,findI]
 rfl

theorem tl_eq (x s:ByteArray):(x.toList == s.toList)=true↔x=s:=by
 rw [beq_iff_eq]
 constructor
 ·intro h
  rw [ByteArray.toList_eq,ByteArray.toList_eq] at h
  cases x;cases s
  simp only [ByteArray.mk.injEq]
  exact Array.toList_inj.1 h
 ·rintro rfl;rfl

def Nms (w:World) (a:Option Addr) (L:List ByteArray):Prop:=∀ j,(h:j<L.length)→∃ b off,a=some ⟨b,off,none⟩∧b<w.heap.size∧w.cell? ⟨b,off+j,none⟩=some (.string L[j])

theorem Nms.below {w w':World} {B:Nat} {a:Option Addr} {L:List ByteArray} (h:Nms w a L) (hb:Below B w w') (hB:w.heap.size≤B):Nms w' a L:=fun j hj=>by
 obtain ⟨b,off,ha,hl,c0⟩:=h j hj
 exact ⟨b,off,ha,Nat.lt_of_lt_of_le hl hb.size,(hb.cell (p:=⟨b,off+j,none⟩) (by show b<B;omega)).trans c0⟩

theorem nms_new (w:World) (t:TypeId) (L:List ByteArray):Nms (w.alloc (.cells (L.map Value.string).toArray t)) (some ⟨w.heap.size,0,none⟩) L:=fun j hj=>by
 refine ⟨w.heap.size,0,rfl,by simp,?_⟩
 rw [Nat.zero_add,(Row.new w (L.map Value.string).toArray t).cell j]
 simp [hj]

theorem l3attr_any (s:ByteArray) (w:World) :
  Calls Tryz.prog 71 #[.string s] w fun r w'=>r=.returned (.int .i64 (findI s attN 0))∧Below w.heap.size w w':=by
 have B1:=(Below.refl w.heap.size w).alloc nl (.cells (attN.map Value.string).toArray 9)
 have I1:=nms_new w 9 attN
 have HM:=hide (show attN.length=6 from rfl)
 have Hw:=hide (show w.alloc (.cells (attN.map Value.string).toArray 9)=w.alloc (.cells #[.string ⟨#[99,108,105,101,110,116]⟩,.string ⟨#[117,115,101,114]⟩,.string ⟨#[108,101,118,101,108]⟩,.string ⟨#[110,111,119]⟩,.string ⟨#[97,115,107,101,100]⟩,.string ⟨#[97,103,114,101,101,100]⟩] 9) from rfl)
 go_enter Tryz.func71,Tryz.ntmps71
 go_wp2_with fail
 rw [← uh Hw]
 clear Hw
 generalize w.alloc (.cells (attN.map Value.string).toArray 9)=w1 at B1 I1 ⊢
 go_loopw [7] (fun i wr=>∃ k:Nat,k≤6∧i=.int .i64 k∧Below w.heap.size w wr∧Below w1.heap.size w1 wr∧Hid (findI s attN 0=findI s ((attN:List ByteArray).drop k) k)) (fun i _=>6 - (intOf i).toNat)
 case atStart=>exact ⟨0,by omega,rfl,B1,Below.refl _ _,hide rfl⟩
 case round =>
  obtain ⟨k,hk,rfl,D0,D1,HF⟩:=hrel
  by_cases hlt:k<6
  ·have ilt:(k:Int)<(6:Int):=by omega
   have h1:k<(attN:List ByteArray).length:=by rw [uh HM];exact hlt
   obtain ⟨b1,o1,hab,hb,c0⟩:=(I1.below D1 nl) k h1
   obtain ⟨rfl,rfl⟩:b1=w.heap.size∧o1=0:=by simpa [eq_comm] using hab
   simp only [Nat.zero_add] at c0
   have HG:=hide ((uh HF).trans (findI_at h1))
   have Hlt:=hide hlt
   generalize (attN:List ByteArray)[k]=u at c0 HG
   clear hlt h1 HF
   by_cases hu:u=s
   ·have eu:(u.toList == s.toList)=true:=(tl_eq u s).2 hu
    have HN:=hide ((uh HG).trans (if_pos hu))
    clear HG hu
    go_wp2_with fail
    go_ret
    exact ⟨by rw [uh HN];rfl,D0⟩
   ·have eu:(u.toList == s.toList)=false:=by rw [Bool.eq_false_iff];exact fun h=>hu ((tl_eq u s).1 h)
    have HN:=hide ((uh HG).trans (if_neg hu))
    clear HG hu
    go_wp2_with fail
    go_roundw
    case rel=>exact ⟨k+1,uh Hlt,by go_num,D0,D1,HN⟩
    case measure=>have:=uh Hlt;simp [intOf];omega
  ·have e:k=6:=by omega
   subst e
   have HN:=hide (show findI s attN 0=-1 by rw [uh HF,List.drop_of_length_le (by rw [uh HM];omega)];rfl)
   go_wp2_with fail
   go_ret
   exact ⟨by rw [uh HN];rfl,D0⟩

theorem find_any (lb:Nat) (a:Option Addr) (n c:Nat) (L:List ByteArray) (s:ByteArray) (w:World) (h0:w.cell? ⟨lb,0,none⟩=some (.slice a n c)) (hlb:lb<w.heap.size) (hL:L.length=n) (hn:n≤1048576) (hN:Nms w a L) :
  Calls Tryz.prog 72 #[.pointer (some ⟨lb,0,none⟩),.string s] w fun r w'=>r=.returned (.int .i64 (findI s L 0))∧Below w.heap.size w w':=by
 have HM:=hide hL
 obtain ⟨w1,hw1⟩:∃ w1,w1=w:=⟨_,rfl⟩
 have B1:Below w.heap.size w w1:=by rw [hw1];exact Below.refl _ _
 have I1:Nms w1 a L:=by rw [hw1];exact hN
 have Hw:=hide hw1
 clear hw1 hL hN
 go_enter Tryz.func72,Tryz.ntmps72
 go_wp2_with fail
 rw [← uh Hw]
 clear Hw
 go_loopw [12] (fun i wr=>∃ k:Nat,k≤n∧i=.int .i64 k∧Below w.heap.size w wr∧Below w1.heap.size w1 wr∧Hid (findI s L 0=findI s ((L:List ByteArray).drop k) k)) (fun i _=>n - (intOf i).toNat)
 case atStart=>exact ⟨0,by omega,rfl,B1,Below.refl _ _,hide rfl⟩
 case round =>
  obtain ⟨k,hk,rfl,D0,D1,HF⟩:=hrel
  by_cases hlt:k<n
  ·have ilt:(k:Int)<(n:Int):=by omega
   have h1:k<(L:List ByteArray).length:=by rw [uh HM];exact hlt
   obtain ⟨b1,o1,hab,hb,c0⟩:=(I1.below D1 nl) k h1
   subst hab
   have HG:=hide ((uh HF).trans (findI_at h1))
   have Hlt:=hide hlt
   generalize (L:List ByteArray)[k]=u at c0 HG
   clear hlt h1 HF
   by_cases hu:u=s
   ·have eu:(u.toList == s.toList)=true:=(tl_eq u s).2 hu
    have HN:=hide ((uh HG).trans (if_pos hu))
    clear HG hu
    go_wp2_with fail
    go_ret
    exact ⟨by rw [uh HN];rfl,D0⟩
   ·have eu:(u.toList == s.toList)=false:=by rw [Bool.eq_false_iff];exact fun h=>hu ((tl_eq u s).1 h)
    have HN:=hide ((uh HG).trans (if_neg hu))
    clear HG hu
    go_wp2_with fail
    go_roundw
    case rel=>exact ⟨k+1,uh Hlt,by go_num,D0,D1,HN⟩
    case measure=>have:=uh Hlt;simp [intOf];omega
  ·have e:k=n:=by omega
   subst e
   have HN:=hide (show findI s L 0=-1 by rw [uh HF,List.drop_of_length_le (by rw [uh HM];omega)];rfl)
   go_wp2_with fail
   go_ret
   exact ⟨by rw [uh HN];rfl,D0⟩

end Go.Proofs.YtedlocniojlhfaaGreatDoor

namespace Go.Proofs.YtedlocniojlhfaaGreatDoor
set_option maxRecDepth 100000
set_option maxHeartbeats 3200000
open Go.RowKit
set_option linter.unusedVariables false

def allO:List (Option Int)→Option (List Int)
 | []=>some []
 | none::_=>none
 | some t::r=>(allO r).map (t::·)

theorem allO_len:∀ {os:List (Option Int)} {K:List Int},allO os=some K→K.length=os.length
 | [],K,h=>by cases h;rfl
 | none::_,K,h=>by cases h
 | some t::r,K,h=>by
  rw [allO] at h
  obtain ⟨K',h1,h2⟩:=Option.map_eq_some_iff.1 h
  rw [← h2,List.length_cons,List.length_cons,allO_len h1]

theorem allO_snoc (o:Option Int):∀ (os:List (Option Int)) (K:List Int),allO os=some K→allO (os++[o])=o.map (fun t=>K++[t])
 | [],K,h=>by cases h;cases o <;> rfl
 | none::_,K,h=>by cases h
 | some t::r,K,h=>by
  rw [allO] at h
  obtain ⟨K',h1,h2⟩:=Option.map_eq_some_iff.1 h
  rw [List.cons_append,allO,allO_snoc o r K' h1,← h2]
  cases o <;> rfl

theorem allO_none:∀ (os:List (Option Int)) (k:Nat),allO (os.take k)=none→allO os=none
 | [],k,h=>by simpa using h
 | none::_,k,h=>rfl
 | some t::r,0,h=>by cases h
 | some t::r,k+1,h=>by
  rw [List.take_succ_cons,allO,Option.map_eq_none_iff] at h
  rw [allO,allO_none r k h]
  rfl

def NdAns (o:Option Int) (w:World) (r:Ending) (w':World):Prop:=(∃ ty code,r=.returned (.tuple #[.int .i64 ty,.int .i64 code])∧((code=0∧o=some ty)∨(code≠0∧o=none)))∧Below w.heap.size w w'

def tyN (op:Int) (os:List (Option Int)):Option Int:=match allO os with
 | none=>none
 | some K=>nz (typeL op K)

theorem l3node_kids (a:Option Addr) (n c:Nat) (N:List Nd) (lb:Nat) (w:World) (hN:Nds w a n c N) (i:Nat) (x:Nd) (hx:N[i]?=some x) (hop:opOK x.op) (hl:(rowL x.op).1.length≤x.kids.length) (os:List (Option Int)) (ho:os.length=x.kids.length)
  (V:∀ j,(h:j<x.kids.length)→(h2:j<os.length)→∀ W,Below w.heap.size w W→Calls Tryz.prog 99 #[.slice a n c,.int .i64 x.kids[j],.pointer (some ⟨lb,0,none⟩)] W (NdAns os[j] W)) :
  Calls Tryz.prog 99 #[.slice a n c,.int .i64 i,.pointer (some ⟨lb,0,none⟩)] w (NdAns (tyN x.op os) w):=by
 obtain ⟨ii,hii,ez0,ez1,ez2⟩:=info_parts infoI
 have hnN:=hN.small
 have hlen:=hN.len
 have hi:i<N.length:=(List.getElem?_eq_some_iff.1 hx).1
 have hxe:N[i]=x:=(List.getElem?_eq_some_iff.1 hx).2
 have iin:(i:Int)<(n:Int):=by omega
 obtain ⟨b,off,rfl,hbl,an,nn,cn,ak,nk,ck,c0,c1,c2,c3,c4,hNm,hKd⟩:=hN.cells i hi
 rw [hxe] at c0 c1 c2 hKd
 have HKL:=hide hKd.len
 have hnk:=hKd.small
 have HO:=hide ho
 have HV:=hide V
 have HL:=hide hl
 have HT:=hide (fun K h=>(show tyN x.op os=nz (typeL x.op K) by rw [tyN,(show allO os=some K from h)]))
 have HTN:=hide (show allO os=none→tyN x.op os=none from fun h=>by rw [tyN,h])
 have n5:(x.op == 5)=false:=beq_eq_false_iff_ne.2 (by unfold opOK at hop;omega)
 have n6:(x.op == 6)=false:=beq_eq_false_iff_ne.2 (by unfold opOK at hop;omega)
 have n7:(x.op == 7)=false:=beq_eq_false_iff_ne.2 (by unfold opOK at hop;omega)
 have HOP:=hide hop
 clear hNm
 clear hlen hx hxe hi hl ho V hop
 have R0:=Row.new w #[.int .i64 x.op,.int .i64 x.num,.string x.text,.slice an nn cn,.slice ak nk ck] 98
 have B0:=(Below.refl w.heap.size w).alloc nl (.cells #[.int .i64 x.op,.int .i64 x.num,.string x.text,.slice an nn cn,.slice ak nk ck] 98)
 have z0:w.heap.size<(w.alloc (.cells #[.int .i64 x.op,.int .i64 x.num,.string x.text,.slice an nn cn,.slice ak nk ck] 98)).heap.size:=by simp
 go_enter Tryz.func99,Tryz.ntmps99
 go_wp2_with fail
 generalize w.alloc (.cells #[.int .i64 x.op,.int .i64 x.num,.string x.text,.slice an nn cn,.slice ak nk ck] 98)=W1 at R0 B0 z0 ⊢
 go_loopw [11,71] (fun v i wr=>∃ (j:Nat) (K:List Int),j≤nk∧i=.int .i64 j∧wr.ownsRow W1.heap.size 3 1 v K.length (intsV K)∧Hid (allO (os.take j)=some K)∧Below W1.heap.size W1 wr) (fun _ i _=>nk - (intOf i).toNat)
 case atStart=>exact ⟨0,[],by omega,rfl,World.ownsRow_nil _ _ _ _,hide rfl,Below.refl _ _⟩
 case round =>
  obtain ⟨j,K,hj,rfl,Q1,HK,D1⟩:=hrel
  have E1:=B0.trans (D1.mono B0.size)
  have zd:=D1.size
  have hKl:K.length≤nk:=by have:=allO_len (uh HK);rw [List.length_take] at this;omega
  by_cases hjl:j<nk
  ·have ijl:(j:Int)<(nk:Int):=by omega
   have hjk:j<x.kids.length:=by rw [uh HKL];exact hjl
   have hjo:j<os.length:=by rw [uh HO];exact hjk
   obtain ⟨bk,ok,rfl,hbk,ck0⟩:=(hKd.below E1 nl).cells j hjk
   have HC:=hide (uh HV j hjk hjo _ E1)
   have HS:=hide (show allO (os.take (j+1))=os[j].map (fun t=>K++[t]) by rw [List.take_succ_eq_append_getElem hjo];exact allO_snoc _ _ _ (uh HK))
   have HZ:=hide (show os[j]=none→tyN x.op os=none from fun e=>uh HTN (allO_none os (j+1) (by rw [uh HS,e];rfl)))
   have Hjl:=hide hjl
   generalize x.kids[j]=y at ck0 HC
   generalize os[j]=oj at HC HS HZ
   obtain ⟨xv,cv,rfl,_⟩:=owns_form2 Q1
   clear hjk hjo hjl
   go_wp2_with fail
   refine (uh HC).mono ?_
   rintro r w2 ⟨⟨ty,code,rfl,hr⟩,hb2⟩
   have D2:=D1.trans (hb2.mono zd)
   have Q2:=ownsRow_below Q1 hb2 nl
   rcases hr with ⟨rfl,rfl⟩ | ⟨hc,rfl⟩
   ·have HS2:=hide (show allO (os.take (j+1))=some (K++[ty]) from uh HS)
    have zd2:=D2.size
    clear HS HZ HC
    dsimp only
    go_wp2_with (at_builtin;refine wpList_append_own _ rfl _ _ 24 rfl W1.heap.size 3 ii (.int .i64 0) 1 8 Tryz.underlying24 hii ez0 ez1 ez2 rfl (by decide) _ _ _ rfl (World.ownsRow.alloc Q2 _) ⟨w2.heap.size,0,none⟩ 1 1 [.int .i64 ty] rfl rfl ?d1 ?d2 ?d3 ?d4 ?d5 ?_)
    case d1=>exact one_cell _ _ _ _ (by simp)
    case d2=>intro u hu;simp at hu;subst hu;rfl
    case d3=>unfold maxLen;omega
    case d4=>omega
    case d5=>simp;omega
    intro v' w3 Q3 hgrow _
    have D3:=(D2.alloc D2.size (.cells #[.int .i64 ty] 3)).grown hgrow (by simp;omega) (fun q hq=>(Q2.lt q hq).1)
    clear hgrow
    go_wp2_with fail
    go_roundw
    case rel=>exact ⟨j+1,K++[ty],uh Hjl,by go_num,owns_snoc Q3,HS2,D3⟩
    case measure=>have:=uh Hjl;simp [intOf];omega
   ·have ec:(code != 0)=true:=bne_iff_ne.2 hc
    have HX:=hide (uh HZ rfl)
    have Hc:=hide hc
    clear hc HS HZ HC
    dsimp only
    go_wp2_with fail
    exact bodyPost_ret (v:=.tuple #[.int .i64 0,.int .i64 code]) (by simp [results,Tryz.results99,go_sem]) rfl ⟨⟨_,_,rfl,.inr ⟨uh Hc,uh HX⟩⟩,B0.trans (D2.mono B0.size)⟩
  ·have e:j=nk:=by omega
   subst e
   have HA:=hide (show allO os=some K by rw [← uh HK,List.take_of_length_le (by rw [uh HO,uh HKL];exact nl)])
   have HX:=hide (uh HT K (uh HA))
   have hl2:=allO_len (uh HA)
   have HLK:=hide (show (rowL x.op).1.length≤K.length by have:=uh HL;have:=uh HO;omega)
   obtain ⟨xv,cv,rfl,_⟩:=owns_form2 Q1
   have J1:=ints_of_row Q1 (by omega)
   have R1:=R0.below D1 z0
   have q0:wr.cell? ⟨w.heap.size,0,none⟩=some (.int .i64 x.op):=R1.cell 0
   clear hl2
   go_wp2_with fail
   refine (l3type_any x.op (uh HOP) _ _ _ K _ J1 (uh HLK)).mono ?_
   rintro r w4 ⟨rfl,hb4⟩
   have D4:=D1.trans (hb4.mono zd)
   dsimp only
   by_cases ht:typeL x.op K=0
   ·have et:(typeL x.op K == 0)=true:=beq_iff_eq.2 ht
    have HY:=hide (show tyN x.op os=none by rw [uh HX,nz,if_pos ht])
    clear ht HX
    generalize typeL x.op K=tt at et
    go_wp2_with fail
    exact bodyPost_ret (v:=.tuple #[.int .i64 0,.int .i64 9]) (by simp [results,Tryz.results99,go_sem]) rfl ⟨⟨_,_,rfl,.inr ⟨by decide,uh HY⟩⟩,B0.trans (D4.mono B0.size)⟩
   ·have et:(typeL x.op K == 0)=false:=beq_eq_false_iff_ne.2 ht
    have HY:=hide (show tyN x.op os=some (typeL x.op K) by rw [uh HX,nz,if_neg ht])
    clear ht HX
    generalize typeL x.op K=tt at et HY
    go_wp2_with fail
    exact bodyPost_ret (v:=.tuple #[.int .i64 tt,.int .i64 0]) (by simp [results,Tryz.results99,go_sem]) rfl ⟨⟨_,_,rfl,.inl ⟨rfl,uh HY⟩⟩,B0.trans (D4.mono B0.size)⟩

end Go.Proofs.YtedlocniojlhfaaGreatDoor

namespace Go.Proofs.YtedlocniojlhfaaGreatDoor
open Go.RowKit
set_option linter.unusedVariables false

def shapeI (N:List Nd) (L:List St):Bool:=match runT (N.map Nd.kids) N.length [] 0 with
 | none=>false
 | some S=>decide (topsI S=L.flatMap askedOf)

theorem row2 {w:World} {b:Nat} {v0 v1:Value} {t:TypeId} (R:Row w b #[v0,v1] t):w.cell? ⟨b,0,none⟩=some v0∧w.cell? ⟨b,1,none⟩=some v1:=⟨R.cell 0,R.cell 1⟩

theorem runT_len {K:List (List Int)}:∀ {k:Nat} {S:List (Nat × Nat)},runT K k [] 0=some S→S.length≤k∧k≤K.length∨k=0∧S=[]
 | 0,S,h=>by right;rw [runT] at h;cases h;exact ⟨rfl,rfl⟩
 | k+1,S,h=>by
  left
  rw [runT_add K k 1 [] 0] at h
  cases h1:runT K k [] 0 with
  | none=>rw [h1] at h;cases h
  | some S1 =>
   rw [h1] at h
   change runT K 1 S1 (0+k)=some S at h
   rw [Nat.zero_add,runT] at h
   cases h2:K[k]? with
   | none=>rw [h2] at h;cases h
   | some ks =>
    rw [h2] at h
    dsimp only at h
    cases h3:stepT S1 k ks with
    | none=>rw [h3] at h;cases h
    | some S2 =>
     rw [h3] at h
     change some S2=some S at h
     cases h
     have hl:=(List.getElem?_eq_some_iff.1 h2).1
     obtain ⟨A,B,e1,_,_,e2⟩:=stepT_of h3
     have ih:=runT_len h1
     rw [e2,List.length_append,List.length_singleton]
     rcases ih with ⟨i1,i2⟩ | ⟨i1,i2⟩
     ·rw [e1,List.length_append] at i1;omega
     ·rw [e1] at i2;have:=List.append_eq_nil_iff.1 i2;rw [this.1];simp;omega

end Go.Proofs.YtedlocniojlhfaaGreatDoor

namespace Go.Proofs.YtedlocniojlhfaaGreatDoor
set_option maxRecDepth 100000
set_option maxHeartbeats 3200000
open Go.RowKit
set_option linter.unusedVariables false

def wellT (N:List Nd) (L:List St):Bool:=decide (N.length≤4000) && (decide (1≤L.length∧L.length≤600) && stmtsI L) && N.all fieldsT && shapeI N L

theorem wellFormedT_any (a b:Option Addr) (n c m d:Nat) (N:List Nd) (L:List St) (w:World) (h1:Nds w a n c N) (h2:Sts w b m d L) (hT:TabOK w) :
  Calls Tryz.prog 52 #[.agg #[.slice a n c,.slice b m d],.func (.func 53) #[] #[]] w fun e w'=>e=.returned (.bool (wellT N L))∧Below w.heap.size w w':=by
 have s1:=h1.small
 have s2:=h2.small
 have HN:=hide h1.len
 have HL:=hide h2.len
 have HF:=hide (show wellT N L=(decide (n≤4000) && (decide (1≤m∧m≤600) && stmtsI L) && N.all fieldsT && shapeI N L) by rw [wellT,h1.len,h2.len])
 have R0:=Row.new w #[.slice a n c,.slice b m d] 70
 have B0:=(Below.refl w.heap.size w).alloc nl (.cells #[.slice a n c,.slice b m d] 70)
 have N0:=h1.below B0 nl
 have L0:=h2.below B0 nl
 have T0:=hT.below B0 nl
 go_enter Tryz.func52,Tryz.ntmps52
 by_cases hn:4000<n
 ·have ih:(4000:Int)<(n:Int):=by omega
  have HX:=hide (show wellT N L=false by rw [uh HF,decide_eq_false (by omega)];rfl)
  clear hn
  go_wp2_with fail
  go_ret
  exact ⟨ret_bool (uh HX).symm,B0⟩
 have ih:¬ ((4000:Int)<(n:Int)):=by omega
 have HG:=hide (show wellT N L=((decide (1≤m∧m≤600) && stmtsI L) && N.all fieldsT && shapeI N L) by rw [uh HF,decide_eq_true (by omega)];rfl)
 clear hn HF
 generalize hv1:(decide (1≤m∧m≤600) && stmtsI L)=v1 at HG
 have Hv1:=hide hv1
 clear hv1
 cases v1
 ·have HX:=hide (show wellT N L=false by rw [uh HG];rfl)
  go_wp2_with (go_at_call 75;refine (validStmts_any _ _ _ _ _ L0).mono ?_;rintro e w2 ⟨rfl,hb2⟩;rw [uh Hv1])
  go_ret
  exact ⟨ret_bool (uh HX).symm,B0.trans (hb2.mono B0.size)⟩
 ·have HG2:=hide (show wellT N L=(N.all fieldsT && shapeI N L) by rw [uh HG,Bool.true_and])
  clear HG
  generalize hv2:N.all fieldsT=v2 at HG2
  have Hv2:=hide hv2
  clear hv2
  cases v2
  ·have HX:=hide (show wellT N L=false by rw [uh HG2];rfl)
   go_wp2_with (first
    | (go_at_call 75;refine (validStmts_any _ _ _ _ _ L0).mono ?_;rintro e w2 ⟨rfl,hb2⟩;rw [uh Hv1];obtain ⟨q0,q1⟩:=row2 (R0.after hb2 nl))
    | (go_at_call 76;refine (validNodesT_any _ _ _ _ _ (N0.below hb2 nl) (T0.below hb2 nl)).mono ?_;rintro e w3 ⟨rfl,hb3⟩;rw [uh Hv2]))
   go_ret
   exact ⟨ret_bool (uh HX).symm,B0.trans ((hb2.trans (hb3.mono hb2.size)).mono B0.size)⟩
  ·have HG3:=hide (show wellT N L=shapeI N L by rw [uh HG2,Bool.true_and])
   clear HG2
   have HS:=hide (show shapeI N L=match runT (N.map Nd.kids) n [] 0 with | none=>false | some S=>decide (topsI S=L.flatMap askedOf) by rw [shapeI,uh HN];try rfl)
   have HT:=hide (fun S=>(runT_len (K:=N.map Nd.kids) (k:=n) (S:=S)))
   generalize hrn:runT (N.map Nd.kids) n [] 0=rn at HS HT
   have Hrn:=hide hrn
   clear hrn
   cases rn with
   | none =>
    have HX:=hide (show wellT N L=false by rw [uh HG3,uh HS])
    go_wp2_with (first
     | (go_at_call 75;refine (validStmts_any _ _ _ _ _ L0).mono ?_;rintro e w2 ⟨rfl,hb2⟩;rw [uh Hv1];obtain ⟨q0,q1⟩:=row2 (R0.after hb2 nl))
     | (go_at_call 76;refine (validNodesT_any _ _ _ _ _ (N0.below hb2 nl) (T0.below hb2 nl)).mono ?_;rintro e w3 ⟨rfl,hb3⟩;rw [uh Hv2];have hb3':=hb2.trans (hb3.mono hb2.size);obtain ⟨r0,r1⟩:=row2 (R0.after hb3' nl))
     | (go_at_call 77;refine (topsOf_any _ _ _ _ _ (N0.below hb3' nl)).mono ?_;rw [uh Hrn];rintro e w4 ⟨he,hb4⟩;change e=_ at he;subst he))
    go_ret
    exact ⟨ret_bool (uh HX).symm,B0.trans ((hb3'.trans (hb4.mono hb3'.size)).mono B0.size)⟩
   | some S =>
    obtain ⟨AL,HAL⟩:∃ AL,Hid (L.flatMap askedOf=AL):=⟨_,hide rfl⟩
    obtain ⟨TL,HTL⟩:∃ TL,Hid (topsI S=TL):=⟨_,hide rfl⟩
    have HX:=hide (show wellT N L=decide (TL=AL) by rw [uh HG3,uh HS,uh HAL];show decide (topsI S=AL)=_;rw [uh HTL])
    have hSl:S.length≤n:=by
     rcases uh HT S rfl with k | ⟨_,k⟩
     ·exact k.1
     ·subst k;simp
    have hm6:m≤600:=(of_decide_eq_true (Bool.and_eq_true _ _ ▸ uh Hv1).1).2
    have hal:AL.length≤2*m:=by have:=asked_len L;rw [uh HL,uh HAL] at this;exact this
    go_wp2_with (first
     | (go_at_call 75;refine (validStmts_any _ _ _ _ _ L0).mono ?_;rintro e w2 ⟨rfl,hb2⟩;rw [uh Hv1];obtain ⟨q0,q1⟩:=row2 (R0.after hb2 nl))
     | (go_at_call 76;refine (validNodesT_any _ _ _ _ _ (N0.below hb2 nl) (T0.below hb2 nl)).mono ?_;rintro e w3 ⟨rfl,hb3⟩;rw [uh Hv2];have hb3':=hb2.trans (hb3.mono hb2.size);obtain ⟨r0,r1⟩:=row2 (R0.after hb3' nl))
     | (go_at_call 77;refine (topsOf_any _ _ _ _ _ (N0.below hb3' nl)).mono ?_;rw [uh Hrn];rintro e w4 ⟨⟨v,he,O4⟩,hb4⟩;subst he;rw [uh HTL] at O4;obtain ⟨xv,cv,rfl,_⟩:=owns_form2 O4;have hb4':=hb3'.trans (hb4.mono hb3'.size);obtain ⟨t0,t1⟩:=row2 (R0.after hb4' nl);have I4:=ints_of_row O4 (by omega))
     | (go_at_call 78;refine (topsAsked_any _ _ _ _ _ (L0.below hb4' nl)).mono ?_;rintro e w5 ⟨v,rfl,O5,hb5⟩;rw [uh HAL] at O5;obtain ⟨xu,cu,rfl,_⟩:=owns_form2 O5;have I5:=ints_of_row O5 (by omega);have I6:=I4.below hb5 nl;have hb5':=hb4'.trans (hb5.mono hb4'.size))
     | (go_at_call 56;refine (equalI_any _ _ _ _ _ _ _ _ _ I6 I5).mono ?_;rintro e w6 ⟨rfl,hb6⟩))
    go_ret
    exact ⟨ret_bool (uh HX).symm,B0.trans ((hb5'.trans (hb6.mono hb5'.size)).mono B0.size)⟩

end Go.Proofs.YtedlocniojlhfaaGreatDoor

namespace Go.Proofs.YtedlocniojlhfaaGreatDoor
open Go.RowKit
set_option linter.unusedVariables false

theorem identB_size {s:ByteArray} (h:identB s=true):s.size≤32:=by
 unfold identB at h
 have e:(toL s).length=s.size:=by simp [toL]
 cases hs:toL s with
 | nil=>rw [hs] at e;simp at e;omega
 | cons c r =>
  rw [hs] at h
  simp only [Bool.and_eq_true,decide_eq_true_eq] at h
  rw [← e,hs]
  exact h.1.1.1

theorem kids_at {N:List Nd} {i:Nat} {Es:List Ex} (hl:Es.length=i) (hE:∀ j,(h:j<Es.length)→IsT N j Es[j]) {k:Int} (hk:0≤k∧k<i):∃ (m:Nat) (e:Ex),k=m∧m<i∧Es[m]?=some e∧IsT N m e:=by
 refine ⟨k.toNat,Es[k.toNat]'(by omega),by omega,by omega,List.getElem?_eq_getElem _,hE _ _⟩

end Go.Proofs.YtedlocniojlhfaaGreatDoor

namespace Go.Proofs.YtedlocniojlhfaaGreatDoor
set_option maxRecDepth 100000
set_option maxHeartbeats 3200000
open Go.RowKit
set_option linter.unusedVariables false

def deepK (F:Int→Nat) (ks:List Int):Nat:=ks.foldl (fun d k=>max d (F k)) 0

theorem deepK_snoc (F:Int→Nat) (ks:List Int) (k:Int):deepK F (ks++[k])=max (deepK F ks) (F k):=by
 rw [deepK,List.foldl_append];rfl

theorem deepK_le {F:Int→Nat} {M:Nat} (h:∀ k,F k≤M):∀ (ks:List Int) (d:Nat),d≤M→ks.foldl (fun d k=>max d (F k)) d≤M
 | [],d,hd=>hd
 | k::ks,d,hd=>by
  rw [List.foldl_cons]
  exact deepK_le h ks _ (by have:=h k;omega)

theorem depthF_le (K:List (List Int)):∀ (n:Nat) (t:Int),depthF K n t≤n+1
 | 0,t=>by rw [depthF];show 1≤0+1;omega
 | n+1,t=>by
  rw [depthF]
  dsimp only
  have:=deepK_le (F:=depthF K n) (M:=n+1) (depthF_le K n) (K.getD t.toNat []) 0 (by omega)
  omega

theorem l2depth_any (a:Option Addr) (n c:Nat) (N:List Nd) (w0:World) (hN:Nds w0 a n c N) (hOK:∀ t,(h:t<N.length)→∀ y∈N[t].kids,0≤y∧y<(t:Int)) :
  ∀ (fuel t:Nat) (w:World),fuel≤4001→t<n→t<fuel→Below w0.heap.size w0 w →
  Calls Tryz.prog 69 #[.slice a n c,.int .i64 t] w fun e w'=>e=.returned (.int .i64 (depthF (N.map Nd.kids) fuel (t:Int)))∧Below w.heap.size w w':=by
 have HL:=hide hN.len
 have HOK:=hide hOK
 clear hOK
 intro fuel
 induction fuel with
 | zero=>intro t w _ _ h;omega
 | succ fuel ih =>
  intro t w hfl htn htf hb
  have htl:t<N.length:=by rw [uh HL];exact htn
  have itn:(t:Int)<(n:Int):=by omega
  have hk:=uh HOK t htl
  have HW:=hide (show depthF (N.map Nd.kids) (fuel+1) (t:Int)=deepK (depthF (N.map Nd.kids) fuel) N[t].kids+1 by
   rw [depthF]
   dsimp only
   rw [Int.toNat_natCast,List.getD_eq_getElem?_getD,List.getElem?_map,List.getElem?_eq_getElem htl]
   rfl)
  have HWL:=hide (depthF_le (N.map Nd.kids) fuel)
  obtain ⟨b,off,rfl,hbl,an,nn,cn,ak,nk,ck,c0,c1,c2,c3,c4,hNm,hKd⟩:=hN.cells t htl
  have c4:=(hb.cell (p:=⟨b,off+t*5+4,none⟩) hbl).trans c4
  rw [uh HW]
  clear HW c0 c1 c2 c3
  generalize N[t]=x at c4 hNm hKd hk ⊢
  generalize depthF (N.map Nd.kids) fuel=F at ih HWL ⊢
  have HKL:=hide hKd.len
  have hnk:=hKd.small
  have Hk:=hide hk
  clear hk
  go_enter Tryz.func69,Tryz.ntmps69
  go_wp2_with fail
  go_loopw [5,15] (fun d i wr=>∃ j:Nat,j≤nk∧i=.int .i64 j∧d=.int .i64 (deepK F (x.kids.take j))∧deepK F (x.kids.take j)≤4001∧Below w.heap.size w wr) (fun _ i _=>nk - (intOf i).toNat)
  case atStart=>exact ⟨0,by omega,rfl,rfl,by simp [deepK],Below.refl _ _⟩
  case round =>
   obtain ⟨j,hj,rfl,rfl,hd,B1⟩:=hrel
   have E0:=hb.trans (B1.mono hb.size)
   by_cases hjl:j<nk
   ·have ijl:(j:Int)<(nk:Int):=by omega
    have hjk:j<x.kids.length:=by rw [uh HKL];exact hjl
    obtain ⟨bk,ok,rfl,hbk,ck0⟩:=(hKd.below E0 nl).cells j hjk
    obtain ⟨hy0,hyt⟩:=uh Hk x.kids[j] (List.getElem_mem hjk)
    have HS:=hide (show deepK F (x.kids.take (j+1))=max (deepK F (x.kids.take j)) (F x.kids[j]) by rw [List.take_succ_eq_append_getElem hjk,deepK_snoc])
    have Hjl:=hide hjl
    generalize x.kids[j]=y at ck0 hy0 hyt HS
    obtain ⟨s,rfl⟩:∃ s:Nat,y=(s:Int):=⟨y.toNat,by omega⟩
    have hF:=uh HWL (s:Int)
    generalize deepK F (x.kids.take j)=D at hd HS
    by_cases hgt:D<F (s:Int)
    ·have igt:(D:Int)<(F (s:Int):Int):=by omega
     have HM:=hide (show deepK F (x.kids.take (j+1))=F (s:Int) by rw [uh HS];omega)
     go_wp2_with (go_at_call 69;refine (ih s wr (by omega) (by omega) (by omega) E0).mono ?_;rintro e w2 ⟨rfl,hb2⟩)
     go_roundw
     case rel=>exact ⟨j+1,uh Hjl,by go_num,by rw [uh HM],by rw [uh HM];omega,B1.trans (hb2.mono B1.size)⟩
     case measure=>have:=uh Hjl;simp [intOf];omega
    ·have igt:¬ ((D:Int)<(F (s:Int):Int)):=by omega
     have HM:=hide (show deepK F (x.kids.take (j+1))=D by rw [uh HS];omega)
     go_wp2_with (go_at_call 69;refine (ih s wr (by omega) (by omega) (by omega) E0).mono ?_;rintro e w2 ⟨rfl,hb2⟩)
     go_roundw
     case rel=>exact ⟨j+1,uh Hjl,by go_num,by rw [uh HM],by rw [uh HM];omega,B1.trans (hb2.mono B1.size)⟩
     case measure=>have:=uh Hjl;simp [intOf];omega
   ·have e:j=nk:=by omega
    subst e
    have HT:=hide (show x.kids.take j=x.kids from List.take_of_length_le (by rw [uh HKL];exact nl))
    rw [uh HT] at hd ⊢
    generalize hD:deepK F x.kids=D at hd ⊢
    have HD:=hide hD
    clear hD
    go_wp2_with fail
    go_ret
    exact ⟨by rw [uh HD,Int.natCast_add];rfl,B1⟩

end Go.Proofs.YtedlocniojlhfaaGreatDoor

namespace Go.Proofs.YtedlocniojlhfaaGreatDoor
open Go.RowKit
set_option linter.unusedVariables false

def stAtS (L:List St) (j:Nat) (h:j<L.length):Bool:=stmtS (decide (j+1=L.length)) L[j]

theorem stmtsS_iff:∀ (L:List St),stmtsS L=true↔∀ j,(h:j<L.length)→stAtS L j h=true
 | []=>by simp [stmtsS]
 | s::r=>by
  rw [stmtsS,Bool.and_eq_true,stmtsS_iff r]
  have e:r.isEmpty=decide (0+1=(s::r).length):=by cases r <;> simp
  constructor
  ·rintro ⟨h1,h2⟩ j hj
   cases j with
   | zero=>rw [e] at h1;exact h1
   | succ j =>
    have:=h2 j (by simpa using hj)
    rw [stAtS] at this ⊢
    simp only [List.getElem_cons_succ,List.length_cons] at this ⊢
    rw [show decide (j+1+1=r.length+1)=decide (j+1=r.length) by rw [decide_eq_decide];omega]
    exact this
  ·intro h
   refine ⟨by rw [e];exact h 0 (by simp),fun j hj=>?_⟩
   have:=h (j+1) (by simpa using hj)
   rw [stAtS] at this ⊢
   simp only [List.getElem_cons_succ,List.length_cons] at this
   rw [show decide (j+1+1=r.length+1)=decide (j+1=r.length) by rw [decide_eq_decide];omega] at this
   exact this

theorem roots_succ (L:List St) (k:Nat) (h:k<L.length):(L.take (k+1)).flatMap rootsOf=(L.take k).flatMap rootsOf++rootsOf L[k]:=by
 rw [List.take_succ_eq_append_getElem h,List.flatMap_append]
 simp

def ordF (K:List (List Int)) (n:Nat) (rs:List Int):List Int:=rs.foldl (fun o r=>walkF K n r o) []

theorem ordF_append (K:List (List Int)) (n:Nat) (rs qs:List Int):ordF K n (rs++qs)=qs.foldl (fun o r=>walkF K n r o) (ordF K n rs):=by rw [ordF,List.foldl_append,ordF]

theorem Forest.kids {K:List (List Int)} {a b:Nat} {fs:List (Nat × Nat)} (h:Forest K a fs b):∀ j,a≤j→j<b→∃ ks,K[j]?=some (topsI ks)∧∀ p∈ks,p.1<j:=by
 induction h with
 | nil a=>intro j h1 h2;omega
 | cons hk ht hf i1 i2 =>
  rename_i a t b ks fs
  intro j h1 h2
  rcases Nat.lt_trichotomy j t with e | e | e
  ·exact i1 j h1 e
  ·subst e;exact ⟨ks,ht,fun p hp=>(hk.lt p hp).2⟩
  ·exact i2 j (by omega) h2

theorem kids_ahead {N:List Nd} {n:Nat} {rs:List Int} (hn:N.length=n) (hl:(ordF (N.map Nd.kids) n rs).length=n) (hg:good (ordF (N.map Nd.kids) n rs)) :
  (∀ t,(h:t<N.length)→∀ y∈N[t].kids,0≤y∧y<(t:Int))∧∀ r∈rs,0≤r∧r<(n:Int):=by
 obtain ⟨fs,e1,hf⟩:=roots_good (K:=N.map Nd.kids) (n:=n) rs [] hg
 have hf':Forest (N.map Nd.kids) 0 fs n:=by
  have:(rs.foldl (fun o k=>walkF (N.map Nd.kids) n k o) []).length=n:=hl
  rw [this] at hf
  exact hf
 constructor
 ·intro t h y hy
  obtain ⟨ks,h1,h2⟩:=hf'.kids t (Nat.zero_le _) (by omega)
  rw [List.getElem?_map,List.getElem?_eq_getElem h] at h1
  have h3:N[t].kids=topsI ks:=by simpa using h1
  rw [h3] at hy
  obtain ⟨p,hp,rfl⟩:=List.mem_map.1 hy
  have:=h2 p hp
  omega
 ·intro r hr
  rw [← e1] at hr
  obtain ⟨p,hp,rfl⟩:=List.mem_map.1 hr
  have:=hf'.lt p hp
  omega

end Go.Proofs.YtedlocniojlhfaaGreatDoor
