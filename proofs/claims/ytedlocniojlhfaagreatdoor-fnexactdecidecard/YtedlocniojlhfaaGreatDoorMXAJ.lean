/-
  ZT2, MKN, ZT3, ZV, DWO, DWS. Own work.
-/
import Derived.Test.YtedlocniojlhfaaGreatDoorMXAG
import Derived.Test.YtedlocniojlhfaaGreatDoorMXAI
import Derived.Test.YtedlocniojlhfaaGreatDoorMXAF
import Derived.Deep.Slices
import Derived.OpenShut
import Derived.WalkKit
import Derived.ProofKit
import Derived.RowKitTokens
import Derived.LaidMore
import Derived.Stop.Joined
import Derived.Stop.LaidErr
import Derived.WalkSmall
namespace Go.Proofs.YtedlocniojlhfaaGreatDoor
set_option maxHeartbeats 3200000
open Go.RowKit
set_option linter.unusedVariables false

theorem Ints.setFar2 {w:World} {a:Option Addr} {n c:Nat} {L:List Int} (h:Ints w a n c L) {q:Addr} (hq:∀ x,a=some x→x.block≠q.block) (u:Value):Ints (w.setCell q u) a n c L :=
 ⟨h.len,h.small,fun j hj=>by
  obtain ⟨b,off,hb,hl,c0⟩:=h.cells j hj
  refine ⟨b,off,hb,by simpa using hl,?_⟩
  rw [World.cell?_of_block (w:=w) (heap_setCell_other w q b u (hq _ hb))]
  exact c0⟩

def TdM (B:Nat) (w:World) (x1 x2 x3:Addr) (m p:Nat) (N:List Nd):Prop:=(∃ g,x1=⟨g,0,none⟩∧Hi w g N)∧Wd w x2 (m*4) 94∧Wd w x3 p 3∧B≤x1.block∧B≤x2.block∧B≤x3.block

theorem toTyped_any (a b f:Option Addr) (n c m d p g:Nat) (N:List Nd) (L:List St) (T:List Int) (w:World) (h1:NdsR w a n c N) (h2:StsR w b m d L) (h3:IntsR w f p g T) (hs:smallT n m p N L) :
  Calls Tryz.prog 7 #[.agg #[.slice a n c,.slice b m d,.slice f p g]] w fun e w'=>∃ x1 x2 x3,e=.returned (.agg #[.slice (some x1) n n,.slice (some x2) m m,.slice (some x3) p p])∧Nds w' (some x1) n n N∧Sts w' (some x2) m m L∧Ints w' (some x3) p p T∧Below w.heap.size w w'∧TdM w.heap.size w' x1 x2 x3 m p N:=by
 go_enter Tryz.func7,Tryz.ntmps7
 go_wp2_with fail
 have B0:=((((Below.refl w.heap.size w).alloc nl (.cells #[.slice a n c,.slice b m d,.slice f p g] 26)).alloc (by simp) (.cells #[.slice none 0 0,.slice none 0 0,.slice none 0 0] 38)).alloc (by simp;omega) (.cells #[.slice none 0 0,.slice none 0 0,.slice none 0 0] 38))
 have R0:=((Row.new w #[.slice a n c,.slice b m d,.slice f p g] 26).alloc (.cells #[.slice none 0 0,.slice none 0 0,.slice none 0 0] 38)).alloc (.cells #[.slice none 0 0,.slice none 0 0,.slice none 0 0] 38)
 have R1:=(Row.new (w.alloc (.cells #[.slice a n c,.slice b m d,.slice f p g] 26)) #[.slice none 0 0,.slice none 0 0,.slice none 0 0] 38).alloc (.cells #[.slice none 0 0,.slice none 0 0,.slice none 0 0] 38)
 have R2:=Row.new ((w.alloc (.cells #[.slice a n c,.slice b m d,.slice f p g] 26)).alloc (.cells #[.slice none 0 0,.slice none 0 0,.slice none 0 0] 38)) #[.slice none 0 0,.slice none 0 0,.slice none 0 0] 38
 simp only [World.size_alloc] at R1 R2
 refine (toNodeS_any _ _ _ _ _ (h1.below B0 nl) hs.1.1.1 hs.1.1.2).mono ?_
 rintro e w1 ⟨rfl,hb1,ho1⟩
 have B1:=B0.trans (hb1.mono (by simp;omega))
 have r0:=R0.after hb1 nl
 have r1:=R1.after hb1 nl
 have r2:=R2.after hb1 nl
 have z1:=hb1.size
 simp only [World.size_alloc] at z1 ho1 ⊢
 clear B0 R0 R1 R2 hb1
 generalize hg0:w.heap.size=g0 at r0 r1 r2 z1 ho1 B1 ⊢
 generalize hg1:g0+1=g1 at r1 r2 z1 ho1 ⊢
 generalize hg2:g1+1=g2 at r2 z1 ho1 ⊢
 generalize hg3:g2+1=g3 at z1 ho1 ⊢
 have O1:g0<g1∧g1<g2∧g2<g3∧g3≤w1.heap.size:=by omega
 have HG:=hide hg0
 clear hg1 hg2 hg3 hg0
 obtain ⟨k0,k1,k2⟩:=rowT3 r0
 obtain ⟨q0,q1,q2⟩:=rowT3 r2
 have qf:=fun j=>r2.frozen j
 try dsimp only
 go_wp2_with fail
 have B2:=B1.setCell (p:=⟨g2,0,none⟩) (by show g0≤g2;omega) (.slice (some ⟨g3,0,none⟩) n n)
 have C2:Below w.heap.size w (w1.setCell ⟨g2,0,none⟩ (.slice (some ⟨g3,0,none⟩) n n)):=by rw [uh HG];exact B2
 refine (toStmtS_any _ _ _ _ _ (h2.below C2 nl) hs.1.2.1 hs.1.2.2).mono ?_
 rintro e w2 ⟨rfl,hb2,ho2,hw2⟩
 have r0':=(r0.setFar (p:=⟨g2,0,none⟩) (by show g0≠g2;omega) (.slice (some ⟨g3,0,none⟩) n n)).after hb2 nl
 have r1':=(r1.setFar (p:=⟨g2,0,none⟩) (by show g1≠g2;omega) (.slice (some ⟨g3,0,none⟩) n n)).after hb2 nl
 have r2':=(r2.set 0 (.slice (some ⟨g3,0,none⟩) n n)).after hb2 nl
 have s1:=(ho1.setLow (p:=⟨g2,0,none⟩) (by show g2<g3;omega) (.slice (some ⟨g3,0,none⟩) n n)).below hb2 nl
 have B3:=B2.trans (hb2.mono (by simp;omega))
 have z2:=hb2.size
 simp only [World.size_setCell] at z2 ho2 hw2 ⊢
 clear r0 r1 r2 ho1 k0 k1 k2 q0 q1 q2 qf B1 B2 C2 hb2
 generalize hg4:w1.heap.size=g4 at O1 z2 ho2 hw2 ⊢
 clear hg4
 obtain ⟨k0,k1,k2⟩:=rowT3 r0'
 obtain ⟨q0,q1,q2⟩:=rowT3 r2'
 have qf:=fun j=>r2'.frozen j
 try dsimp only
 go_wp2_with fail
 have B4:=B3.setCell (p:=⟨g2,1,none⟩) (by show g0≤g2;omega) (.slice (some ⟨g4,0,none⟩) m m)
 have C4:Below w.heap.size w (w2.setCell ⟨g2,1,none⟩ (.slice (some ⟨g4,0,none⟩) m m)):=by rw [uh HG];exact B4
 refine (toIntS_any _ _ _ _ _ (h3.below C4 nl) hs.2).mono ?_
 rintro e w3 ⟨rfl,hb3,ho3⟩
 have r1'':=(r1'.setFar (p:=⟨g2,1,none⟩) (by show g1≠g2;omega) (.slice (some ⟨g4,0,none⟩) m m)).after hb3 nl
 have r2'':=(r2'.set 1 (.slice (some ⟨g4,0,none⟩) m m)).after hb3 nl
 have s2:=(s1.setLow (p:=⟨g2,1,none⟩) (by show g2<g3;omega) (.slice (some ⟨g4,0,none⟩) m m)).below hb3 nl
 have t2:=(Sts.setFar ho2 (p:=⟨g2,1,none⟩) (by show g2≠g4;omega) (.slice (some ⟨g4,0,none⟩) m m)).below hb3 nl
 have u2:=(hw2.setFar (p:=⟨g2,1,none⟩) (by show g2≠g4;omega) (.slice (some ⟨g4,0,none⟩) m m)).below hb3 nl
 have B5:=B4.trans (hb3.mono (by simp;omega))
 have z3:=hb3.size
 simp only [World.size_setCell] at z3 ho3 ⊢
 have I3:=ints_of_row ho3 hs.2
 have u3:=Wd.of_owns ho3
 clear r0' r1' r2' s1 ho2 hw2 ho3 k0 k1 k2 q0 q1 q2 qf B3 B4 C4 hb3
 generalize hg5:w2.heap.size=g5 at z2 z3 I3 u3 ⊢
 clear hg5
 have f1:=fun j=>r1''.frozen j
 have f2:=fun j=>r2''.frozen j
 obtain ⟨p0,p1,p2⟩:=rowT3 r1''
 obtain ⟨q0,q1,q2⟩:=rowT3 r2''
 try dsimp only
 go_wp2_with fail
 refine bodyPost_ret (v:=.agg #[.slice (some ⟨g3,0,none⟩) n n,.slice (some ⟨g4,0,none⟩) m m,.slice (some ⟨g5,0,none⟩) p p]) (by simp [results,Tryz.results7,go_sem,p0,p1,p2]) rfl ⟨_,_,_,rfl,?_,?_,?_,?_,?_,?_,?_,?_⟩
 ·refine Hi.nds ?_ h1.len hs.1.1.1 hs.1.1.2
  refine Hi.setLow (Hi.setLow (Hi.setLow (Hi.setLow s2 ?_ _) ?_ _) ?_ _) ?_ _
  all_goals (dsimp only;omega)
 ·refine Sts.setFar (Sts.setFar (Sts.setFar (Sts.setFar t2 ?_ _) ?_ _) ?_ _) ?_ _
  all_goals (dsimp only;omega)
 ·refine Ints.setFar2 (Ints.setFar2 (Ints.setFar2 (Ints.setFar2 I3 ?_ _) ?_ _) ?_ _) ?_ _
  all_goals (intro x hx;cases hx;dsimp only;omega)
 ·rw [uh HG]
  refine Below.setCell (Below.setCell (Below.setCell (Below.setCell B5 ?_ _) ?_ _) ?_ _) ?_ _
  all_goals (dsimp only;omega)
 ·refine ⟨g3,rfl,?_⟩
  refine Hi.setLow (Hi.setLow (Hi.setLow (Hi.setLow s2 ?_ _) ?_ _) ?_ _) ?_ _
  all_goals (dsimp only;omega)
 ·refine Wd.setFar (Wd.setFar (Wd.setFar (Wd.setFar u2 ?_ _) ?_ _) ?_ _) ?_ _
  all_goals (dsimp only;omega)
 ·refine Wd.setFar (Wd.setFar (Wd.setFar (Wd.setFar u3 ?_ _) ?_ _) ?_ _) ?_ _
  all_goals (dsimp only;omega)
 ·rw [uh HG]
  dsimp only
  omega

end Go.Proofs.YtedlocniojlhfaaGreatDoor

namespace Go.Proofs.YtedlocniojlhfaaGreatDoor
set_option maxRecDepth 100000
set_option maxHeartbeats 6400000
open Go.RowKit
set_option linter.unusedVariables false

theorem Touch.mono2 {lo hi lo' hi':Nat} {w w':World} (t:Touch lo hi w w') (h1:lo'≤lo) (h2:hi≤hi'):Touch lo' hi' w w' :=
 ⟨t.os,t.tape,t.output,t.size,fun k hk hd=>t.block k hk (by omega)⟩

theorem Wd.one {w w':World} {q n m:Nat} {x:Addr} {t s:TypeId} (h:Wd w x n t) (T:Touch q (q+1) w w') (k:Wd w ⟨q,0,none⟩ m s) (k':Wd w' ⟨q,0,none⟩ m s):Wd w' x n t:=by
 obtain ⟨p,cs,rfl,r,z⟩:=h
 by_cases e:p=q
 ·subst e
  obtain ⟨_,ds,e1,r1,z1⟩:=k
  cases e1
  have e2:=r.out.symm.trans r1.out
  simp only [Option.some.injEq,Obj.cells.injEq] at e2
  obtain ⟨rfl,rfl,_⟩:=e2
  rw [← z,z1]
  exact k'
 ·exact ⟨p,cs,rfl,⟨(T.block p r.lt (by omega)).trans r.out⟩,z⟩

theorem markIntS_z (q n c k:Nat) (w:World) (h:Wd w ⟨q,0,none⟩ n 3) (hk:k+n≤35184372088832) :
  Calls Tryz.prog 40 #[.slice (some ⟨q,0,none⟩) n c,.int .i64 k] w fun e w'=>e=.returned (.int .i64 ((k:Int)+n))∧Wd w' ⟨q,0,none⟩ n 3∧Touch q (q+1) w w':=by
 obtain ⟨_,cs0,e0,R0,z0⟩:=h
 cases e0
 go_enter Tryz.func40,Tryz.ntmps40
 go_wp2
 go_loopw [1,5] (fun v i wr=>∃ (j:Nat) (cs:Array Value),j≤n∧i=.int .i64 j∧v=.int .i64 ((k:Int)+j)∧Row wr q cs 3∧cs.size=n∧Touch q (q+1) w wr) (fun _ i _=>n - (intOf i).toNat)
 case atStart=>exact ⟨0,cs0,Nat.zero_le _,rfl,by go_num,R0,z0,Touch.refl _ _ _⟩
 case round =>
  obtain ⟨j,cs,hj,rfl,rfl,R,z,T⟩:=hrel
  clear R0
  by_cases hlt:j<n
  ·obtain ⟨u,hu⟩:=some_at (cs:=cs) (p:=j) (by omega)
   have hc:=(R.cell j).trans hu
   have hf:=fun i=>R.frozen i
   have ilt:(j:Int)<(n:Int):=by omega
   have HR:=hide R
   have Hlt:=hide hlt
   have Hz:=hide z
   clear R hu z hlt
   go_wp2_with fail
   go_roundw
   case rel=>exact ⟨j+1,_,uh Hlt,by go_num,by go_num,(uh HR).set j _,by simpa using uh Hz,T.trans (Touch.setCell _ _ _ nl (Nat.lt_succ_self _))⟩
   case measure=>have:=uh Hlt;simp [intOf];omega
  ·have e:j=n:=by omega
   subst e
   go_wp2
   go_ret
   exact ⟨rfl,⟨q,cs,rfl,R,z⟩,T⟩

theorem markStringS_z (q n c k:Nat) (w:World) (h:Wd w ⟨q,0,none⟩ n 9) (hk:k+n≤35184372088832) :
  Calls Tryz.prog 41 #[.slice (some ⟨q,0,none⟩) n c,.int .i64 k] w fun e w'=>e=.returned (.int .i64 ((k:Int)+n))∧Wd w' ⟨q,0,none⟩ n 9∧Touch q (q+1) w w':=by
 obtain ⟨_,cs0,e0,R0,z0⟩:=h
 cases e0
 go_enter Tryz.func41,Tryz.ntmps41
 go_wp2
 go_loopw [1,5] (fun v i wr=>∃ (j:Nat) (cs:Array Value),j≤n∧i=.int .i64 j∧v=.int .i64 ((k:Int)+j)∧Row wr q cs 9∧cs.size=n∧Touch q (q+1) w wr) (fun _ i _=>n - (intOf i).toNat)
 case atStart=>exact ⟨0,cs0,Nat.zero_le _,rfl,by go_num,R0,z0,Touch.refl _ _ _⟩
 case round =>
  obtain ⟨j,cs,hj,rfl,rfl,R,z,T⟩:=hrel
  clear R0
  by_cases hlt:j<n
  ·obtain ⟨u,hu⟩:=some_at (cs:=cs) (p:=j) (by omega)
   have ilt:(j:Int)<(n:Int):=by omega
   go_wp2_with fail
   refine (markText_int _ wr (by omega) (by omega)).mono ?_
   rintro e w1 ⟨rfl,hb1⟩
   have R1:=R.after hb1 nl
   have T1:=T.trans (Touch.of_below (lo:=q) (hi:=q+1) hb1 nl)
   have hc:=(R1.cell j).trans hu
   have hf:=fun i=>R1.frozen i
   have HR:=hide R1
   have Hlt:=hide hlt
   have Hz:=hide z
   generalize markS ((k:Int)+(j:Int)).toNat=mt
   clear R R1 hu z hlt T hb1
   go_wp2_with fail
   go_roundw
   case rel=>exact ⟨j+1,_,uh Hlt,by go_num,by go_num,(uh HR).set j _,by simpa using uh Hz,T1.trans (Touch.setCell _ _ _ nl (Nat.lt_succ_self _))⟩
   case measure=>have:=uh Hlt;simp [intOf];omega
  ·have e:j=n:=by omega
   subst e
   go_wp2
   go_ret
   exact ⟨rfl,⟨q,cs,rfl,R,z⟩,T⟩

theorem markIntS_zi (q n c:Nat) (x:Int) (w:World) (h:Wd w ⟨q,0,none⟩ n 3) (h0:0≤x) (hk:x+n≤35184372088832) :
  Calls Tryz.prog 40 #[.slice (some ⟨q,0,none⟩) n c,.int .i64 x] w fun e w'=>e=.returned (.int .i64 (x+n))∧Wd w' ⟨q,0,none⟩ n 3∧Touch q (q+1) w w':=by
 obtain ⟨k,rfl⟩:=Int.eq_ofNat_of_zero_le h0
 exact markIntS_z q n c k w h (by omega)

theorem markStringS_zi (q n c:Nat) (x:Int) (w:World) (h:Wd w ⟨q,0,none⟩ n 9) (h0:0≤x) (hk:x+n≤35184372088832) :
  Calls Tryz.prog 41 #[.slice (some ⟨q,0,none⟩) n c,.int .i64 x] w fun e w'=>e=.returned (.int .i64 (x+n))∧Wd w' ⟨q,0,none⟩ n 9∧Touch q (q+1) w w':=by
 obtain ⟨k,rfl⟩:=Int.eq_ofNat_of_zero_le h0
 exact markStringS_z q n c k w h (by omega)

def KeepW (w w':World):Prop:=∀ x n t,Wd w x n t→Wd w' x n t

theorem KeepW.refl (w:World):KeepW w w:=fun _ _ _ h=>h
theorem KeepW.trans {a b c:World} (h:KeepW a b) (k:KeepW b c):KeepW a c:=fun x n t hw=>k x n t (h x n t hw)
theorem KeepW.below {w w':World} (hb:Below w.heap.size w w'):KeepW w w':=fun x n t hw=>hw.below hb nl
theorem KeepW.one {w w':World} {q m:Nat} {s:TypeId} (T:Touch q (q+1) w w') (k:Wd w ⟨q,0,none⟩ m s) (k':Wd w' ⟨q,0,none⟩ m s):KeepW w w':=fun x n t hw=>hw.one T k k'
theorem KeepW.set (w:World) (g i:Nat) (u:Value):KeepW w (w.setCell ⟨g,i,none⟩ u):=fun x n t hw=>by
 obtain ⟨q,cs,rfl,r,z⟩:=hw
 by_cases e:q=g
 ·subst e
  exact ⟨q,_,rfl,r.set i u,by simpa using z⟩
 ·exact ⟨q,cs,rfl,r.setFar e u,z⟩

def NdZ (w:World) (lo hi n:Nat) (cs:Array Value):Prop:=∀ i,i<n→∃ q1 nn q2 nk,cs[i*5+3]?=some (.slice (some ⟨q1,0,none⟩) nn nn)∧cs[i*5+4]?=some (.slice (some ⟨q2,0,none⟩) nk nk)∧Wd w ⟨q1,0,none⟩ nn 9∧Wd w ⟨q2,0,none⟩ nk 3∧nn≤1048576∧nk≤1048576∧(lo≤q1∧q1<hi)∧lo≤q2∧q2<hi

theorem NdZ.one {w w':World} {lo hi n q m:Nat} {cs:Array Value} {s:TypeId} (h:NdZ w lo hi n cs) (T:Touch q (q+1) w w') (k:Wd w ⟨q,0,none⟩ m s) (k':Wd w' ⟨q,0,none⟩ m s):NdZ w' lo hi n cs:=fun i hi'=>by
 obtain ⟨q1,nn,q2,nk,c3,c4,w1,w2,l1,l2,b1,b2⟩:=h i hi'
 exact ⟨q1,nn,q2,nk,c3,c4,w1.one T k k',w2.one T k k',l1,l2,b1,b2⟩

theorem NdZ.below {w w':World} {lo hi n:Nat} {cs:Array Value} (h:NdZ w lo hi n cs) (hb:Below w.heap.size w w'):NdZ w' lo hi n cs:=fun i hi'=>by
 obtain ⟨q1,nn,q2,nk,c3,c4,w1,w2,l1,l2,b1,b2⟩:=h i hi'
 exact ⟨q1,nn,q2,nk,c3,c4,w1.below hb nl,w2.below hb nl,l1,l2,b1,b2⟩

theorem NdZ.set {w:World} {lo hi n g:Nat} {cs:Array Value} (h:NdZ w lo hi n cs) (R:Row w g cs 98) (j r:Nat) (hr:r<3) (u:Value):NdZ (w.setCell ⟨g,j*5+r,none⟩ u) lo hi n (cs.setIfInBounds (j*5+r) u):=fun i hi'=>by
 obtain ⟨q1,nn,q2,nk,c3,c4,w1,w2,l1,l2,b1,b2⟩:=h i hi'
 have far:∀ {q m:Nat} {t:TypeId},Wd w ⟨q,0,none⟩ m t→t≠98→g≠q:=fun {q m t} hw ht e=>by
  obtain ⟨_,ds,e1,r1,_⟩:=hw
  cases e1
  subst e
  have e2:=r1.out.symm.trans R.out
  simp only [Option.some.injEq,Obj.cells.injEq] at e2
  exact ht e2.2.1
 exact ⟨q1,nn,q2,nk,by rw [Array.getElem?_setIfInBounds_ne (by omega)];exact c3,by rw [Array.getElem?_setIfInBounds_ne (by omega)];exact c4,w1.setFar (far w1 (by decide)) u,w2.setFar (far w2 (by decide)) u,l1,l2,b1,b2⟩

theorem Row.one {w w':World} {q m g:Nat} {cs:Array Value} {t s:TypeId} (h:Row w g cs t) (T:Touch q (q+1) w w') (k:Wd w ⟨q,0,none⟩ m s) (hts:t≠s):Row w' g cs t:=by
 by_cases e:g=q
 ·obtain ⟨_,ds,e1,r1,_⟩:=k
  cases e1
  subst e
  have e2:=h.out.symm.trans r1.out
  simp only [Option.some.injEq,Obj.cells.injEq] at e2
  exact absurd e2.2.1 hts
 ·exact ⟨(T.block g h.lt (by omega)).trans h.out⟩

theorem markNodeS_z (lo hi g n c k:Nat) (cs0:Array Value) (w:World) (R0:Row w g cs0 98) (z0:cs0.size=n*5) (h0:NdZ w lo hi n cs0) (hg:lo≤g∧g<hi) (hn:n≤1048576) (hk:k≤1048576) :
  Calls Tryz.prog 38 #[.slice (some ⟨g,0,none⟩) n c,.int .i64 k] w fun e w'=>(∃ y:Nat,e=.returned (.int .i64 y)∧y≤k+n*2097155)∧Touch lo hi w w'∧KeepW w w':=by
 go_enter Tryz.func38,Tryz.ntmps38
 go_wp2
 go_loopw [1,5] (fun v i wr=>∃ (j y:Nat) (cs:Array Value),j≤n∧i=.int .i64 j∧v=.int .i64 y∧y≤k+j*2097155∧Row wr g cs 98∧cs.size=n*5∧NdZ wr lo hi n cs∧Touch lo hi w wr∧KeepW w wr) (fun _ i _=>n - (intOf i).toNat)
 case atStart=>exact ⟨0,k,cs0,Nat.zero_le _,rfl,rfl,by omega,R0,z0,h0,Touch.refl _ _ _,KeepW.refl _⟩
 case round =>
  obtain ⟨j,y,cs,hj,rfl,rfl,hy,R,z,Z,T,K⟩:=hrel
  clear R0
  by_cases hlt:j<n
  ·have ilt:(j:Int)<(n:Int):=by omega
   have y62:y≤4398046511104:=by omega
   obtain ⟨u0,e0⟩:=some_at (cs:=cs) (p:=j*5) (by omega)
   obtain ⟨u1,e1⟩:=some_at (cs:=cs) (p:=j*5+1) (by omega)
   obtain ⟨u2,e2⟩:=some_at (cs:=cs) (p:=j*5+2) (by omega)
   obtain ⟨q1,nn,q2,nk,c3,c4,w1,w2,l1,l2,b1,b2⟩:=Z j hlt
   have d0:=(R.cell _).trans e0
   have d1:=(R.cell _).trans e1
   have f0:=fun i=>R.frozen i
   have Hy:=hide hy
   have Hw:=hide (And.intro w1 w2)
   have Hlt:=hide hlt
   have Hg:=hide hg
   have R2:=(R.set (j*5) (.int .i64 y)).set (j*5+1) (.int .i64 ((y:Int)+1))
   have Z2:=(Z.set R j 0 (by decide) (.int .i64 y)).set (R.set (j*5) (.int .i64 y)) j 1 (by decide) (.int .i64 ((y:Int)+1))
   have T2:=(T.trans (Touch.setCell wr ⟨g,j*5,none⟩ (.int .i64 y) hg.1 hg.2)).trans (Touch.setCell _ ⟨g,j*5+1,none⟩ (.int .i64 ((y:Int)+1)) hg.1 hg.2)
   have g2:((cs.setIfInBounds (j*5) (.int .i64 y)).setIfInBounds (j*5+1) (.int .i64 ((y:Int)+1)))[j*5+2]?=some u2:=by rw [Array.getElem?_setIfInBounds_ne (by omega),Array.getElem?_setIfInBounds_ne (by omega)];exact e2
   have g3:((cs.setIfInBounds (j*5) (.int .i64 y)).setIfInBounds (j*5+1) (.int .i64 ((y:Int)+1)))[j*5+3]?=some (.slice (some ⟨q1,0,none⟩) nn nn):=by rw [Array.getElem?_setIfInBounds_ne (by omega),Array.getElem?_setIfInBounds_ne (by omega)];exact c3
   have g4:((cs.setIfInBounds (j*5) (.int .i64 y)).setIfInBounds (j*5+1) (.int .i64 ((y:Int)+1)))[j*5+4]?=some (.slice (some ⟨q2,0,none⟩) nk nk):=by rw [Array.getElem?_setIfInBounds_ne (by omega),Array.getElem?_setIfInBounds_ne (by omega)];exact c4
   have z2:((cs.setIfInBounds (j*5) (.int .i64 y)).setIfInBounds (j*5+1) (.int .i64 ((y:Int)+1))).size=n*5:=by simpa using z
   generalize ((cs.setIfInBounds (j*5) (.int .i64 y)).setIfInBounds (j*5+1) (.int .i64 ((y:Int)+1)))=ds at R2 Z2 g2 g3 g4 z2
   have HR:=hide R2
   have HZ:=hide Z2
   have HT:=hide T2
   have HK:=hide ((K.trans (KeepW.set wr g (j*5) (.int .i64 y))).trans (KeepW.set _ g (j*5+1) (.int .i64 ((y:Int)+1))))
   have Hc:=hide (And.intro g2 (And.intro g3 g4))
   have Hz:=hide z2
   clear R Z T K hy e0 e1 e2 c3 c4 z w1 w2 hlt hg R2 Z2 T2 g2 g3 g4 z2
   go_wp2_with fail
   refine (markText_int _ _ (by omega) (by omega)).mono ?_
   rintro e w1 ⟨rfl,hb1⟩
   generalize markS ((y:Int)+1+1).toNat=mt
   have R3:=(uh HR).after hb1 nl
   have Z3:=(uh HZ).below hb1
   have T3:=(uh HT).trans (Touch.of_below (lo:=lo) (hi:=hi) hb1 nl)
   have R4:=R3.set (j*5+2) (.string mt)
   have HK4:=hide (((uh HK).trans (KeepW.below hb1)).trans (KeepW.set w1 g (j*5+2) (.string mt)))
   have Z4:=Z3.set R3 j 2 (by decide) (.string mt)
   have T4:=T3.trans (Touch.setCell w1 ⟨g,j*5+2,none⟩ (.string mt) (uh Hg).1 (uh Hg).2)
   have k2:=(R3.cell _).trans (uh Hc).1
   have f3:=fun i=>R3.frozen i
   have k3:(ds.setIfInBounds (j*5+2) (.string mt))[j*5+3]?=some (.slice (some ⟨q1,0,none⟩) nn nn):=by rw [Array.getElem?_setIfInBounds_ne (by omega)];exact (uh Hc).2.1
   have k4:(ds.setIfInBounds (j*5+2) (.string mt))[j*5+4]?=some (.slice (some ⟨q2,0,none⟩) nk nk):=by rw [Array.getElem?_setIfInBounds_ne (by omega)];exact (uh Hc).2.2
   have z4:(ds.setIfInBounds (j*5+2) (.string mt)).size=n*5:=by simpa using uh Hz
   generalize ds.setIfInBounds (j*5+2) (.string mt)=es at R4 Z4 k3 k4 z4
   have c3:=(R4.cell _).trans k3
   obtain ⟨q1',nn',q2',nk',j3,j4,w3,w4,_⟩:=Z4 j (uh Hlt)
   rw [k3] at j3
   rw [k4] at j4
   cases j3
   cases j4
   have HR4:=hide R4
   have HZ4:=hide Z4
   have HT4:=hide T4
   have Hk4:=hide k4
   have Hz4:=hide z4
   have HW3:=hide w3
   have HW4:=hide w4
   clear R3 Z3 T3 R4 Z4 T4 k3 k4 z4 w3 w4 hb1 HR HZ HT HK Hc Hz d0 d1 f0 Hw
   dsimp only
   go_wp2_with fail
   refine (markStringS_zi q1 nn nn _ _ (uh HW3) (by omega) (by omega)).mono ?_
   rintro e w5 ⟨rfl,W5,T5⟩
   have R5:=(uh HR4).one T5 (uh HW3) (by decide)
   have Z5:=(uh HZ4).one T5 (uh HW3) W5
   have V5:=(uh HW4).one T5 (uh HW3) W5
   have HK5:=hide ((uh HK4).trans (KeepW.one T5 (uh HW3) W5))
   have U5:=(uh HT4).trans (T5.mono2 b1.1 b1.2)
   have c4:=(R5.cell _).trans (uh Hk4)
   have HR5:=hide R5
   have HZ5:=hide Z5
   have HV5:=hide V5
   have HU5:=hide U5
   clear R5 Z5 V5 U5 T5 W5 HR4 HZ4 HT4 HK4 HW3 HW4 c3 f3 k2
   dsimp only
   go_wp2_with fail
   refine (markIntS_zi q2 nk nk _ _ (uh HV5) (by omega) (by omega)).mono ?_
   rintro e w6 ⟨rfl,W6,T6⟩
   have R6:=(uh HR5).one T6 (uh HV5) (by decide)
   have Z6:=(uh HZ5).one T6 (uh HV5) W6
   have K6:=(uh HK5).trans (KeepW.one T6 (uh HV5) W6)
   have U6:=(uh HU5).trans (T6.mono2 b2.1 b2.2)
   have HY:=hide (show y+3+nn+nk≤k+(j+1)*2097155 by have:=uh Hy;omega)
   clear T6 W6 HR5 HZ5 HV5 HU5 HK5 c4
   dsimp only
   go_wp2_with fail
   go_roundw
   case rel=>exact ⟨j+1,y+3+nn+nk,es,uh Hlt,by go_num,by go_num,uh HY,R6,uh Hz4,Z6,U6,K6⟩
   case measure=>have:=uh Hlt;simp [intOf];omega
  ·have e:j=n:=by omega
   subst e
   go_wp2
   go_ret
   exact ⟨⟨y,rfl,hy⟩,T,K⟩

theorem markStmtS_z (g n c:Nat) (x:Int) (w:World) (h:Wd w ⟨g,0,none⟩ (n*4) 94) (hn:n≤1048576) (hx0:0≤x) (hx:x≤4398046511104) :
  Calls Tryz.prog 39 #[.slice (some ⟨g,0,none⟩) n c,.int .i64 x] w fun e w'=>e=.returned (.int .i64 (x+4*n))∧Touch g (g+1) w w'∧KeepW w w':=by
 obtain ⟨_,cs0,e0,R0,z0⟩:=h
 cases e0
 go_enter Tryz.func39,Tryz.ntmps39
 go_wp2
 go_loopw [1,5] (fun v i wr=>∃ (j:Nat) (cs:Array Value),j≤n∧i=.int .i64 j∧v=.int .i64 (x+4*j)∧Row wr g cs 94∧cs.size=n*4∧Touch g (g+1) w wr∧KeepW w wr) (fun _ i _=>n - (intOf i).toNat)
 case atStart=>exact ⟨0,cs0,Nat.zero_le _,rfl,by go_num,R0,z0,Touch.refl _ _ _,KeepW.refl _⟩
 case round =>
  obtain ⟨j,cs,hj,rfl,rfl,R,z,T,K⟩:=hrel
  clear R0
  by_cases hlt:j<n
  ·have ilt:(j:Int)<(n:Int):=by omega
   obtain ⟨u0,e0⟩:=some_at (cs:=cs) (p:=j*4) (by omega)
   obtain ⟨u1,e1⟩:=some_at (cs:=cs) (p:=j*4+1) (by omega)
   obtain ⟨u2,e2⟩:=some_at (cs:=cs) (p:=j*4+2) (by omega)
   obtain ⟨u3,e3⟩:=some_at (cs:=cs) (p:=j*4+3) (by omega)
   have d0:=(R.cell _).trans e0
   have f0:=fun i=>R.frozen i
   generalize hyx:x+4*(j:Int)=y
   have y0:0≤y:=by omega
   have y1:y≤4398050705408:=by omega
   have HE:=hide (show y+1+1+1+1=x+4*((j+1:Nat):Int) by omega)
   have R2:=R.set (j*4) (.int .i64 y)
   have T2:=T.trans (Touch.setCell wr ⟨g,j*4,none⟩ (.int .i64 y) nl (Nat.lt_succ_self _))
   have K2:=K.trans (KeepW.set wr g (j*4) (.int .i64 y))
   have g1:(cs.setIfInBounds (j*4) (.int .i64 y))[j*4+1]?=some u1:=by rw [Array.getElem?_setIfInBounds_ne (by omega)];exact e1
   have g2:(cs.setIfInBounds (j*4) (.int .i64 y))[j*4+2]?=some u2:=by rw [Array.getElem?_setIfInBounds_ne (by omega)];exact e2
   have g3:(cs.setIfInBounds (j*4) (.int .i64 y))[j*4+3]?=some u3:=by rw [Array.getElem?_setIfInBounds_ne (by omega)];exact e3
   have z2:(cs.setIfInBounds (j*4) (.int .i64 y)).size=n*4:=by simpa using z
   generalize cs.setIfInBounds (j*4) (.int .i64 y)=ds at R2 g1 g2 g3 z2
   have HR:=hide R2
   have HT:=hide T2
   have HK:=hide K2
   have Hc:=hide (And.intro g1 (And.intro g2 g3))
   have Hz:=hide z2
   have Hlt:=hide hlt
   clear hyx R T K e0 e1 e2 e3 z hlt R2 T2 K2 g1 g2 g3 z2
   go_wp2_with fail
   refine (markText_int _ _ (by omega) (by omega)).mono ?_
   rintro e w1 ⟨rfl,hb1⟩
   generalize markS (y+1).toNat=mt
   have R3:=(uh HR).after hb1 nl
   have T3:=(uh HT).trans (Touch.of_below (lo:=g) (hi:=g+1) hb1 nl)
   have K3:=(uh HK).trans (KeepW.below hb1)
   have d1:=(R3.cell _).trans (uh Hc).1
   have d2:=(R3.cell _).trans (uh Hc).2.1
   have d3:=(R3.cell _).trans (uh Hc).2.2
   have f3:=fun i=>R3.frozen i
   have HR4:=hide (((R3.set (j*4+1) (.string mt)).set (j*4+2) (.int .i64 (y+1+1))).set (j*4+3) (.int .i64 (y+1+1+1)))
   have HT4:=hide (((T3.trans (Touch.setCell _ ⟨g,j*4+1,none⟩ (.string mt) nl (Nat.lt_succ_self _))).trans (Touch.setCell _ ⟨g,j*4+2,none⟩ (.int .i64 (y+1+1)) nl (Nat.lt_succ_self _))).trans (Touch.setCell _ ⟨g,j*4+3,none⟩ (.int .i64 (y+1+1+1)) nl (Nat.lt_succ_self _)))
   have HK4:=hide (((K3.trans (KeepW.set _ g (j*4+1) (.string mt))).trans (KeepW.set _ g (j*4+2) (.int .i64 (y+1+1)))).trans (KeepW.set _ g (j*4+3) (.int .i64 (y+1+1+1))))
   clear R3 T3 K3 hb1 HR HT HK Hc d0 f0
   dsimp only
   go_wp2_with fail
   go_roundw
   case rel=>exact ⟨j+1,_,uh Hlt,by go_num,by rw [uh HE],uh HR4,by simpa using uh Hz,uh HT4,uh HK4⟩
   case measure=>have:=uh Hlt;simp [intOf];omega
  ·have e:j=n:=by omega
   subst e
   go_wp2
   go_ret
   exact ⟨rfl,T,K⟩

end Go.Proofs.YtedlocniojlhfaaGreatDoor

namespace Go.Proofs.YtedlocniojlhfaaGreatDoor
set_option maxHeartbeats 1600000
open Go.RowKit
set_option linter.unusedVariables false

theorem eqTyped_same (a a' b b' f f':Option Addr) (n c c' m d d' p g g':Nat) (N:List Nd) (L:List St) (T:List Int) (w:World) (h1:Nds w a n c N) (h1':Nds w a' n c' N) (h2:Sts w b m d L) (h2':Sts w b' m d' L) (h3:Ints w f p g T) (h3':Ints w f' p g' T) :
  Calls Tryz.prog 11 #[.agg #[.slice a n c,.slice b m d,.slice f p g],.agg #[.slice a' n c',.slice b' m d',.slice f' p g']] w fun e w'=>e=.returned (.bool true)∧Below w.heap.size w w':=by
 have B0:=((Below.refl w.heap.size w).alloc nl (.cells #[.slice a n c,.slice b m d,.slice f p g] 38)).alloc (by simp) (.cells #[.slice a' n c',.slice b' m d',.slice f' p g'] 38)
 have R0:=(Row.new w #[.slice a n c,.slice b m d,.slice f p g] 38).alloc (.cells #[.slice a' n c',.slice b' m d',.slice f' p g'] 38)
 have R1:=Row.new (w.alloc (.cells #[.slice a n c,.slice b m d,.slice f p g] 38)) #[.slice a' n c',.slice b' m d',.slice f' p g'] 38
 simp only [World.size_alloc] at R1
 go_enter Tryz.func11,Tryz.ntmps11
 go_wp2_with fail
 refine (eqNodeS_same _ _ _ _ _ _ _ (h1.below B0 nl) (h1'.below B0 nl)).mono ?_
 rintro e w1 ⟨rfl,hb1⟩
 have B1:=B0.trans (hb1.mono (by simp;omega))
 have A1:=R0.after hb1 nl
 have A2:=R1.after hb1 nl
 obtain ⟨q0,q1,q2⟩:=rowT3 A1
 obtain ⟨s0,s1,s2⟩:=rowT3 A2
 have z1:=hb1.size
 simp at z1
 clear R0 R1 B0 hb1
 try dsimp only
 go_wp2_with fail
 refine (eqStmtS_same _ _ _ _ _ _ _ (h2.below B1 nl) (h2'.below B1 nl)).mono ?_
 rintro e w2 ⟨rfl,hb2⟩
 have B2:=B1.trans (hb2.mono (by omega))
 obtain ⟨t0,t1,t2⟩:=rowT3 (A1.after hb2 nl)
 obtain ⟨u0,u1,u2⟩:=rowT3 (A2.after hb2 nl)
 try dsimp only
 go_wp2_with fail
 refine (eqIntS_same _ _ _ _ _ _ _ (h3.below B2 nl) (h3'.below B2 nl)).mono ?_
 rintro e w3 ⟨rfl,hb3⟩
 go_wp2_with fail
 go_ret
 exact ⟨rfl,B2.trans (hb3.mono (by have:=hb2.size;omega))⟩

end Go.Proofs.YtedlocniojlhfaaGreatDoor

namespace Go.Proofs.YtedlocniojlhfaaGreatDoor
set_option maxRecDepth 100000
open Go.ChangeShapes Go.WideShapes Go.RowKit Go.Deep
set_option linter.unusedVariables false

theorem cellsStr:Tryz.prog.cellsOf 9=1:=by kernel_rfl
theorem cellsI64:Tryz.prog.cellsOf 2=1:=by kernel_rfl
theorem cellsInt:Tryz.prog.cellsOf 3=1:=by kernel_rfl
theorem cellsSS:Tryz.prog.cellsOf 27=1:=by kernel_rfl
theorem cellsIS:Tryz.prog.cellsOf 24=1:=by kernel_rfl
theorem cellsNd:Tryz.prog.cellsOf 81=5:=by kernel_rfl
theorem cellsSt:Tryz.prog.cellsOf 84=4:=by kernel_rfl
theorem cellsNdS:Tryz.prog.cellsOf 22=1:=by kernel_rfl
theorem cellsStS:Tryz.prog.cellsOf 23=1:=by kernel_rfl
theorem cellsTyp:Tryz.prog.cellsOf 26=3:=by kernel_rfl

instance:Inhabited Nd:=⟨⟨0,0,⟨#[]⟩,[],[]⟩⟩
instance:Inhabited St:=⟨⟨0,⟨#[]⟩,0,0⟩⟩

section
variable {H:Type} {enc:TypeId × Value→H} {w:World} {held:Bool}

theorem add_lit' (b off j:Nat):(⟨b,off,none⟩:Addr).add j=⟨b,off+j,none⟩:=by
 by_cases e:j=0 <;> simp [Addr.add,e]

theorem slice_form {t e:TypeId} {fuel:Nat} {v:Value} {x:DataW H × List MemPlace} (ht:Tryz.prog.underlying t=some (.slice e)) (h:DataW.trod enc Tryz.prog w 0 (fun _=>true) held fuel t [v]=some x):∃ a l c,v=.slice a l c:=by
 rcases open_slice ht h with ⟨hcs,_⟩ | ⟨_,_,_,_,_,_,_,hcs,_⟩
 ·simp only [List.cons.injEq,and_true] at hcs;exact ⟨_,_,_,hcs⟩
 ·simp only [List.cons.injEq,and_true] at hcs;exact ⟨_,_,_,hcs⟩

theorem spot_of {a:Addr} {v:Value} (h:w.cell? (a.add 0)=some v):∃ b off,a=⟨b,off,none⟩:=by
 have hs:=World.cell?_spot h
 obtain ⟨b,off,spot⟩:=a
 simp [Addr.add] at hs
 subst hs
 exact ⟨b,off,rfl⟩

theorem IntsR.of_trod {fuel:Nat} {x:DataW H × List MemPlace} {a:Option Addr} {n c:Nat} (h:DataW.trod enc Tryz.prog w 0 (fun _=>true) held fuel 24 [.slice a n c]=some x):∃ L,IntsR w a n c L:=by
 rcases open_slice1 Tryz.underlying24 cellsInt h with ⟨hcs,_⟩ | ⟨ad,len,cap,m,k,V,D,Pl,hcs,_,hl,hm,hmm,_,hx⟩
 ·simp only [List.cons.injEq,Value.slice.injEq,and_true] at hcs
  obtain ⟨rfl,rfl,rfl⟩:=hcs
  exact ⟨[],rfl,nl,Nat.zero_le _,fun j hj=>absurd hj (by simp)⟩
 ·simp only [List.cons.injEq,Value.slice.injEq,and_true] at hcs
  obtain ⟨rfl,rfl,rfl⟩:=hcs
  simp only [if_true] at hmm
  obtain ⟨f,hf⟩:=choose_lt (α:=Int) (n:=n) (p:=fun i z=>w.cell? (ad.add i)=some (.int .i64 z)) (fun i hi=>by
   obtain ⟨h1,h2⟩:=hx i (by omega)
   obtain ⟨z,hz,_⟩:=DataW.trod_int Tryz.underlying3 h2
   simp only [List.cons.injEq,and_true] at hz
   exact ⟨z,by rw [h1,hz]⟩)
  refine ⟨(List.range n).map f,by simp,hl,hm,fun j hj=>?_⟩
  have hjn:j<n:=by simpa using hj
  obtain ⟨b,off,rfl⟩:=spot_of (hf 0 (by omega))
  have hc:=hf j hjn
  rw [add_lit'] at hc
  refine ⟨b,off,rfl,lt_of_cell hc,?_⟩
  rw [hc]
  simp

theorem NdAtR.of_trod {fuel b o:Nat} {cs:List Value} {x:DataW H × List MemPlace} (h:DataW.trod enc Tryz.prog w 0 (fun _=>true) held fuel 81 cs=some x) (hc:∀ i,i<5→w.cell? ⟨b,o+i,none⟩=cs[i]?):∃ y:Nd,NdAtR w b o y∧y.text.size≤maxLen∧(-9223372036854775808≤y.num∧y.num≤9223372036854775807):=by
 obtain ⟨xs,n,_,_,hcl,hlen,hx⟩:=DataW.trod_struct Tryz.underlying81 h
 rw [cellsNd] at hcl
 match cs,hcl with
 | [x0,x1,x2,x3,x4],_ =>
  have get:∀ i,i<5→∃ y,xs[i]?=some y:=fun i hi=>⟨xs[i]'(by simp at hlen;omega),List.getElem?_eq_getElem _⟩
  obtain ⟨y0,e0⟩:=get 0 (by omega)
  obtain ⟨y1,e1⟩:=get 1 (by omega)
  obtain ⟨y2,e2⟩:=get 2 (by omega)
  obtain ⟨y3,e3⟩:=get 3 (by omega)
  obtain ⟨y4,e4⟩:=get 4 (by omega)
  have f0:DataW.trod enc Tryz.prog w 0 (fun _=>true) held n 3 [x0]=some y0:=by
   have:=(hx 0 _ rfl).trans e0
   simpa [cellsInt] using this
  have f1:DataW.trod enc Tryz.prog w 0 (fun _=>true) held n 2 [x1]=some y1:=by
   have:=(hx 1 _ rfl).trans e1
   simpa [cellsI64] using this
  have f2:DataW.trod enc Tryz.prog w 0 (fun _=>true) held n 9 [x2]=some y2:=by
   have:=(hx 2 _ rfl).trans e2
   simpa [cellsStr] using this
  have f3:DataW.trod enc Tryz.prog w 0 (fun _=>true) held n 27 [x3]=some y3:=by
   have:=(hx 3 _ rfl).trans e3
   simpa [cellsSS] using this
  have f4:DataW.trod enc Tryz.prog w 0 (fun _=>true) held n 24 [x4]=some y4:=by
   have:=(hx 4 _ rfl).trans e4
   simpa [cellsIS] using this
  obtain ⟨op,k0,_,_⟩:=DataW.trod_int Tryz.underlying3 f0
  obtain ⟨num,k1,_,hwf⟩:=DataW.trod_int Tryz.underlying2 f1
  have hnum:-9223372036854775808≤num∧num≤9223372036854775807:=by
   simp only [Lit.wf,Bool.and_eq_true,decide_eq_true_eq] at hwf
   exact ⟨hwf.1,hwf.2⟩
  obtain ⟨text,k2,_,htx⟩:=DataW.trod_string Tryz.underlying9 f2
  simp only [List.cons.injEq,and_true] at k0 k1 k2
  subst k0 k1 k2
  obtain ⟨an,nn,cn,rfl⟩:=slice_form Tryz.underlying27 f3
  obtain ⟨ak,nk,ck,rfl⟩:=slice_form Tryz.underlying24 f4
  obtain ⟨names,hN⟩:=Strs.of_trod Tryz.underlying27 Tryz.underlying9 cellsStr f3
  obtain ⟨kids,hK⟩:=IntsR.of_trod f4
  exact ⟨⟨op,num,text,names,kids⟩,⟨an,nn,cn,ak,nk,ck,hc 0 (by omega),hc 1 (by omega),hc 2 (by omega),hc 3 (by omega),hc 4 (by omega),hN,hK⟩,htx,hnum⟩

theorem NdsR.of_trod {fuel:Nat} {x:DataW H × List MemPlace} {a:Option Addr} {n c:Nat} (h:DataW.trod enc Tryz.prog w 0 (fun _=>true) held fuel 22 [.slice a n c]=some x):∃ L,NdsR w a n c L∧∀ x∈L,-9223372036854775808≤x.num∧x.num≤9223372036854775807:=by
 rcases open_slice Tryz.underlying22 h with ⟨hcs,_⟩ | ⟨ad,len,cap,m,k,D,Pl,hcs,_,hl,hm,hmm,_,hx⟩
 ·simp only [List.cons.injEq,Value.slice.injEq,and_true] at hcs
  obtain ⟨rfl,rfl,rfl⟩:=hcs
  exact ⟨[],⟨rfl,nl,Nat.zero_le _,fun x hx=>(by cases hx),fun j hj=>absurd hj (by simp)⟩,fun x hx=>(by cases hx)⟩
 ·simp only [List.cons.injEq,Value.slice.injEq,and_true] at hcs
  obtain ⟨rfl,rfl,rfl⟩:=hcs
  simp only [if_true] at hmm
  rw [cellsNd] at hx
  obtain ⟨f,hf⟩:=choose_lt (α:=Nd) (n:=n) (p:=fun i y=>∃ b off,ad=⟨b,off,none⟩∧b<w.heap.size∧NdAtR w b (off+i*5) y∧y.text.size≤maxLen∧(-9223372036854775808≤y.num∧y.num≤9223372036854775807)) (fun i hi=>by
   obtain ⟨cs',h1,h2⟩:=hx i (by omega)
   obtain ⟨_,hlen,hc⟩:=World.cells?_some h1
   obtain ⟨v,hv⟩:∃ v,cs'[0]?=some v:=⟨cs'[0]'(by omega),List.getElem?_eq_getElem _⟩
   obtain ⟨cz,hz1,hz2⟩:=hx 0 (by omega)
   obtain ⟨_,hzl,hzc⟩:=World.cells?_some hz1
   obtain ⟨b,off,rfl⟩:=spot_of (v:=cz[0]'(by omega)) (by have:=(hzc 0 (by omega)).trans (List.getElem?_eq_getElem (by omega));simpa [Addr.add] using this)
   have hc0':=(hc 0 (by omega)).trans hv
   rw [add_lit'] at hc hc0'
   rw [add_lit'] at hc0'
   obtain ⟨y,hy,ht⟩:=NdAtR.of_trod (b:=b) (o:=off+i*5) h2 (fun j hj=>by rw [← hc j hj,add_lit'])
   exact ⟨y,b,off,rfl,lt_of_cell hc0',hy,ht⟩)
  refine ⟨(List.range n).map f,⟨by simp,hl,hm,fun x hx=>?_,fun j hj=>?_⟩,fun x hx=>?_⟩
  ·obtain ⟨i,hi,rfl⟩:=List.mem_map.1 hx
   obtain ⟨_,_,_,_,_,ht,_⟩:=hf i (by simpa using hi)
   exact ht
  ·have hjn:j<n:=by simpa using hj
   obtain ⟨b,off,rfl,hl',hy,_,_⟩:=hf j hjn
   exact ⟨b,off,rfl,hl',by simpa using hy⟩
  ·obtain ⟨i,hi,rfl⟩:=List.mem_map.1 hx
   obtain ⟨_,_,_,_,_,_,ht⟩:=hf i (by simpa using hi)
   exact ht

theorem StsR.of_trod {fuel:Nat} {x:DataW H × List MemPlace} {a:Option Addr} {n c:Nat} (h:DataW.trod enc Tryz.prog w 0 (fun _=>true) held fuel 23 [.slice a n c]=some x):∃ L,StsR w a n c L:=by
 rcases open_slice Tryz.underlying23 h with ⟨hcs,_⟩ | ⟨ad,len,cap,m,k,D,Pl,hcs,_,hl,hm,hmm,_,hx⟩
 ·simp only [List.cons.injEq,Value.slice.injEq,and_true] at hcs
  obtain ⟨rfl,rfl,rfl⟩:=hcs
  exact ⟨[],rfl,nl,Nat.zero_le _,fun x hx=>(by cases hx),fun j hj=>absurd hj (by simp)⟩
 ·simp only [List.cons.injEq,Value.slice.injEq,and_true] at hcs
  obtain ⟨rfl,rfl,rfl⟩:=hcs
  simp only [if_true] at hmm
  rw [cellsSt] at hx
  obtain ⟨f,hf⟩:=choose_lt (α:=St) (n:=n) (p:=fun i y=>∃ b off,ad=⟨b,off,none⟩∧b<w.heap.size∧(w.cell? ⟨b,off+i*4,none⟩=some (.int .i64 y.kind)∧w.cell? ⟨b,off+i*4+1,none⟩=some (.string y.name)∧w.cell? ⟨b,off+i*4+2,none⟩=some (.int .i64 y.cond)∧w.cell? ⟨b,off+i*4+3,none⟩=some (.int .i64 y.grant))∧y.name.size≤maxLen) (fun i hi=>by
   obtain ⟨cs',h1,h2⟩:=hx i (by omega)
   obtain ⟨_,hlen,hc⟩:=World.cells?_some h1
   obtain ⟨v,hv⟩:∃ v,cs'[0]?=some v:=⟨cs'[0]'(by omega),List.getElem?_eq_getElem _⟩
   obtain ⟨cz,hz1,hz2⟩:=hx 0 (by omega)
   obtain ⟨_,hzl,hzc⟩:=World.cells?_some hz1
   obtain ⟨b,off,rfl⟩:=spot_of (v:=cz[0]'(by omega)) (by have:=(hzc 0 (by omega)).trans (List.getElem?_eq_getElem (by omega));simpa [Addr.add] using this)
   have hc0':=(hc 0 (by omega)).trans hv
   rw [add_lit'] at hc hc0'
   rw [add_lit'] at hc0'
   have hc2:∀ j,j<4→w.cell? ⟨b,off+i*4+j,none⟩=cs'[j]?:=fun j hj=>by rw [← hc j hj,add_lit']
   obtain ⟨xs,n',_,_,hcl,hxl,hxx⟩:=DataW.trod_struct Tryz.underlying84 h2
   match cs',hlen with
   | [x0,x1,x2,x3],_ =>
    have get:∀ i,i<4→∃ y,xs[i]?=some y:=fun i hi=>⟨xs[i]'(by simp at hxl;omega),List.getElem?_eq_getElem _⟩
    obtain ⟨y0,e0⟩:=get 0 (by omega)
    obtain ⟨y1,e1⟩:=get 1 (by omega)
    obtain ⟨y2,e2⟩:=get 2 (by omega)
    obtain ⟨y3,e3⟩:=get 3 (by omega)
    have f0:DataW.trod enc Tryz.prog w 0 (fun _=>true) held n' 3 [x0]=some y0:=by
     have:=(hxx 0 _ rfl).trans e0
     simpa [cellsInt] using this
    have f1:DataW.trod enc Tryz.prog w 0 (fun _=>true) held n' 9 [x1]=some y1:=by
     have:=(hxx 1 _ rfl).trans e1
     simpa [cellsStr] using this
    have f2:DataW.trod enc Tryz.prog w 0 (fun _=>true) held n' 3 [x2]=some y2:=by
     have:=(hxx 2 _ rfl).trans e2
     simpa [cellsInt] using this
    have f3:DataW.trod enc Tryz.prog w 0 (fun _=>true) held n' 3 [x3]=some y3:=by
     have:=(hxx 3 _ rfl).trans e3
     simpa [cellsInt] using this
    obtain ⟨kind,k0,_,_⟩:=DataW.trod_int Tryz.underlying3 f0
    obtain ⟨name,k1,_,htx⟩:=DataW.trod_string Tryz.underlying9 f1
    obtain ⟨cond,k2,_,_⟩:=DataW.trod_int Tryz.underlying3 f2
    obtain ⟨grant,k3,_,_⟩:=DataW.trod_int Tryz.underlying3 f3
    simp only [List.cons.injEq,and_true] at k0 k1 k2 k3
    subst k0 k1 k2 k3
    exact ⟨⟨kind,name,cond,grant⟩,b,off,rfl,lt_of_cell hc0',⟨hc2 0 (by omega),hc2 1 (by omega),hc2 2 (by omega),hc2 3 (by omega)⟩,htx⟩)
  refine ⟨(List.range n).map f,by simp,hl,hm,fun x hx=>?_,fun j hj=>?_⟩
  ·obtain ⟨i,hi,rfl⟩:=List.mem_map.1 hx
   obtain ⟨_,_,_,_,_,ht⟩:=hf i (by simpa using hi)
   exact ht
  ·have hjn:j<n:=by simpa using hj
   obtain ⟨b,off,rfl,hl',hy,_⟩:=hf j hjn
   exact ⟨b,off,rfl,hl',by simpa using hy⟩

theorem open_typ {r:Reach} {b0:Nat} {v:Value} {d:DataW H} {p:List MemPlace}
  (hv:Value.okWide Tryz.prog w r b0 26 v) (h:DataW.Trod enc Tryz.prog w 0 (fun _=>true) held 26 v d p) :
  ∃ (a b e:Option Addr) (n c m d k f:Nat) (N:List Nd) (L:List St) (T:List Int),v=.agg #[.slice a n c,.slice b m d,.slice e k f]∧NdsR w a n c N∧StsR w b m d L∧IntsR w e k f T∧∀ x∈N,-9223372036854775808≤x.num∧x.num≤9223372036854775807:=by
 obtain ⟨cs,rfl,hsz⟩:=okWide_struct Tryz.underlying26 hv
 have hsz2:=hsz.trans cellsTyp
 obtain ⟨l⟩:=cs
 match l,hsz2 with
 | [x0,x1,x2],_ =>
  obtain ⟨fuel,hf⟩:=h
  obtain ⟨xs,n,_,_,_,hlen,hx⟩:=DataW.trod_struct Tryz.underlying26 hf
  have get:∀ i,i<3→∃ y,xs[i]?=some y:=fun i hi=>⟨xs[i]'(by simp at hlen;omega),List.getElem?_eq_getElem _⟩
  obtain ⟨y0,e0⟩:=get 0 (by omega)
  obtain ⟨y1,e1⟩:=get 1 (by omega)
  obtain ⟨y2,e2⟩:=get 2 (by omega)
  have f0:DataW.trod enc Tryz.prog w 0 (fun _=>true) held n 22 [x0]=some y0:=by
   have:=(hx 0 _ rfl).trans e0
   simpa [Value.cells,cellsNdS] using this
  have f1:DataW.trod enc Tryz.prog w 0 (fun _=>true) held n 23 [x1]=some y1:=by
   have:=(hx 1 _ rfl).trans e1
   simpa [Value.cells,cellsStS] using this
  have f2:DataW.trod enc Tryz.prog w 0 (fun _=>true) held n 24 [x2]=some y2:=by
   have:=(hx 2 _ rfl).trans e2
   simpa [Value.cells,cellsIS] using this
  obtain ⟨a1,n1,c1,rfl⟩:=slice_form Tryz.underlying22 f0
  obtain ⟨a2,n2,c2,rfl⟩:=slice_form Tryz.underlying23 f1
  obtain ⟨a3,n3,c3,rfl⟩:=slice_form Tryz.underlying24 f2
  obtain ⟨N,hN,hNum⟩:=NdsR.of_trod f0
  obtain ⟨L,hL⟩:=StsR.of_trod f1
  obtain ⟨I,hI⟩:=IntsR.of_trod f2
  exact ⟨a1,a2,a3,n1,c1,n2,c2,n3,c3,N,L,I,rfl,hN,hL,hI,hNum⟩

end

end Go.Proofs.YtedlocniojlhfaaGreatDoor

namespace Go.Proofs.YtedlocniojlhfaaGreatDoor
set_option maxRecDepth 100000
open Go.ChangeShapes Go.WideShapes Go.RowKit Go.Deep
set_option linter.unusedVariables false

theorem cellsReq:Tryz.prog.cellsOf 29=6:=by kernel_rfl
theorem i64_of {a:Int} (h:(Lit.int .i64 a).wf=true):I64 a:=⟨(bounds_i64 h).1,(bounds_i64 h).2⟩

theorem array6 {α:Type} {cs:Array α} (h:cs.size=6):∃ c0 c1 c2 c3 c4 c5,cs=#[c0,c1,c2,c3,c4,c5]:=by
 obtain ⟨l⟩:=cs
 match l,h with
 | [c0,c1,c2,c3,c4,c5],_=>exact ⟨c0,c1,c2,c3,c4,c5,rfl⟩

theorem open_req {H:Type} {enc:TypeId × Value→H} {w:World} {held:Bool} {r:Reach} {b0:Nat} {v:Value} {d:DataW H} {p:List MemPlace}
  (hv:Value.okWide Tryz.prog w r b0 29 v) (h:DataW.Trod enc Tryz.prog w 0 (fun _=>true) held 29 v d p) :
  ∃ (cl us:ByteArray) (lv nw:Int) (a1:Option Addr) (n1 c1:Nat) (s1:List ByteArray) (a2:Option Addr) (n2 c2:Nat) (s2:List ByteArray),
   v=.agg #[.string cl,.string us,.int .i64 lv,.int .i64 nw,.slice a1 n1 c1,.slice a2 n2 c2]∧cl.size≤maxLen∧us.size≤maxLen∧(I64 lv∧I64 nw)∧Strs w a1 n1 c1 s1∧Strs w a2 n2 c2 s2:=by
 obtain ⟨cs,rfl,hsz⟩:=okWide_struct Tryz.underlying29 hv
 obtain ⟨x0,x1,x2,x3,x4,x5,rfl⟩:=array6 (hsz.trans cellsReq)
 obtain ⟨fuel,hf⟩:=h
 obtain ⟨xs,n,_,_,_,hlen,hx⟩:=DataW.trod_struct Tryz.underlying29 hf
 have get:∀ i,i<6→∃ y,xs[i]?=some y:=fun i hi=>⟨xs[i]'(by simp at hlen;omega),List.getElem?_eq_getElem _⟩
 obtain ⟨y0,e0⟩:=get 0 (by omega)
 obtain ⟨y1,e1⟩:=get 1 (by omega)
 obtain ⟨y2,e2⟩:=get 2 (by omega)
 obtain ⟨y3,e3⟩:=get 3 (by omega)
 obtain ⟨y4,e4⟩:=get 4 (by omega)
 obtain ⟨y5,e5⟩:=get 5 (by omega)
 have f0:DataW.trod enc Tryz.prog w 0 (fun _=>true) held n 9 [x0]=some y0:=by
  have:=(hx 0 _ rfl).trans e0
  simpa [Value.cells,cellsStr] using this
 have f1:DataW.trod enc Tryz.prog w 0 (fun _=>true) held n 9 [x1]=some y1:=by
  have:=(hx 1 _ rfl).trans e1
  simpa [Value.cells,cellsStr] using this
 have f2:DataW.trod enc Tryz.prog w 0 (fun _=>true) held n 2 [x2]=some y2:=by
  have:=(hx 2 _ rfl).trans e2
  simpa [Value.cells,cellsI64] using this
 have f3:DataW.trod enc Tryz.prog w 0 (fun _=>true) held n 2 [x3]=some y3:=by
  have:=(hx 3 _ rfl).trans e3
  simpa [Value.cells,cellsI64] using this
 have f4:DataW.trod enc Tryz.prog w 0 (fun _=>true) held n 27 [x4]=some y4:=by
  have:=(hx 4 _ rfl).trans e4
  simpa [Value.cells,cellsSS] using this
 have f5:DataW.trod enc Tryz.prog w 0 (fun _=>true) held n 27 [x5]=some y5:=by
  have:=(hx 5 _ rfl).trans e5
  simpa [Value.cells,cellsSS] using this
 obtain ⟨cl,k0,_,hcl⟩:=DataW.trod_string Tryz.underlying9 f0
 obtain ⟨us,k1,_,hus⟩:=DataW.trod_string Tryz.underlying9 f1
 obtain ⟨lv,k2,_,wl⟩:=DataW.trod_int Tryz.underlying2 f2
 obtain ⟨nw,k3,_,wn⟩:=DataW.trod_int Tryz.underlying2 f3
 simp only [List.cons.injEq,and_true] at k0 k1 k2 k3
 subst k0 k1 k2 k3
 have form:∀ {x y},DataW.trod enc Tryz.prog w 0 (fun _=>true) held n 27 [x]=some y→∃ a l c,x=.slice a l c:=fun {x y} hh=>by
  rcases open_strings Tryz.underlying27 Tryz.underlying9 cellsStr hh with ⟨hcs,_⟩ | ⟨_,_,_,_,hcs,_⟩
  ·simp only [List.cons.injEq,and_true] at hcs;exact ⟨_,_,_,hcs⟩
  ·simp only [List.cons.injEq,and_true] at hcs;exact ⟨_,_,_,hcs⟩
 obtain ⟨a1,n1,c1,rfl⟩:=form f4
 obtain ⟨a2,n2,c2,rfl⟩:=form f5
 obtain ⟨s1,t1⟩:=Strs.of_trod Tryz.underlying27 Tryz.underlying9 cellsStr f4
 obtain ⟨s2,t2⟩:=Strs.of_trod Tryz.underlying27 Tryz.underlying9 cellsStr f5
 exact ⟨cl,us,lv,nw,a1,n1,c1,s1,a2,n2,c2,s2,rfl,hcl,hus,⟨i64_of wl,i64_of wn⟩,t1,t2⟩

end Go.Proofs.YtedlocniojlhfaaGreatDoor

namespace Go.Proofs.YtedlocniojlhfaaGreatDoor
set_option maxRecDepth 100000
open Go.ChangeShapes Go.WideShapes Go.ChangeAt Go.RowKit

theorem gShape:Tryz.prog.globalNamed "loop.example/s01308/impl.errShape"=some 0:=by kernel_rfl
theorem gOver:Tryz.prog.globalNamed "loop.example/s01308/impl.errOverflow"=some 1:=by kernel_rfl
theorem gZero:Tryz.prog.globalNamed "loop.example/s01308/impl.errZero"=some 2:=by kernel_rfl
theorem gWide:Tryz.prog.globalNamed "loop.example/s01308/impl.errWidth"=some 3:=by kernel_rfl
theorem tShape:(Tryz.prog.globals[0]?).map (·.type)=some 64:=by kernel_rfl
theorem tOver:(Tryz.prog.globals[1]?).map (·.type)=some 64:=by kernel_rfl
theorem tZero:(Tryz.prog.globals[2]?).map (·.type)=some 64:=by kernel_rfl
theorem tWide:(Tryz.prog.globals[3]?).map (·.type)=some 64:=by kernel_rfl
theorem row66:∀ u,Tryz.prog.typeName? 3 u=some "*errors.errorString"→u=262 :=
 typeName_ptr_named (nm:= "errors.errorString") (by kernel_rfl) (by kernel_rfl) (by decide)
theorem cells91:Tryz.prog.cellsOf 293=1:=by kernel_rfl
theorem cells9:Tryz.prog.cellsOf 9=1:=by kernel_rfl

theorem sent_of_laid {W:World} {l:List (String × DataW Unit)} (h0:laidMet Tryz.prog (("loop.example/s01308/impl.errOverflow",Rows.laid_loop_example_s01308_impl_errOverflow)::("loop.example/s01308/impl.errZero",Rows.laid_loop_example_s01308_impl_errZero)::("loop.example/s01308/impl.errWidth",Rows.laid_loop_example_s01308_impl_errWidth)::("loop.example/s01308/impl.errShape",Rows.laid_loop_example_s01308_impl_errShape)::l) W):∃ aS aO aZ aW,Sent W aS aO aZ aW ∧
  W.var? Tryz.prog "loop.example/s01308/impl.errShape"=some #[.iface 262 (.pointer (some aS))]∧W.var? Tryz.prog "loop.example/s01308/impl.errOverflow"=some #[.iface 262 (.pointer (some aO))] ∧
  W.var? Tryz.prog "loop.example/s01308/impl.errZero"=some #[.iface 262 (.pointer (some aZ))]∧W.var? Tryz.prog "loop.example/s01308/impl.errWidth"=some #[.iface 262 (.pointer (some aW))]:=by
 obtain ⟨ps,⟨g0,t0,cs0,f0,p0,q0,hg0,ht0,hv0,hd0,⟨g1,t1,cs1,f1,p1,q1,hg1,ht1,hv1,hd1,⟨g2,t2,cs2,f2,p2,q2,hg2,ht2,hv2,hd2,⟨g3,t3,cs3,f3,p3,q3,hg3,ht3,hv3,hd3,hq3,e3⟩,e2⟩,e1⟩,e0⟩,hnd,hrows⟩:=h0
 obtain rfl:=Option.some.inj (gOver.symm.trans hg0)
 obtain rfl:=Option.some.inj (gZero.symm.trans hg1)
 obtain rfl:=Option.some.inj (gWide.symm.trans hg2)
 obtain rfl:=Option.some.inj (gShape.symm.trans hg3)
 obtain rfl:=Option.some.inj (tOver.symm.trans ht0)
 obtain rfl:=Option.some.inj (tZero.symm.trans ht1)
 obtain rfl:=Option.some.inj (tWide.symm.trans ht2)
 obtain rfl:=Option.some.inj (tShape.symm.trans ht3)
 subst e3
 subst e2
 subst e1
 subst e0
 obtain ⟨l0⟩:=cs0
 obtain ⟨l1⟩:=cs1
 obtain ⟨l2⟩:=cs2
 obtain ⟨l3⟩:=cs3
 have ok0:∀ u v,l0=[.iface u v]→Value.okWide Tryz.prog W .any 0 u v:=fun u v e=>by
  subst e
  exact (hrows 1 0 (by simp [MemPlace.row])).2 u v (by simpa using World.var?_cell hg0 hv0 0)
 have ok1:∀ u v,l1=[.iface u v]→Value.okWide Tryz.prog W .any 0 u v:=fun u v e=>by
  subst e
  exact (hrows 2 0 (by simp [MemPlace.row])).2 u v (by simpa using World.var?_cell hg1 hv1 0)
 have ok2:∀ u v,l2=[.iface u v]→Value.okWide Tryz.prog W .any 0 u v:=fun u v e=>by
  subst e
  exact (hrows 3 0 (by simp [MemPlace.row])).2 u v (by simpa using World.var?_cell hg2 hv2 0)
 have ok3:∀ u v,l3=[.iface u v]→Value.okWide Tryz.prog W .any 0 u v:=fun u v e=>by
  subst e
  exact (hrows 0 0 (by simp [MemPlace.row])).2 u v (by simpa using World.var?_cell hg3 hv3 0)
 obtain ⟨aO,s0,rfl,hc0,_,_,rfl⟩:=errorString_of_trod Tryz.underlying64 row66 Tryz.underlying262 Tryz.underlying293 rfl rfl Tryz.underlying9 cells91 cells9 hd0 ok0
 obtain ⟨aZ,s1,rfl,hc1,_,_,rfl⟩:=errorString_of_trod Tryz.underlying64 row66 Tryz.underlying262 Tryz.underlying293 rfl rfl Tryz.underlying9 cells91 cells9 hd1 ok1
 obtain ⟨aW,s2,rfl,hc2,_,_,rfl⟩:=errorString_of_trod Tryz.underlying64 row66 Tryz.underlying262 Tryz.underlying293 rfl rfl Tryz.underlying9 cells91 cells9 hd2 ok2
 obtain ⟨aS,s3,rfl,hc3,_,_,rfl⟩:=errorString_of_trod Tryz.underlying64 row66 Tryz.underlying262 Tryz.underlying293 rfl rfl Tryz.underlying9 cells91 cells9 hd3 ok3
 have rO:=(hrows aO.block aO.off (by simp [MemPlace.row])).1
 have rZ:=(hrows aZ.block aZ.off (by simp [MemPlace.row])).1
 have rW:=(hrows aW.block aW.off (by simp [MemPlace.row])).1
 have rS:=(hrows aS.block aS.off (by simp [MemPlace.row])).1
 have b0:=(hrows 0 0 (by simp [MemPlace.row])).1
 have b1:=(hrows 1 0 (by simp [MemPlace.row])).1
 have b2:=(hrows 2 0 (by simp [MemPlace.row])).1
 have b3:=(hrows 3 0 (by simp [MemPlace.row])).1
 refine ⟨aS,aO,aZ,aW,⟨by simpa using World.var?_cell hg3 hv3 0,by simpa using World.var?_cell hg0 hv0 0,by simpa using World.var?_cell hg1 hv1 0,by simpa using World.var?_cell hg2 hv2 0,?_,rS,rO,rZ,rW,?_,?_,?_,?_,?_,?_⟩,hv3,hv0,hv1,hv2⟩
 ·obtain ⟨_,_,hb0⟩:=b0
  obtain ⟨_,_,hb1⟩:=b1
  obtain ⟨_,_,hb2⟩:=b2
  obtain ⟨_,_,hb3⟩:=b3
  have:=(Array.getElem?_eq_some_iff.1 hb0).1
  have:=(Array.getElem?_eq_some_iff.1 hb1).1
  have:=(Array.getElem?_eq_some_iff.1 hb2).1
  have:=(Array.getElem?_eq_some_iff.1 hb3).1
  omega
 all_goals (rintro rfl;simp [MemPlace.row] at hnd)

end Go.Proofs.YtedlocniojlhfaaGreatDoor
