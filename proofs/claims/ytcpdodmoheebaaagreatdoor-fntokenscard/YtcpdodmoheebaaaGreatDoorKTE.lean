/-
  Drawn policies: nodes over others. Own work.
-/
import Derived.Test.YtcpdodmoheebaaaGreatDoorKTD
namespace Go.Proofs.YtcpdodmoheebaaaGreatDoor
set_option maxHeartbeats 3200000
open Go.RowKit
set_option linter.unusedVariables false
theorem GV (b:Nat)(a:Option Addr)(n c:Nat)(w:World)(h:Ba w b a n c):
  Calls Tryz.prog 30 #[.pointer (some ⟨b,0,none⟩)] w fun e w'=>∃ r:Int,e= .returned (.int .i64 r)∧0≤r∧r≤1048576∧Below w.heap.size w w':=by
 obtain ⟨p,h⟩:=h
 have d:=h.row.cell 0
 have c1:=h.row.cell 1
 have h1:=h.le
 have h2:=h.small
 go_enter Tryz.func30,Tryz.ntmps30
 go_wp2_with fail
 go_quiet (fail)
 go_wp2_with fail
 go_ret
 exact ⟨_,rfl,by omega,by omega,⟨rfl,rfl,rfl,Nat.le_refl _,fun _ _=>rfl⟩⟩
theorem BN {B f d:Nat}{a:Option Addr}{n c m:Nat}{L:List (ByteArray × Int)}{nd lt:Value}{w:World}(h:Db B f d a n c m L nd lt w)(hm:m+1≤1000000)(g:List Int)(b:Array Value)(j:Nat)(k:b.toList=Bk g)(l:b.size=j)(h3:j≤3)(op:Int):
  Calls Tryz.prog 50 #[.pointer (some ⟨d,0,none⟩),.int .i64 op,.slice (some ⟨w.heap.size,0,none⟩) j j] (w.alloc (.cells b 3)) (BY B f d a n c m 1 L nd lt w):=by
 have o:=(Below.refl w.heap.size w).alloc (Nat.le_refl _) (.cells b 3)
 have p:Gk B f d lt nd w nd (w.alloc (.cells b 3)):=Gk.of_below o h.lt.1.1
 go_enter Tryz.func50,Tryz.ntmps50
 go_wp2_with fail
 refine (JM h hm g b j k l h3 op _ (Below.refl _ _)).mono ?_
 intro r s i
 have q:=Ab (i.back p)
 obtain ⟨⟨t,rfl⟩,-⟩:=i
 dsimp only
 go_wp2_with fail
 go_ret
 exact Aa q
def Ld:Nat→Nat
 | 0=>1
 | d+1=>3 * Ld d+1
def Mn (B R gb:Nat) (a:Option Addr) (n c:Nat) (L:List (ByteArray × Int)) (lt:Value) (d:Nat):Prop:=
 ∀ (ty:Int) (m:Nat) (nd:Value) (w:World),(ty=1∨ty=2∨ty=3∨ty=4)→m+Ld d≤1000000→Db B R gb a n c m L nd lt w→Calls Tryz.prog 31 #[.pointer (some ⟨gb,0,none⟩),.int .i64 ty,.int .i64 (d:Int)] w (BY B R gb a n c m (Ld d) L nd lt w)
theorem AS {B i g:Nat}{a:Option Addr}{n c m d:Nat}{L:List (ByteArray × Int)}{nd lt:Value}{w:World}(k:Mn B i g a n c L lt d)(h:Db B i g a n c m L nd lt w)(hm:m+2 * Ld d+1≤1000000)(op b f:Int)(h1:b=1∨b=2∨b=3∨b=4)(h2:f=1∨f=2∨f=3∨f=4):
  Calls Tryz.prog 51 #[.pointer (some ⟨g,0,none⟩),.int .i64 op,.int .i64 b,.int .i64 f,.int .i64 (d:Int)] w (BY B i g a n c m (2 * Ld d+1) L nd lt w):=by
 have j:=Ab k
 unfold Mn at j
 generalize Ld d=o at hm j ⊢
 clear k
 go_enter Tryz.func51,Tryz.ntmps51
 go_wp2_with fail
 refine (Aa j b m nd w h1 (by omega) h).mono ?_
 rintro r p ⟨⟨x,rfl⟩,q,s,a1,a2,t,u⟩
 dsimp only
 go_wp2_with fail
 refine (Aa j f q s p h2 (by omega) t).mono ?_
 rintro r I ⟨⟨y,rfl⟩,J,K,a3,a4,v,z⟩
 have A:=u.trans z
 dsimp only
 go_wp2_with fail
 refine (BN v (by omega) [x,y] _ 2 rfl rfl (by omega) op).mono ?_
 rintro r C ⟨⟨l,rfl⟩,D,E,a5,M,F,G⟩
 have H:=Ab (show BY B i g a n c m (2 * o+1) L nd lt w (.returned (.int .i64 l)) C from ⟨⟨l,rfl⟩,D,E,by omega,by omega,F,A.trans G⟩)
 dsimp only
 go_wp2_with fail
 go_ret
 exact Aa H
end Go.Proofs.YtcpdodmoheebaaaGreatDoor
