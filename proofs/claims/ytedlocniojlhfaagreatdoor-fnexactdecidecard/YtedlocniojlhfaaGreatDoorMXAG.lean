/-
  Laws, VPU, ZT1, WD, VPV, VPW, DVK, VR, VR2, VPX, Open. Own work.
-/
import Derived.Test.YtedlocniojlhfaaGreatDoorMXAF
import Derived.Test.YtedlocniojlhfaaGreatDoorMXAE
import Derived.Test.YtedlocniojlhfaaGreatDoorMXAA
import Derived.Test.YtedlocniojlhfaaGreatDoorMXAI
import Derived.Test.YtedlocniojlhfaaGreatDoorMXAB
import Derived.Test.YtedlocniojlhfaaGreatDoorMXAM
import Derived.Test.YtedlocniojlhfaaGreatDoorMXAH
import Derived.Test.YtedlocniojlhfaaGreatDoorMA
import Derived.ProofKit
import Derived.SliceStrings
namespace Go.Proofs.YtedlocniojlhfaaGreatDoor
set_option maxHeartbeats 800000
open Go.RowKit

theorem szStringS_any (a:Option Addr) (n c:Nat) (ss:List ByteArray) (L:Int) (w:World) (h:Strs w a n c ss) (hL:-1≤L) (hL':L≤1048576) :
  Calls Tryz.prog 20 #[.slice a n c,.int .i64 L] w fun e w'=>(∃ r:Int,e=.returned (.int .i64 r)∧(r=-1∨0≤r∧r+n+tot ss=L))∧w'=w:=by
 have hn:n≤9223372036854775807:=by have:=h.cap;have:=h.small;unfold maxLen at this;omega
 have Hl:=hide h.len
 by_cases h0:L - n<0
 ·go_enter Tryz.func20,Tryz.ntmps20
  go_wp2
  go_ret
  exact ⟨⟨_,rfl,.inl rfl⟩,rfl⟩
 ·have h0':0≤L - n:=by omega
  have h0b:(L - n<0)=False:=by simp;omega
  go_enter Tryz.func20,Tryz.ntmps20
  go_wp2
  go_loop [1,4,5] (fun l _ i=>∃ k:Nat,k≤n∧i=.int .i64 k∧l=.int .i64 (L - n - tot (ss.take k))∧0≤L - n - tot (ss.take k)) (fun _ _ i=>n - (intOf i).toNat)
  case atStart=>exact ⟨0,Nat.zero_le _,rfl,by simp [tot],by simp [tot];omega⟩
  case round =>
   obtain ⟨k,hk,rfl,rfl,hp⟩:=hrel
   by_cases hlt:k<n
   ·obtain ⟨b,off,ha',_,hc⟩:=h.cells k hlt
    have hsz:=h.sizes k hlt
    subst ha'
    unfold maxLen at hsz
    have Ht:=hide (tot_take_succ ss k (by have:=uh Hl;omega))
    generalize hT:tot (ss.take k)=T at *
    have HT:=hide hT
    clear hT
    by_cases hneg:L - n - T - ((nth ss k).size:Int)<0
    ·go_wp2
     go_ret
     exact ⟨⟨_,rfl,.inl rfl⟩,rfl⟩
    ·have hpos:0≤L - n - T - ((nth ss k).size:Int):=by omega
     go_wp2
     go_round
     case rel=>exact ⟨k+1,by omega,by go_num,by rw [uh Ht];go_num,by rw [uh Ht];omega⟩
     case measure=>simp [intOf];omega
   ·go_wp2
    go_ret
    have e1:ss.take k=ss:=List.take_of_length_le (by have:=uh Hl;omega)
    rw [e1] at hp ⊢
    exact ⟨⟨_,rfl,.inr ⟨hp,by omega⟩⟩,rfl⟩

theorem toStringS_any (a:Option Addr) (n c:Nat) (ss:List ByteArray) (w:World) (h:Strs w a n c ss) (hsm:n≤1048576) :
  Calls Tryz.prog 27 #[.slice a n c] w fun e w'=>e=.returned (.slice (some ⟨w.heap.size,0,none⟩) n n)∧Below w.heap.size w w'∧w'.ownsRow w.heap.size 9 1 (.slice (some ⟨w.heap.size,0,none⟩) n n) n (ss.map Value.string):=by
 obtain ⟨i,hi,hz0,hz1,hz2⟩:=info_parts infoS
 go_enter Tryz.func27,Tryz.ntmps27
 go_wp2_with (at_make;refine wpList_make_full _ rfl _ _ 27 rfl w.heap.size 9 i (.string ByteArray.empty) 1 Tryz.underlying27 hi hz0 hz1 _ _ _ _ n rfl rfl rfl rfl ?b2 ?b3 ?b4 ?_)
 case b2=>rw [hz2];omega
 case b3=>unfold maxLen;omega
 case b4=>exact nl
 intro w1 hown hgrow
 have hb1:Below w.heap.size w w1:=(Below.refl _ _).grown hgrow nl (fun k hk=>by cases hk)
 clear hgrow
 have hown1:w1.ownsRow w.heap.size 9 1 (.slice (some ⟨w.heap.size,0,none⟩) n n) n ((half ss n 0).map Value.string):=by
  rw [half_zero,List.map_replicate,← toList_madeCells_one,← Nat.mul_one n]
  simpa using hown
 clear hown
 go_wp2
 go_loopw [4] (fun i wr=>∃ k:Nat,k≤n∧i=.int .i64 k∧wr.ownsRow w.heap.size 9 1 (.slice (some ⟨w.heap.size,0,none⟩) n n) n ((half ss n k).map Value.string)∧Below w.heap.size w wr) (fun i _=>n - (intOf i).toNat)
 case atStart=>exact ⟨0,Nat.zero_le _,rfl,hown1,hb1⟩
 case round =>
  obtain ⟨k,hk,rfl,hown,hb⟩:=hrel
  clear hown1 hb1
  by_cases hlt:k<n
  ·obtain ⟨b,off,ha',_,hc⟩:=(h.below hb nl).cells k hlt
   subst ha'
   have hfz:=hown.frozenAt k
   have hck:=(hown.cellAt k (by omega)).trans (half_at ss n k hlt)
   have Hst:=hide (hown.stored k (.string (nth ss k))).1
   have Hown:=hide hown
   clear hown
   go_wp2
   go_roundw
   case rel=>exact ⟨k+1,by omega,by go_num,by rw [← half_set];exact uh Hst,hb.setCell nl _⟩
   case measure=>simp [intOf];omega
  ·have e:k=n:=by omega
   subst e
   go_wp2
   go_ret
   exact ⟨rfl,hb,by rw [half_full ss k h.len] at hown;exact hown⟩

end Go.Proofs.YtedlocniojlhfaaGreatDoor

namespace Go.Proofs.YtedlocniojlhfaaGreatDoor
set_option maxRecDepth 100000
set_option maxHeartbeats 1600000
open Go.RowKit
set_option linter.unusedVariables false

structure IntsR (w:World) (a:Option Addr) (n c:Nat) (L:List Int):Prop where
 len:L.length=n
 cap:n≤c
 small:c≤maxLen
 cells:∀ j,(h:j<L.length)→∃ b off,a=some ⟨b,off,none⟩∧b<w.heap.size∧w.cell? ⟨b,off+j,none⟩=some (.int .i64 L[j])

def NdAtR (w:World) (b o:Nat) (x:Nd):Prop:=∃ an nn cn ak nk ck,w.cell? ⟨b,o,none⟩=some (.int .i64 x.op)∧w.cell? ⟨b,o+1,none⟩=some (.int .i64 x.num)∧w.cell? ⟨b,o+2,none⟩=some (.string x.text)∧w.cell? ⟨b,o+3,none⟩=some (.slice an nn cn)∧w.cell? ⟨b,o+4,none⟩=some (.slice ak nk ck)∧Strs w an nn cn x.names∧IntsR w ak nk ck x.kids

structure NdsR (w:World) (a:Option Addr) (n c:Nat) (L:List Nd):Prop where
 len:L.length=n
 cap:n≤c
 small:c≤maxLen
 sizes:∀ x∈L,x.text.size≤maxLen
 cells:∀ j,(h:j<L.length)→∃ b off,a=some ⟨b,off,none⟩∧b<w.heap.size∧NdAtR w b (off+j*5) L[j]

structure StsR (w:World) (a:Option Addr) (n c:Nat) (L:List St):Prop where
 len:L.length=n
 cap:n≤c
 small:c≤maxLen
 sizes:∀ s∈L,s.name.size≤maxLen
 cells:∀ j,(h:j<L.length)→∃ b off,a=some ⟨b,off,none⟩∧b<w.heap.size∧w.cell? ⟨b,off+j*4,none⟩=some (.int .i64 L[j].kind)∧w.cell? ⟨b,off+j*4+1,none⟩=some (.string L[j].name)∧w.cell? ⟨b,off+j*4+2,none⟩=some (.int .i64 L[j].cond)∧w.cell? ⟨b,off+j*4+3,none⟩=some (.int .i64 L[j].grant)

theorem IntsR.below {w w':World} {B:Nat} {a:Option Addr} {n c:Nat} {L:List Int} (h:IntsR w a n c L) (hb:Below B w w') (hB:w.heap.size≤B):IntsR w' a n c L :=
 ⟨h.len,h.cap,h.small,fun j hj=>by
  obtain ⟨b,off,ha,hl,c0⟩:=h.cells j hj
  exact ⟨b,off,ha,Nat.lt_of_lt_of_le hl hb.size,(hb.cell (p:=⟨b,off+j,none⟩) (by show b<B;omega)).trans c0⟩⟩

theorem NdAtR.below {w w':World} {B b o:Nat} {x:Nd} (h:NdAtR w b o x) (hl:b<w.heap.size) (hb:Below B w w') (hB:w.heap.size≤B):NdAtR w' b o x:=by
 obtain ⟨an,nn,cn,ak,nk,ck,c0,c1,c2,c3,c4,hN,hK⟩:=h
 have hl':b<B:=by omega
 exact ⟨an,nn,cn,ak,nk,ck,(hb.cell (p:=⟨b,o,none⟩) hl').trans c0,(hb.cell (p:=⟨b,o+1,none⟩) hl').trans c1,(hb.cell (p:=⟨b,o+2,none⟩) hl').trans c2,(hb.cell (p:=⟨b,o+3,none⟩) hl').trans c3,(hb.cell (p:=⟨b,o+4,none⟩) hl').trans c4,hN.below hb hB,hK.below hb hB⟩

theorem NdsR.below {w w':World} {B:Nat} {a:Option Addr} {n c:Nat} {L:List Nd} (h:NdsR w a n c L) (hb:Below B w w') (hB:w.heap.size≤B):NdsR w' a n c L :=
 ⟨h.len,h.cap,h.small,h.sizes,fun j hj=>by
  obtain ⟨b,off,ha,hl,hc⟩:=h.cells j hj
  exact ⟨b,off,ha,Nat.lt_of_lt_of_le hl hb.size,hc.below hl hb hB⟩⟩

theorem StsR.below {w w':World} {B:Nat} {a:Option Addr} {n c:Nat} {L:List St} (h:StsR w a n c L) (hb:Below B w w') (hB:w.heap.size≤B):StsR w' a n c L :=
 ⟨h.len,h.cap,h.small,h.sizes,fun j hj=>by
  obtain ⟨b,off,ha,hl,c0,c1,c2,c3⟩:=h.cells j hj
  have hl':b<B:=by omega
  exact ⟨b,off,ha,Nat.lt_of_lt_of_le hl hb.size,(hb.cell (p:=⟨b,off+j*4,none⟩) hl').trans c0,(hb.cell (p:=⟨b,off+j*4+1,none⟩) hl').trans c1,(hb.cell (p:=⟨b,off+j*4+2,none⟩) hl').trans c2,(hb.cell (p:=⟨b,off+j*4+3,none⟩) hl').trans c3⟩⟩

def smallNd (x:Nd):Prop:=x.text.size≤1048576∧x.names.length≤1048576∧tot x.names≤1048576∧x.kids.length≤1048576

def Left (L:Int) (P:Prop) (e:Ending):Prop:=∃ r:Int,e=.returned (.int .i64 r)∧(r=-1∨0≤r∧r≤L∧P)

theorem left_no (L:Int) (P:Prop):Left L P (.returned (.int .i64 (-1))):=⟨_,rfl,.inl rfl⟩

theorem szIntS_any (a:Option Addr) (n c:Nat) (L:Int) (w:World) (hn:n≤maxLen) (hL:-1≤L) (hL':L≤1048576) :
  Calls Tryz.prog 19 #[.slice a n c,.int .i64 L] w fun e w'=>Left L (n≤1048576) e∧w'=w:=by
 unfold maxLen at hn
 by_cases h0:L - n<0
 ·go_enter Tryz.func19,Tryz.ntmps19
  go_wp2
  go_ret
  exact ⟨left_no _ _,rfl⟩
 ·have h0':0≤L - n:=by omega
  go_enter Tryz.func19,Tryz.ntmps19
  go_wp2
  go_ret
  exact ⟨⟨_,rfl,.inr ⟨by omega,by omega,by omega⟩⟩,rfl⟩

theorem szNode_any (x:Nd) (an:Option Addr) (nn cn:Nat) (ak:Option Addr) (nk ck:Nat) (L:Int) (w:World) (hN:Strs w an nn cn x.names) (hK:nk=x.kids.length) (hk:nk≤maxLen) (hs:x.text.size≤maxLen) (hL:-1≤L) (hL':L≤1048576) :
  Calls Tryz.prog 43 #[.agg #[.int .i64 x.op,.int .i64 x.num,.string x.text,.slice an nn cn,.slice ak nk ck],.int .i64 L] w fun e w'=>Left L (smallNd x) e∧Below w.heap.size w w':=by
 have R0:=Row.new w #[.int .i64 x.op,.int .i64 x.num,.string x.text,.slice an nn cn,.slice ak nk ck] 81
 have B0:=(Below.refl w.heap.size w).alloc nl (.cells #[.int .i64 x.op,.int .i64 x.num,.string x.text,.slice an nn cn,.slice ak nk ck] 81)
 have N0:=hN.below B0 nl
 have Hn:=hide hN.len
 have HK:=hide hK
 have hs':=hs
 unfold maxLen at hs'
 clear hK hN
 by_cases h0:L - x.text.size<0
 ·go_enter Tryz.func43,Tryz.ntmps43
  go_wp2
  go_ret
  exact ⟨left_no _ _,B0⟩
 ·have h0':0≤L - x.text.size:=by omega
  go_enter Tryz.func43,Tryz.ntmps43
  go_wp2_with (first
   | (go_at_call 20;refine (szStringS_any _ _ _ _ _ _ N0 (by omega) (by omega)).mono ?_;rintro e w2 ⟨⟨r,rfl,hr⟩,hw2⟩;rw [hw2];clear hw2;have hr1:-1≤r∧r≤1048576:=(by rcases hr with h | h <;> omega);have Hr:=hide hr;clear hr)
   | (go_at_call 19;refine (szIntS_any _ _ _ _ _ hk (by omega) (by omega)).mono ?_;rintro e w3 ⟨⟨r2,rfl,hr2⟩,hw3⟩;rw [hw3];clear hw3;have Hr2:=hide hr2;clear hr2))
  all_goals
   go_ret
   first
    | exact ⟨left_no _ _,B0⟩
    | (have a1:=uh Hr
       have a2:=uh Hr2
       have a3:=uh Hn
       have a4:=uh HK
       exact ⟨⟨_,rfl,.inr ⟨by omega,by omega,by omega,by omega,by omega,by omega⟩⟩,B0⟩)

theorem szNodeS_any (a:Option Addr) (n c:Nat) (N:List Nd) (L:Int) (w:World) (h:NdsR w a n c N) (hL:-1≤L) (hL':L≤1048576) :
  Calls Tryz.prog 17 #[.slice a n c,.int .i64 L] w fun e w'=>Left L (n≤1048576∧∀ x∈N,smallNd x) e∧Below w.heap.size w w':=by
 have hn:n≤9223372036854775807:=by have:=h.cap;have:=h.small;unfold maxLen at this;omega
 have Hl:=hide h.len
 by_cases h0:L - n<0
 ·go_enter Tryz.func17,Tryz.ntmps17
  go_wp2
  go_ret
  exact ⟨left_no _ _,Below.refl _ _⟩
 ·have h0':0≤L - n:=by omega
  have h0b:(L - n<0)=False:=by simp;omega
  go_enter Tryz.func17,Tryz.ntmps17
  go_wp2_with fail
  go_loopw [1,4,5] (fun l _ i wr=>∃ (k:Nat) (r:Int),k≤n∧i=.int .i64 k∧l=.int .i64 r∧0≤r∧r≤L∧Below w.heap.size w wr∧Hid (∀ j,(hj:j<N.length)→j<k→smallNd N[j])) (fun _ _ i _=>n - (intOf i).toNat)
  case atStart=>exact ⟨0,L - n,by omega,rfl,rfl,by omega,by omega,Below.refl _ _,hide (fun j _ h=>absurd h (by omega))⟩
  case round =>
   obtain ⟨k,r,hk,rfl,rfl,hr0,hrL,B1,Ha⟩:=hrel
   by_cases hlt:k<n
   ·have ilt:(k:Int)<(n:Int):=by omega
    have hkl:k<N.length:=by rw [uh Hl];exact hlt
    have hsz:=h.sizes N[k] (List.getElem_mem hkl)
    obtain ⟨b',off,rfl,hb,an,nn,cn,ak,nk,ck,c0,c1,c2,c3,c4,hNm,hK⟩:=(h.below B1 nl).cells k hkl
    have HY:=hide (show smallNd N[k]→∀ j,(hj:j<N.length)→j<k+1→smallNd N[j] from fun e j hj h'=>by
     by_cases ej:j=k
     ·subst ej;exact e
     ·exact uh Ha j hj (by omega))
    have Hlt:=hide hlt
    have HKL:=hide hK.len
    have hKs:nk≤maxLen:=Nat.le_trans hK.cap hK.small
    clear Ha hK
    generalize N[k]=x at c0 c1 c2 c3 c4 hNm hsz HY HKL
    go_wp2_with (go_at_call 43;refine (szNode_any x an nn cn ak nk ck _ _ hNm (uh HKL).symm hKs hsz (by omega) (by omega)).mono ?_;rintro e w2 ⟨⟨r2,rfl,hr2⟩,hb2⟩;have Hr2:=hide hr2;clear hr2)
    ·go_ret
     exact ⟨left_no _ _,B1.trans (hb2.mono B1.size)⟩
    ·have a1:=uh Hr2
     have a2:=uh Hlt
     exact ⟨⟨k+1,r2,a2,by go_num,rfl,by omega,by omega,B1.trans (hb2.mono B1.size),hide (uh HY (by rcases a1 with e | e;omega;exact e.2.2))⟩,by simp [intOf];omega⟩
   ·have HX:=hide (show n≤1048576∧∀ x∈N,smallNd x from ⟨by omega,fun x hx=>by
     obtain ⟨j,hj,rfl⟩:=List.getElem_of_mem hx
     exact uh Ha j hj (by have:=uh Hl;omega)⟩)
    go_wp2_with fail
    go_ret
    exact ⟨⟨_,rfl,.inr ⟨hr0,hrL,uh HX⟩⟩,B1⟩

theorem szStmt_any (s:St) (L:Int) (w:World) (hs:s.name.size≤maxLen) (hL:-1≤L) (hL':L≤1048576) :
  Calls Tryz.prog 44 #[.agg #[.int .i64 s.kind,.string s.name,.int .i64 s.cond,.int .i64 s.grant],.int .i64 L] w fun e w'=>Left L (s.name.size≤1048576) e∧Below w.heap.size w w':=by
 have B0:=(Below.refl w.heap.size w).alloc nl (.cells #[.int .i64 s.kind,.string s.name,.int .i64 s.cond,.int .i64 s.grant] 84)
 unfold maxLen at hs
 by_cases h0:L - s.name.size<0
 ·go_enter Tryz.func44,Tryz.ntmps44
  go_wp2
  go_ret
  exact ⟨left_no _ _,B0⟩
 ·have h0':0≤L - s.name.size:=by omega
  go_enter Tryz.func44,Tryz.ntmps44
  go_wp2
  go_ret
  exact ⟨⟨_,rfl,.inr ⟨by omega,by omega,by omega⟩⟩,B0⟩

theorem szStmtS_any (a:Option Addr) (n c:Nat) (N:List St) (L:Int) (w:World) (h:StsR w a n c N) (hL:-1≤L) (hL':L≤1048576) :
  Calls Tryz.prog 18 #[.slice a n c,.int .i64 L] w fun e w'=>Left L (n≤1048576∧∀ x∈N,x.name.size≤1048576) e∧Below w.heap.size w w':=by
 have hn:n≤9223372036854775807:=by have:=h.cap;have:=h.small;unfold maxLen at this;omega
 have Hl:=hide h.len
 by_cases h0:L - n<0
 ·go_enter Tryz.func18,Tryz.ntmps18
  go_wp2
  go_ret
  exact ⟨left_no _ _,Below.refl _ _⟩
 ·have h0':0≤L - n:=by omega
  have h0b:(L - n<0)=False:=by simp;omega
  go_enter Tryz.func18,Tryz.ntmps18
  go_wp2_with fail
  go_loopw [1,4,5] (fun l _ i wr=>∃ (k:Nat) (r:Int),k≤n∧i=.int .i64 k∧l=.int .i64 r∧0≤r∧r≤L∧Below w.heap.size w wr∧Hid (∀ j,(hj:j<N.length)→j<k→N[j].name.size≤1048576)) (fun _ _ i _=>n - (intOf i).toNat)
  case atStart=>exact ⟨0,L - n,by omega,rfl,rfl,by omega,by omega,Below.refl _ _,hide (fun j _ h=>absurd h (by omega))⟩
  case round =>
   obtain ⟨k,r,hk,rfl,rfl,hr0,hrL,B1,Ha⟩:=hrel
   by_cases hlt:k<n
   ·have ilt:(k:Int)<(n:Int):=by omega
    have hkl:k<N.length:=by rw [uh Hl];exact hlt
    have hsz:=h.sizes N[k] (List.getElem_mem hkl)
    obtain ⟨b',off,rfl,hb,c0,c1,c2,c3⟩:=(h.below B1 nl).cells k hkl
    have HY:=hide (show N[k].name.size≤1048576→∀ j,(hj:j<N.length)→j<k+1→N[j].name.size≤1048576 from fun e j hj h'=>by
     by_cases ej:j=k
     ·subst ej;exact e
     ·exact uh Ha j hj (by omega))
    have Hlt:=hide hlt
    clear Ha
    generalize N[k]=x at c0 c1 c2 c3 hsz HY
    go_wp2_with (go_at_call 44;refine (szStmt_any x _ _ hsz (by omega) (by omega)).mono ?_;rintro e w2 ⟨⟨r2,rfl,hr2⟩,hb2⟩;have Hr2:=hide hr2;clear hr2)
    ·go_ret
     exact ⟨left_no _ _,B1.trans (hb2.mono B1.size)⟩
    ·have a1:=uh Hr2
     have a2:=uh Hlt
     exact ⟨⟨k+1,r2,a2,by go_num,rfl,by omega,by omega,B1.trans (hb2.mono B1.size),hide (uh HY (by rcases a1 with e | e;omega;exact e.2.2))⟩,by simp [intOf];omega⟩
   ·have HX:=hide (show n≤1048576∧∀ x∈N,x.name.size≤1048576 from ⟨by omega,fun x hx=>by
     obtain ⟨j,hj,rfl⟩:=List.getElem_of_mem hx
     exact uh Ha j hj (by have:=uh Hl;omega)⟩)
    go_wp2_with fail
    go_ret
    exact ⟨⟨_,rfl,.inr ⟨hr0,hrL,uh HX⟩⟩,B1⟩

def smallP (n m:Nat) (N:List Nd) (L:List St):Prop:=(n≤1048576∧∀ x∈N,smallNd x)∧m≤1048576∧∀ x∈L,x.name.size≤1048576

end Go.Proofs.YtedlocniojlhfaaGreatDoor

namespace Go.Proofs.YtedlocniojlhfaaGreatDoor
set_option maxHeartbeats 1600000
open Go.RowKit
set_option linter.unusedVariables false

theorem rowT3 {w:World} {b:Nat} {v0 v1 v2:Value} {t:TypeId} (R:Row w b #[v0,v1,v2] t):w.cell? ⟨b,0,none⟩=some v0∧w.cell? ⟨b,1,none⟩=some v1∧w.cell? ⟨b,2,none⟩=some v2:=⟨R.cell 0,R.cell 1,R.cell 2⟩

def smallT (n m p:Nat) (N:List Nd) (L:List St):Prop:=smallP n m N L∧p≤1048576

theorem szTyped_any (a b f:Option Addr) (n c m d p g:Nat) (N:List Nd) (L:List St) (T:List Int) (w:World) (h1:NdsR w a n c N) (h2:StsR w b m d L) (h3:IntsR w f p g T) :
  Calls Tryz.prog 4 #[.agg #[.slice a n c,.slice b m d,.slice f p g],.int .i64 1048576] w fun e w'=>Left 1048576 (smallT n m p N L) e∧Below w.heap.size w w':=by
 have R0:=Row.new w #[.slice a n c,.slice b m d,.slice f p g] 26
 have B0:=(Below.refl w.heap.size w).alloc nl (.cells #[.slice a n c,.slice b m d,.slice f p g] 26)
 have N0:=h1.below B0 nl
 have L0:=h2.below B0 nl
 have hp:p≤maxLen:=Nat.le_trans h3.cap h3.small
 go_enter Tryz.func4,Tryz.ntmps4
 go_wp2_with (first
  | (go_at_call 17;refine (szNodeS_any _ _ _ _ _ _ N0 (by omega) (by omega)).mono ?_;rintro e w2 ⟨⟨r,rfl,hr⟩,hb2⟩;have hr1:-1≤r∧r≤1048576:=(by rcases hr with h | h <;> omega);have Hr:=hide hr;clear hr;obtain ⟨q0,q1,q2⟩:=rowT3 (R0.after hb2 nl);have E2:=B0.trans (hb2.mono B0.size))
  | (go_at_call 18;refine (szStmtS_any _ _ _ _ _ _ (L0.below hb2 nl) (by omega) (by omega)).mono ?_;rintro e w3 ⟨⟨r2,rfl,hr2⟩,hb3⟩;have hr3:-1≤r2∧r2≤1048576:=(by rcases hr2 with h | h <;> omega);have Hr2:=hide hr2;clear hr2;obtain ⟨u0,u1,u2⟩:=rowT3 ((R0.after hb2 nl).after hb3 nl);have E3:=E2.trans (hb3.mono E2.size))
  | (go_at_call 19;refine (szIntS_any _ _ _ _ _ hp (by omega) (by omega)).mono ?_;rintro e w4 ⟨⟨r3,rfl,hr4⟩,hw4⟩;rw [hw4];clear hw4;have Hr3:=hide hr4;clear hr4))
 ·go_ret
  exact ⟨left_no _ _,E2⟩
 ·go_ret
  exact ⟨left_no _ _,E3⟩
 ·go_ret
  exact ⟨left_no _ _,E3⟩
 ·go_ret
  have a1:=uh Hr
  have a2:=uh Hr2
  have a3:=uh Hr3
  refine ⟨⟨_,rfl,.inr ⟨by omega,by omega,⟨?_,?_⟩,?_⟩⟩,E3⟩
  ·rcases a1 with e | e
   ·omega
   ·exact e.2.2
  ·rcases a2 with e | e
   ·omega
   ·exact e.2.2
  ·rcases a3 with e | e
   ·omega
   ·exact e.2.2

end Go.Proofs.YtedlocniojlhfaaGreatDoor

namespace Go.Proofs.YtedlocniojlhfaaGreatDoor
open Go.RowKit

def Wd (w:World) (x:Addr) (n:Nat) (t:TypeId):Prop:=∃ q cs,x=⟨q,0,none⟩∧Row w q cs t∧cs.size=n

theorem Wd.below {w w':World} {B n:Nat} {x:Addr} {t:TypeId} (h:Wd w x n t) (hb:Below B w w') (hB:w.heap.size≤B):Wd w' x n t:=by
 obtain ⟨q,cs,e,r,z⟩:=h
 exact ⟨q,cs,e,r.after hb hB,z⟩

theorem Wd.setFar {w:World} {n:Nat} {x:Addr} {t:TypeId} (h:Wd w x n t) {p:Addr} (hp:p.block≠x.block) (u:Value):Wd (w.setCell p u) x n t:=by
 obtain ⟨q,cs,rfl,r,z⟩:=h
 exact ⟨q,cs,rfl,r.setFar (fun e=>hp e.symm) u,z⟩

theorem Wd.of_owns {w:World} {B n:Nat} {x:Addr} {t:TypeId} {xs:List Value} (h:w.ownsRow B t 1 (.slice (some x) n n) n xs):Wd w x n t:=by
 rcases h.2 with ⟨q,_⟩ | ⟨g,cap,cur,q,_,hg,_,_,hz,_⟩
 ·cases q
 ·cases q
  exact ⟨g,cur,rfl,⟨hg⟩,by omega⟩

end Go.Proofs.YtedlocniojlhfaaGreatDoor

namespace Go.Proofs.YtedlocniojlhfaaGreatDoor
set_option maxRecDepth 100000
set_option maxHeartbeats 1600000
open Go.RowKit
set_option linter.unusedVariables false

theorem half_int (L:List Int) (n k:Nat) (hn:n=L.length) (hk:k<n):(((L.take k).map (Value.int .i64))++List.replicate (n - k) (Value.int .i64 0)).set k (.int .i64 (L[k]'(by omega)))=((L.take (k+1)).map (Value.int .i64))++List.replicate (n - (k+1)) (Value.int .i64 0):=by
 have h1:((L.take k).map (Value.int .i64)).length=k:=by rw [List.length_map,List.length_take];omega
 rw [List.set_append_right _ _ (by omega),h1,Nat.sub_self,show n - k=(n - (k+1))+1 by omega,List.replicate_succ,List.set_cons_zero,List.take_succ_eq_append_getElem (by omega),List.map_append,List.append_assoc]
 rfl

theorem half_int_at (L:List Int) (n k:Nat) (hn:n=L.length) (hk:k<n):(((L.take k).map (Value.int .i64))++List.replicate (n - k) (Value.int .i64 0))[k]?=some (.int .i64 0):=by
 have h1:((L.take k).map (Value.int .i64)).length=k:=by rw [List.length_map,List.length_take];omega
 rw [List.getElem?_append_right (by omega),h1,Nat.sub_self,List.getElem?_replicate,if_pos (by omega)]

theorem toIntS_any (a:Option Addr) (n c:Nat) (L:List Int) (w:World) (h:IntsR w a n c L) (hsm:n≤1048576) :
  Calls Tryz.prog 26 #[.slice a n c] w fun e w'=>e=.returned (.slice (some ⟨w.heap.size,0,none⟩) n n)∧Below w.heap.size w w'∧w'.ownsRow w.heap.size 3 1 (.slice (some ⟨w.heap.size,0,none⟩) n n) n (intsV L):=by
 obtain ⟨i,hi,hz0,hz1,hz2⟩:=info_parts infoI
 have Hl:=hide h.len
 go_enter Tryz.func26,Tryz.ntmps26
 go_wp2_with (at_make;refine wpList_make_full _ rfl _ _ 24 rfl w.heap.size 3 i (.int .i64 0) 1 Tryz.underlying24 hi hz0 hz1 _ _ _ _ n rfl rfl rfl rfl ?b2 ?b3 ?b4 ?_)
 case b2=>rw [hz2];omega
 case b3=>unfold maxLen;omega
 case b4=>exact nl
 intro w1 hown hgrow
 have hb1:Below w.heap.size w w1:=(Below.refl _ _).grown hgrow nl (fun k hk=>by cases hk)
 clear hgrow
 have hown1:w1.ownsRow w.heap.size 3 1 (.slice (some ⟨w.heap.size,0,none⟩) n n) n (((L.take 0).map (Value.int .i64))++List.replicate (n - 0) (Value.int .i64 0)):=by
  simp only [List.take_zero,List.map_nil,List.nil_append,Nat.sub_zero]
  rw [← toList_madeCells_one,← Nat.mul_one n]
  simpa using hown
 clear hown
 go_wp2
 go_loopw [4] (fun i wr=>∃ k:Nat,k≤n∧i=.int .i64 k∧wr.ownsRow w.heap.size 3 1 (.slice (some ⟨w.heap.size,0,none⟩) n n) n (((L.take k).map (Value.int .i64))++List.replicate (n - k) (Value.int .i64 0))∧Below w.heap.size w wr) (fun i _=>n - (intOf i).toNat)
 case atStart=>exact ⟨0,Nat.zero_le _,rfl,hown1,hb1⟩
 case round =>
  obtain ⟨k,hk,rfl,hown,hb⟩:=hrel
  clear hown1 hb1
  by_cases hlt:k<n
  ·have hkl:k<L.length:=by rw [uh Hl];exact hlt
   obtain ⟨b,off,rfl,_,hc⟩:=(h.below hb nl).cells k hkl
   have hfz:=hown.frozenAt k
   have hck:=(hown.cellAt k (by omega)).trans (half_int_at L n k (uh Hl).symm hlt)
   have Hst:=hide (hown.stored k (.int .i64 L[k])).1
   have HH:=hide (half_int L n k (uh Hl).symm hlt)
   have Hlt:=hide hlt
   clear hown
   generalize L[k]=x at hc Hst HH
   go_wp2
   go_roundw
   case rel=>exact ⟨k+1,uh Hlt,by go_num,by rw [← uh HH];exact uh Hst,hb.setCell nl _⟩
   case measure=>have:=uh Hlt;simp [intOf];omega
  ·have e:k=n:=by omega
   subst e
   go_wp2
   go_ret
   refine ⟨rfl,hb,?_⟩
   rw [List.take_of_length_le (by rw [uh Hl];exact nl),Nat.sub_self] at hown
   simpa [intsV] using hown

theorem Ints.setFar {w:World} {a:Option Addr} {n c:Nat} {L:List Int} (h:Ints w a n c L) {p:Addr} (hp:∀ x,a=some x→p.block≠x.block) (u:Value):Ints (w.setCell p u) a n c L :=
 ⟨h.len,h.small,fun j hj=>by
  obtain ⟨b,off,ha,hlt,hc⟩:=h.cells j hj
  refine ⟨b,off,ha,by simpa using hlt,?_⟩
  rw [← hc]
  exact World.cell?_of_block (heap_setCell_other w p b u (fun e=>hp _ ha e.symm))⟩

theorem toNode_any (x:Nd) (an:Option Addr) (nn cn:Nat) (ak:Option Addr) (nk ck:Nat) (w:World) (h1:Strs w an nn cn x.names) (h2:IntsR w ak nk ck x.kids) (k1:nn≤1048576) (k2:nk≤1048576) :
  Calls Tryz.prog 50 #[.agg #[.int .i64 x.op,.int .i64 x.num,.string x.text,.slice an nn cn,.slice ak nk ck]] w fun e w' =>
   ∃ x1 x2,e=.returned (.agg #[.int .i64 x.op,.int .i64 x.num,.string x.text,.slice (some x1) nn nn,.slice (some x2) nk nk])∧Strs w' (some x1) nn nn x.names∧Ints w' (some x2) nk nk x.kids∧Wd w' x1 nn 9∧Wd w' x2 nk 3∧w.heap.size≤x1.block∧w.heap.size≤x2.block∧Below w.heap.size w w':=by
 go_enter Tryz.func50,Tryz.ntmps50
 go_wp2_with fail
 have B0:=((((Below.refl w.heap.size w).alloc nl (.cells #[.int .i64 x.op,.int .i64 x.num,.string x.text,.slice an nn cn,.slice ak nk ck] 81)).alloc (by simp) (.cells #[.int .i64 0,.int .i64 0,.string ⟨#[]⟩,.slice none 0 0,.slice none 0 0] 98)).alloc (by simp;omega) (.cells #[.int .i64 x.op,.int .i64 x.num,.string x.text,.slice none 0 0,.slice none 0 0] 98))
 have R0:=((Row.new w #[.int .i64 x.op,.int .i64 x.num,.string x.text,.slice an nn cn,.slice ak nk ck] 81).alloc (.cells #[.int .i64 0,.int .i64 0,.string ⟨#[]⟩,.slice none 0 0,.slice none 0 0] 98)).alloc (.cells #[.int .i64 x.op,.int .i64 x.num,.string x.text,.slice none 0 0,.slice none 0 0] 98)
 have R1:=(Row.new (w.alloc (.cells #[.int .i64 x.op,.int .i64 x.num,.string x.text,.slice an nn cn,.slice ak nk ck] 81)) #[.int .i64 0,.int .i64 0,.string ⟨#[]⟩,.slice none 0 0,.slice none 0 0] 98).alloc (.cells #[.int .i64 x.op,.int .i64 x.num,.string x.text,.slice none 0 0,.slice none 0 0] 98)
 have R2:=Row.new ((w.alloc (.cells #[.int .i64 x.op,.int .i64 x.num,.string x.text,.slice an nn cn,.slice ak nk ck] 81)).alloc (.cells #[.int .i64 0,.int .i64 0,.string ⟨#[]⟩,.slice none 0 0,.slice none 0 0] 98)) #[.int .i64 x.op,.int .i64 x.num,.string x.text,.slice none 0 0,.slice none 0 0] 98
 simp only [World.size_alloc] at R1 R2
 have Z:=R2.lt
 refine (toStringS_any _ _ _ _ _ (h1.below B0 nl) k1).mono ?_
 rintro e w1 ⟨rfl,hb1,ho1⟩
 have B1:=B0.trans (hb1.mono (by simp;omega))
 have r0:=R0.after hb1 nl
 have r1:=R1.after hb1 nl
 have r2:=R2.after hb1 nl
 have z1:=hb1.size
 have s1':=Strs.of_owns ho1 h1.sizes
 have y1:=Wd.of_owns ho1
 have l1:=(ho1.lt _ rfl).2
 simp only [World.size_alloc] at z1 s1' l1 y1
 clear B0 R0 R1 R2 ho1 hb1 Z
 have q0:=r0.cell 4
 have q1:=r2.cell 3
 have q2:=r2.frozen 3
 simp only [List.getElem?_toArray,List.getElem?_cons_succ,List.getElem?_cons_zero] at q0 q1
 go_wp2_with fail
 have B2:=B1.setCell (p:=⟨w.heap.size+1+1,3,none⟩) (by show w.heap.size≤w.heap.size+1+1;omega) (.slice (some ⟨w.heap.size+1+1+1,0,none⟩) nn nn)
 refine (toIntS_any _ _ _ _ _ (h2.below B2 nl) k2).mono ?_
 rintro e w2 ⟨rfl,hb2,ho2⟩
 have r1':=(r1.setFar (p:=⟨w.heap.size+1+1,3,none⟩) (by show w.heap.size+1≠w.heap.size+1+1;omega) (.slice (some ⟨w.heap.size+1+1+1,0,none⟩) nn nn)).after hb2 nl
 have r2':=(r2.set 3 (.slice (some ⟨w.heap.size+1+1+1,0,none⟩) nn nn)).after hb2 nl
 have s1'':=(s1'.setFar (p:=⟨w.heap.size+1+1,3,none⟩) (fun x hx=>by cases hx;show w.heap.size+1+1≠w.heap.size+1+1+1;omega) (.slice (some ⟨w.heap.size+1+1+1,0,none⟩) nn nn)).below hb2 nl
 have s2':=ints_of_row ho2 k2
 have y1':=(y1.setFar (p:=⟨w.heap.size+1+1,3,none⟩) (by show w.heap.size+1+1≠w.heap.size+1+1+1;omega) (.slice (some ⟨w.heap.size+1+1+1,0,none⟩) nn nn)).below hb2 nl
 have y2:=Wd.of_owns ho2
 have B3:=B2.trans (hb2.mono (by simp;omega))
 have z2:=hb2.size
 have l2:=(ho2.lt _ rfl).2
 simp only [World.size_setCell] at z2 s2' l2 y2
 clear r0 r1 r2 s1' y1 q0 q1 q2 B1 B2 hb2 ho2
 have f1:=fun j=>r1'.frozen j
 have f2:=fun j=>r2'.frozen j
 have p0:=r1'.cell 0
 have p1:=r1'.cell 1
 have p2:=r1'.cell 2
 have p3:=r1'.cell 3
 have p4:=r1'.cell 4
 have q0:=r2'.cell 0
 have q1:=r2'.cell 1
 have q2:=r2'.cell 2
 have q3:=r2'.cell 3
 have q4:=r2'.cell 4
 simp at p0 p1 p2 p3 p4 q0 q1 q2 q3 q4
 go_wp2_with fail
 refine bodyPost_ret (v:=.agg #[.int .i64 x.op,.int .i64 x.num,.string x.text,.slice (some ⟨w.heap.size+1+1+1,0,none⟩) nn nn,.slice (some ⟨w1.heap.size,0,none⟩) nk nk]) (by simp [results,Tryz.results50,go_sem,p0,p1,p2,p3,p4]) rfl ⟨_,_,rfl,?_,?_,?_,?_,by show w.heap.size≤w.heap.size+1+1+1;omega,by show w.heap.size≤w1.heap.size;omega,?_⟩
 ·clear p0 p1 p2 p3 p4 q0 q1 q2 q3 q4 f1 f2 r1' r2'
  refine Strs.setFar (Strs.setFar (Strs.setFar (Strs.setFar (Strs.setFar (Strs.setFar s1'' ?_ _) ?_ _) ?_ _) ?_ _) ?_ _) ?_ _
  all_goals (intro x hx;cases hx;dsimp only;omega)
 ·clear p0 p1 p2 p3 p4 q0 q1 q2 q3 q4 f1 f2 r1' r2'
  refine Ints.setFar (Ints.setFar (Ints.setFar (Ints.setFar (Ints.setFar (Ints.setFar s2' ?_ _) ?_ _) ?_ _) ?_ _) ?_ _) ?_ _
  all_goals (intro x hx;cases hx;dsimp only;omega)
 ·clear p0 p1 p2 p3 p4 q0 q1 q2 q3 q4 f1 f2 r1' r2'
  refine Wd.setFar (Wd.setFar (Wd.setFar (Wd.setFar (Wd.setFar (Wd.setFar y1' ?_ _) ?_ _) ?_ _) ?_ _) ?_ _) ?_ _
  all_goals (dsimp only;omega)
 ·clear p0 p1 p2 p3 p4 q0 q1 q2 q3 q4 f1 f2 r1' r2'
  refine Wd.setFar (Wd.setFar (Wd.setFar (Wd.setFar (Wd.setFar (Wd.setFar y2 ?_ _) ?_ _) ?_ _) ?_ _) ?_ _) ?_ _
  all_goals (dsimp only;omega)
 ·clear p0 p1 p2 p3 p4 q0 q1 q2 q3 q4 f1 f2 r1' r2'
  refine Below.setCell (Below.setCell (Below.setCell (Below.setCell (Below.setCell (Below.setCell B3 ?_ _) ?_ _) ?_ _) ?_ _) ?_ _) ?_ _
  all_goals (dsimp only;omega)

end Go.Proofs.YtedlocniojlhfaaGreatDoor

namespace Go.Proofs.YtedlocniojlhfaaGreatDoor
set_option maxRecDepth 100000
set_option maxHeartbeats 1600000
open Go.RowKit
set_option linter.unusedVariables false

theorem infoN:(Tryz.prog.info? 98).map (fun i=>(i.zero,i.size,i.bytes))=some (some (.agg #[.int .i64 0,.int .i64 0,.string ByteArray.empty,.slice none 0 0,.slice none 0 0]),5,80):=by kernel_rfl
theorem infoSt:(Tryz.prog.info? 94).map (fun i=>(i.zero,i.size,i.bytes))=some (some (.agg #[.int .i64 0,.string ByteArray.empty,.int .i64 0,.int .i64 0]),4,40):=by kernel_rfl

theorem row_of_owns {w:World} {base:Nat} {e:TypeId} {size g n c:Nat} {xs:List Value} (h:w.ownsRow base e size (.slice (some ⟨g,0,none⟩) n c) n xs):∃ cur,Row w g cur e∧cur.size=c*size:=by
 rcases h.2 with ⟨hv,_⟩ | ⟨g',cap,cur,hv,h1,h2,h3,h4,h5,h6⟩
 ·cases hv
 ·cases hv;exact ⟨cur,⟨h2⟩,h5⟩

def put5A (cs:Array Value) (p:Nat) (v0 v1 v2 v3 v4:Value):Array Value:=((((cs.setIfInBounds p v0).setIfInBounds (p+1) v1).setIfInBounds (p+2) v2).setIfInBounds (p+3) v3).setIfInBounds (p+4) v4

theorem put5A_size (cs:Array Value) (p:Nat) (v0 v1 v2 v3 v4:Value):(put5A cs p v0 v1 v2 v3 v4).size=cs.size:=by simp [put5A]

theorem put5A_at {cs:Array Value} {p:Nat} (h:p+5≤cs.size) (v0 v1 v2 v3 v4:Value):(put5A cs p v0 v1 v2 v3 v4)[p]?=some v0∧(put5A cs p v0 v1 v2 v3 v4)[p+1]?=some v1∧(put5A cs p v0 v1 v2 v3 v4)[p+2]?=some v2∧(put5A cs p v0 v1 v2 v3 v4)[p+3]?=some v3∧(put5A cs p v0 v1 v2 v3 v4)[p+4]?=some v4:=by
 unfold put5A
 refine ⟨?_,?_,?_,?_,?_⟩ <;> simp [Array.getElem?_setIfInBounds] <;> omega

theorem put5A_ne {cs:Array Value} {p q:Nat} (h:q<p) (v0 v1 v2 v3 v4:Value):(put5A cs p v0 v1 v2 v3 v4)[q]?=cs[q]?:=by
 unfold put5A
 rw [Array.getElem?_setIfInBounds_ne (by omega),Array.getElem?_setIfInBounds_ne (by omega),Array.getElem?_setIfInBounds_ne (by omega),Array.getElem?_setIfInBounds_ne (by omega),Array.getElem?_setIfInBounds_ne (by omega)]

def put5 (W:World) (b p:Nat) (v0 v1 v2 v3 v4:Value):World:=((((W.setCell ⟨b,p,none⟩ v0).setCell ⟨b,p+1,none⟩ v1).setCell ⟨b,p+2,none⟩ v2).setCell ⟨b,p+3,none⟩ v3).setCell ⟨b,p+4,none⟩ v4

theorem put5_row {W:World} {b p:Nat} {cs:Array Value} {t:TypeId} (h:Row W b cs t) (v0 v1 v2 v3 v4:Value):Row (put5 W b p v0 v1 v2 v3 v4) b (put5A cs p v0 v1 v2 v3 v4) t:=((((h.set p v0).set (p+1) v1).set (p+2) v2).set (p+3) v3).set (p+4) v4

theorem put5_below {B:Nat} {w W:World} {b p:Nat} (h:Below B w W) (hb:B≤b) (v0 v1 v2 v3 v4:Value):Below B w (put5 W b p v0 v1 v2 v3 v4) :=
 ((((h.setCell (p:=⟨b,p,none⟩) hb v0).setCell (p:=⟨b,p+1,none⟩) hb v1).setCell (p:=⟨b,p+2,none⟩) hb v2).setCell (p:=⟨b,p+3,none⟩) hb v3).setCell (p:=⟨b,p+4,none⟩) hb v4

theorem Strs.put5 {w:World} {x:Addr} {n c:Nat} {ss:List ByteArray} (h:Strs w (some x) n c ss) {b p:Nat} (hp:b≠x.block) (v0 v1 v2 v3 v4:Value):Strs (put5 w b p v0 v1 v2 v3 v4) (some x) n c ss :=
 ((((h.setFar (p:=⟨b,p,none⟩) (fun y e=>by cases e;exact hp) v0).setFar (p:=⟨b,p+1,none⟩) (fun y e=>by cases e;exact hp) v1).setFar (p:=⟨b,p+2,none⟩) (fun y e=>by cases e;exact hp) v2).setFar (p:=⟨b,p+3,none⟩) (fun y e=>by cases e;exact hp) v3).setFar (p:=⟨b,p+4,none⟩) (fun y e=>by cases e;exact hp) v4

theorem Ints.put5 {w:World} {x:Addr} {n c:Nat} {ss:List Int} (h:Ints w (some x) n c ss) {b p:Nat} (hp:b≠x.block) (v0 v1 v2 v3 v4:Value):Ints (put5 w b p v0 v1 v2 v3 v4) (some x) n c ss :=
 ((((h.setFar (p:=⟨b,p,none⟩) (fun y e=>by cases e;exact hp) v0).setFar (p:=⟨b,p+1,none⟩) (fun y e=>by cases e;exact hp) v1).setFar (p:=⟨b,p+2,none⟩) (fun y e=>by cases e;exact hp) v2).setFar (p:=⟨b,p+3,none⟩) (fun y e=>by cases e;exact hp) v3).setFar (p:=⟨b,p+4,none⟩) (fun y e=>by cases e;exact hp) v4

theorem Wd.put5 {w:World} {x:Addr} {n:Nat} {t:TypeId} (h:Wd w x n t) {b p:Nat} (hp:b≠x.block) (v0 v1 v2 v3 v4:Value):Wd (put5 w b p v0 v1 v2 v3 v4) x n t :=
 ((((h.setFar (p:=⟨b,p,none⟩) hp v0).setFar (p:=⟨b,p+1,none⟩) hp v1).setFar (p:=⟨b,p+2,none⟩) hp v2).setFar (p:=⟨b,p+3,none⟩) hp v3).setFar (p:=⟨b,p+4,none⟩) hp v4

def NdX (w:World) (g:Nat) (cs:Array Value) (o:Nat) (x:Nd):Prop:=∃ x1 nn x2 nk,cs[o]?=some (.int .i64 x.op)∧cs[o+1]?=some (.int .i64 x.num)∧cs[o+2]?=some (.string x.text)∧cs[o+3]?=some (.slice (some x1) nn nn)∧cs[o+4]?=some (.slice (some x2) nk nk)∧Strs w (some x1) nn nn x.names∧Ints w (some x2) nk nk x.kids∧(Wd w x1 nn 9∧Wd w x2 nk 3)∧g<x1.block∧g<x2.block

theorem NdX.step {w w2:World} {g:Nat} {cs:Array Value} {o p:Nat} {x:Nd} (h:NdX w g cs o x) (hb:Below w.heap.size w w2) (hp:o+5≤p) (v0 v1 v2 v3 v4:Value):NdX (put5 w2 g p v0 v1 v2 v3 v4) g (put5A cs p v0 v1 v2 v3 v4) o x:=by
 obtain ⟨x1,nn,x2,nk,c0,c1,c2,c3,c4,hN,hK,hW,g1,g2⟩:=h
 exact ⟨x1,nn,x2,nk,(put5A_ne (by omega) _ _ _ _ _).trans c0,(put5A_ne (by omega) _ _ _ _ _).trans c1,(put5A_ne (by omega) _ _ _ _ _).trans c2,(put5A_ne (by omega) _ _ _ _ _).trans c3,(put5A_ne (by omega) _ _ _ _ _).trans c4,(hN.below hb nl).put5 (by omega) _ _ _ _ _,(hK.below hb nl).put5 (by omega) _ _ _ _ _,⟨(hW.1.below hb nl).put5 (by omega) _ _ _ _ _,(hW.2.below hb nl).put5 (by omega) _ _ _ _ _⟩,g1,g2⟩

theorem NdX.at {w:World} {g:Nat} {cs:Array Value} {o:Nat} {x:Nd} {t:TypeId} (h:NdX w g cs o x) (R:Row w g cs t):NdAt w g o x:=by
 obtain ⟨x1,nn,x2,nk,c0,c1,c2,c3,c4,hN,hK,_,_,_⟩:=h
 exact ⟨_,_,_,_,_,_,(R.cell _).trans c0,(R.cell _).trans c1,(R.cell _).trans c2,(R.cell _).trans c3,(R.cell _).trans c4,hN,hK⟩

def Hi (w:World) (g:Nat) (N:List Nd):Prop:=∃ cs,(Row w g cs 98∧cs.size=N.length*5)∧∀ j,(hj:j<N.length)→NdX w g cs (j*5) N[j]

theorem Hi.nds {w:World} {g n:Nat} {N:List Nd} (h:Hi w g N) (hl:N.length=n) (hsm:n≤1048576) (hs:∀ x∈N,smallNd x):Nds w (some ⟨g,0,none⟩) n n N:=by
 obtain ⟨cs,⟨R,_⟩,hx⟩:=h
 exact ⟨hl,hsm,fun x hx=>(hs x hx).1,fun j hj=>⟨g,0,rfl,R.lt,by rw [Nat.zero_add];exact (hx j hj).at R⟩⟩

theorem Hi.below {w w':World} {B g:Nat} {N:List Nd} (h:Hi w g N) (hb:Below B w w') (hB:w.heap.size≤B):Hi w' g N:=by
 obtain ⟨cs,⟨R,z⟩,hx⟩:=h
 refine ⟨cs,⟨R.after hb hB,z⟩,fun j hj=>?_⟩
 obtain ⟨x1,nn,x2,nk,c0,c1,c2,c3,c4,hN,hK,hW,g1,g2⟩:=hx j hj
 exact ⟨x1,nn,x2,nk,c0,c1,c2,c3,c4,hN.below hb hB,hK.below hb hB,⟨hW.1.below hb hB,hW.2.below hb hB⟩,g1,g2⟩

theorem Hi.setLow {w:World} {g:Nat} {N:List Nd} (h:Hi w g N) {p:Addr} (hp:p.block<g) (u:Value):Hi (w.setCell p u) g N:=by
 obtain ⟨cs,⟨R,z⟩,hx⟩:=h
 refine ⟨cs,⟨R.setFar (by omega) u,z⟩,fun j hj=>?_⟩
 obtain ⟨x1,nn,x2,nk,c0,c1,c2,c3,c4,hN,hK,hW,g1,g2⟩:=hx j hj
 exact ⟨x1,nn,x2,nk,c0,c1,c2,c3,c4,hN.setFar (fun y e=>by cases e;omega) u,hK.setFar (fun y e=>by cases e;omega) u,⟨hW.1.setFar (by omega) u,hW.2.setFar (by omega) u⟩,g1,g2⟩

theorem Sts.setFar {w:World} {g n c:Nat} {L:List St} (h:Sts w (some ⟨g,0,none⟩) n c L) {p:Addr} (hp:p.block≠g) (u:Value):Sts (w.setCell p u) (some ⟨g,0,none⟩) n c L :=
 ⟨h.len,h.small,h.sizes,fun j hj=>by
  obtain ⟨b,off,ha,hl,c0,c1,c2,c3⟩:=h.cells j hj
  cases ha
  have e:∀ o,(w.setCell p u).cell? ⟨g,o,none⟩=w.cell? ⟨g,o,none⟩:=fun o=>World.cell?_of_block (heap_setCell_other w p g u (fun e=>hp e.symm))
  exact ⟨g,0,rfl,by simpa using hl,(e _).trans c0,(e _).trans c1,(e _).trans c2,(e _).trans c3⟩⟩

theorem some_at {cs:Array Value} {p:Nat} (h:p<cs.size):∃ u,cs[p]?=some u:=⟨_,Array.getElem?_eq_getElem h⟩

theorem toNodeS_any (a:Option Addr) (n c:Nat) (N:List Nd) (w:World) (h:NdsR w a n c N) (hsm:n≤1048576) (hs:∀ x∈N,smallNd x) :
  Calls Tryz.prog 24 #[.slice a n c] w fun e w'=>e=.returned (.slice (some ⟨w.heap.size,0,none⟩) n n)∧Below w.heap.size w w'∧Hi w' w.heap.size N:=by
 obtain ⟨i,hi,hz0,hz1,hz2⟩:=info_parts infoN
 have Hl:=hide h.len
 go_enter Tryz.func24,Tryz.ntmps24
 go_wp2_with (at_make;refine wpList_make_full _ rfl _ _ 35 rfl w.heap.size 98 i (.agg #[.int .i64 0,.int .i64 0,.string ByteArray.empty,.slice none 0 0,.slice none 0 0]) 5 Tryz.underlying35 hi hz0 hz1 _ _ _ _ n rfl rfl rfl rfl ?b2 ?b3 ?b4 ?_)
 case b2=>rw [hz2];omega
 case b3=>unfold maxLen;omega
 case b4=>exact nl
 intro w1 hown hgrow
 have hb1:Below w.heap.size w w1:=(Below.refl _ _).grown hgrow nl (fun k hk=>by cases hk)
 clear hgrow
 obtain ⟨cs1,R1,hz⟩:=row_of_owns hown
 have Hs:=hide hs
 clear hown hs
 go_wp2_with fail
 go_loopw [4] (fun i wr=>∃ (k:Nat) (cs:Array Value),k≤n∧i=.int .i64 k∧Row wr w.heap.size cs 98∧cs.size=n*5∧Below w.heap.size w wr∧Hid (∀ j,(hj:j<N.length)→j<k→NdX wr w.heap.size cs (j*5) N[j])) (fun i _=>n - (intOf i).toNat)
 case atStart=>exact ⟨0,cs1,Nat.zero_le _,rfl,R1,hz,hb1,hide (fun j _ h=>absurd h (by omega))⟩
 case round =>
  obtain ⟨k,cs,hk,rfl,R2,hz2,B2,Ha⟩:=hrel
  clear R1 hb1
  by_cases hlt:k<n
  ·have ilt:(k:Int)<(n:Int):=by omega
   have hkl:k<N.length:=by rw [uh Hl];exact hlt
   have hsx:=uh Hs N[k] (List.getElem_mem hkl)
   obtain ⟨b,off,rfl,hbl,an,nn,cn,ak,nk,ck,c0,c1,c2,c3,c4,hN,hK⟩:=(h.below B2 nl).cells k hkl
   have hgl:=R2.lt
   have k1:nn≤1048576:=by rw [hN.len];exact hsx.2.1
   have k2:nk≤1048576:=by rw [← hK.len];exact hsx.2.2.2
   have HY:=hide (fun (w2:World) (hb2:Below wr.heap.size wr w2) (v0 v1 v2 v3 v4:Value) (e:NdX (put5 w2 w.heap.size (k*5) v0 v1 v2 v3 v4) w.heap.size (put5A cs (k*5) v0 v1 v2 v3 v4) (k*5) N[k])=>show ∀ j,(hj:j<N.length)→j<k+1→NdX (put5 w2 w.heap.size (k*5) v0 v1 v2 v3 v4) w.heap.size (put5A cs (k*5) v0 v1 v2 v3 v4) (j*5) N[j] from fun j hj h'=>by
    by_cases ej:j=k
    ·subst ej;exact e
    ·exact (uh Ha j hj (by omega)).step hb2 (by omega) _ _ _ _ _)
   have Hlt:=hide hlt
   have Hh:=hide h
   clear Ha h hsx
   generalize N[k]=x at c0 c1 c2 c3 c4 hN hK HY
   obtain ⟨u0,e0⟩:=some_at (cs:=cs) (p:=k*5) (by omega)
   obtain ⟨u1,e1⟩:=some_at (cs:=cs) (p:=k*5+1) (by omega)
   obtain ⟨u2,e2⟩:=some_at (cs:=cs) (p:=k*5+2) (by omega)
   obtain ⟨u3,e3⟩:=some_at (cs:=cs) (p:=k*5+3) (by omega)
   obtain ⟨u4,e4⟩:=some_at (cs:=cs) (p:=k*5+4) (by omega)
   have HE:=hide (And.intro e0 (And.intro e1 (And.intro e2 (And.intro e3 e4))))
   clear e0 e1 e2 e3 e4
   go_wp2_with (go_at_call 50;refine (toNode_any x an nn cn ak nk ck _ hN hK k1 k2).mono ?_;rintro e w2 ⟨x1,x2,rfl,hN2,hK2,hV2,hW2,g1,g2,hb2⟩;have R3:=R2.after hb2 nl;have f3:=(fun j=>R3.frozen j);have d0:=(R3.cell _).trans (uh HE).1;have d1:=(R3.cell _).trans (uh HE).2.1;have d2:=(R3.cell _).trans (uh HE).2.2.1;have d3:=(R3.cell _).trans (uh HE).2.2.2.1;have d4:=(R3.cell _).trans (uh HE).2.2.2.2)
   obtain ⟨m0,m1,m2,m3,m4⟩:=put5A_at (cs:=cs) (p:=k*5) (by omega) (.int .i64 x.op) (.int .i64 x.num) (.string x.text) (.slice (some x1) nn nn) (.slice (some x2) nk nk)
   have E2:=B2.trans (hb2.mono B2.size)
   refine ⟨⟨k+1,_,uh Hlt,by go_num,put5_row R3 _ _ _ _ _,by rw [put5A_size];exact hz2,put5_below E2 nl _ _ _ _ _,hide (uh HY w2 hb2 _ _ _ _ _ ⟨x1,nn,x2,nk,m0,m1,m2,m3,m4,hN2.put5 (by omega) _ _ _ _ _,hK2.put5 (by omega) _ _ _ _ _,⟨hV2.put5 (by omega) _ _ _ _ _,hW2.put5 (by omega) _ _ _ _ _⟩,by omega,by omega⟩)⟩,by have:=uh Hlt;simp [intOf];omega⟩
  ·have e:k=n:=by omega
   have HX:=hide (show Hi wr w.heap.size N from ⟨cs,⟨R2,by rw [uh Hl];exact hz2⟩,fun j hj=>uh Ha j hj (by have:=uh Hl;omega)⟩)
   clear Ha
   have ilt:¬ ((k:Int)<(n:Int)):=by omega
   go_wp2_with fail
   go_ret
   exact ⟨rfl,B2,uh HX⟩

theorem toStmt_any (s:St) (w:World) :
  Calls Tryz.prog 51 #[.agg #[.int .i64 s.kind,.string s.name,.int .i64 s.cond,.int .i64 s.grant]] w fun e w'=>e=.returned (.agg #[.int .i64 s.kind,.string s.name,.int .i64 s.cond,.int .i64 s.grant])∧Below w.heap.size w w':=by
 go_enter Tryz.func51,Tryz.ntmps51
 go_wp2_with fail
 refine bodyPost_ret (v:=.agg #[.int .i64 s.kind,.string s.name,.int .i64 s.cond,.int .i64 s.grant]) (by simp [results,Tryz.results51,go_sem]) rfl ⟨rfl,?_⟩
 exact (((Below.refl w.heap.size w).alloc nl _).alloc (by simp) _).alloc (by simp;omega) _

def put4A (cs:Array Value) (p:Nat) (v0 v1 v2 v3:Value):Array Value:=(((cs.setIfInBounds p v0).setIfInBounds (p+1) v1).setIfInBounds (p+2) v2).setIfInBounds (p+3) v3

theorem put4A_size (cs:Array Value) (p:Nat) (v0 v1 v2 v3:Value):(put4A cs p v0 v1 v2 v3).size=cs.size:=by simp [put4A]

theorem put4A_at {cs:Array Value} {p:Nat} (h:p+4≤cs.size) (v0 v1 v2 v3:Value):(put4A cs p v0 v1 v2 v3)[p]?=some v0∧(put4A cs p v0 v1 v2 v3)[p+1]?=some v1∧(put4A cs p v0 v1 v2 v3)[p+2]?=some v2∧(put4A cs p v0 v1 v2 v3)[p+3]?=some v3:=by
 unfold put4A
 refine ⟨?_,?_,?_,?_⟩ <;> simp [Array.getElem?_setIfInBounds] <;> omega

theorem put4A_ne {cs:Array Value} {p q:Nat} (h:q<p) (v0 v1 v2 v3:Value):(put4A cs p v0 v1 v2 v3)[q]?=cs[q]?:=by
 unfold put4A
 rw [Array.getElem?_setIfInBounds_ne (by omega),Array.getElem?_setIfInBounds_ne (by omega),Array.getElem?_setIfInBounds_ne (by omega),Array.getElem?_setIfInBounds_ne (by omega)]

def StX (cs:Array Value) (o:Nat) (s:St):Prop:=cs[o]?=some (.int .i64 s.kind)∧cs[o+1]?=some (.string s.name)∧cs[o+2]?=some (.int .i64 s.cond)∧cs[o+3]?=some (.int .i64 s.grant)

theorem StX.step {cs:Array Value} {o p:Nat} {s:St} (h:StX cs o s) (hp:o+4≤p) (v0 v1 v2 v3:Value):StX (put4A cs p v0 v1 v2 v3) o s :=
 ⟨(put4A_ne (by omega) _ _ _ _).trans h.1,(put4A_ne (by omega) _ _ _ _).trans h.2.1,(put4A_ne (by omega) _ _ _ _).trans h.2.2.1,(put4A_ne (by omega) _ _ _ _).trans h.2.2.2⟩

theorem toStmtS_any (a:Option Addr) (n c:Nat) (N:List St) (w:World) (h:StsR w a n c N) (hsm:n≤1048576) (hs:∀ x∈N,x.name.size≤1048576) :
  Calls Tryz.prog 25 #[.slice a n c] w fun e w'=>e=.returned (.slice (some ⟨w.heap.size,0,none⟩) n n)∧Below w.heap.size w w'∧Sts w' (some ⟨w.heap.size,0,none⟩) n n N∧Wd w' ⟨w.heap.size,0,none⟩ (n*4) 94:=by
 obtain ⟨i,hi,hz0,hz1,hz2⟩:=info_parts infoSt
 have Hl:=hide h.len
 go_enter Tryz.func25,Tryz.ntmps25
 go_wp2_with (at_make;refine wpList_make_full _ rfl _ _ 36 rfl w.heap.size 94 i (.agg #[.int .i64 0,.string ByteArray.empty,.int .i64 0,.int .i64 0]) 4 Tryz.underlying36 hi hz0 hz1 _ _ _ _ n rfl rfl rfl rfl ?b2 ?b3 ?b4 ?_)
 case b2=>rw [hz2];omega
 case b3=>unfold maxLen;omega
 case b4=>exact nl
 intro w1 hown hgrow
 have hb1:Below w.heap.size w w1:=(Below.refl _ _).grown hgrow nl (fun k hk=>by cases hk)
 clear hgrow
 obtain ⟨cs1,R1,hz⟩:=row_of_owns hown
 have Hs:=hide hs
 clear hown hs
 go_wp2_with fail
 go_loopw [4] (fun i wr=>∃ (k:Nat) (cs:Array Value),k≤n∧i=.int .i64 k∧Row wr w.heap.size cs 94∧cs.size=n*4∧Below w.heap.size w wr∧Hid (∀ j,(hj:j<N.length)→j<k→StX cs (j*4) N[j])) (fun i _=>n - (intOf i).toNat)
 case atStart=>exact ⟨0,cs1,Nat.zero_le _,rfl,R1,hz,hb1,hide (fun j _ h=>absurd h (by omega))⟩
 case round =>
  obtain ⟨k,cs,hk,rfl,R2,hz2,B2,Ha⟩:=hrel
  clear R1 hb1
  by_cases hlt:k<n
  ·have ilt:(k:Int)<(n:Int):=by omega
   have hkl:k<N.length:=by rw [uh Hl];exact hlt
   obtain ⟨b,off,rfl,hbl,c0,c1,c2,c3⟩:=(h.below B2 nl).cells k hkl
   have hgl:=R2.lt
   have HY:=hide (fun (v0 v1 v2 v3:Value) (e:StX (put4A cs (k*4) v0 v1 v2 v3) (k*4) N[k])=>show ∀ j,(hj:j<N.length)→j<k+1→StX (put4A cs (k*4) v0 v1 v2 v3) (j*4) N[j] from fun j hj h'=>by
    by_cases ej:j=k
    ·subst ej;exact e
    ·exact (uh Ha j hj (by omega)).step (by omega) _ _ _ _)
   have Hlt:=hide hlt
   have Hh:=hide h
   clear Ha h
   generalize N[k]=x at c0 c1 c2 c3 HY
   obtain ⟨u0,e0⟩:=some_at (cs:=cs) (p:=k*4) (by omega)
   obtain ⟨u1,e1⟩:=some_at (cs:=cs) (p:=k*4+1) (by omega)
   obtain ⟨u2,e2⟩:=some_at (cs:=cs) (p:=k*4+2) (by omega)
   obtain ⟨u3,e3⟩:=some_at (cs:=cs) (p:=k*4+3) (by omega)
   have HE:=hide (And.intro e0 (And.intro e1 (And.intro e2 e3)))
   clear e0 e1 e2 e3
   go_wp2_with (go_at_call 51;refine (toStmt_any x _).mono ?_;rintro e w2 ⟨rfl,hb2⟩;have R3:=R2.after hb2 nl;have f3:=(fun j=>R3.frozen j);have d0:=(R3.cell _).trans (uh HE).1;have d1:=(R3.cell _).trans (uh HE).2.1;have d2:=(R3.cell _).trans (uh HE).2.2.1;have d3:=(R3.cell _).trans (uh HE).2.2.2)
   have E2:=B2.trans (hb2.mono B2.size)
   refine ⟨⟨k+1,_,uh Hlt,by go_num,(((R3.set (k*4) _).set (k*4+1) _).set (k*4+2) _).set (k*4+3) _,(put4A_size cs (k*4) _ _ _ _).trans hz2,(((E2.setCell (p:=⟨w.heap.size,k*4,none⟩) nl _).setCell (p:=⟨w.heap.size,k*4+1,none⟩) nl _).setCell (p:=⟨w.heap.size,k*4+2,none⟩) nl _).setCell (p:=⟨w.heap.size,k*4+3,none⟩) nl _,hide (uh HY _ _ _ _ (put4A_at (by omega) _ _ _ _))⟩,by have:=uh Hlt;simp [intOf];omega⟩
  ·have e:k=n:=by omega
   have HX:=hide (show Sts wr (some ⟨w.heap.size,0,none⟩) n n N from ⟨uh Hl,hsm,uh Hs,fun j hj=>by
    have q:=uh Ha j hj (by have:=uh Hl;omega)
    refine ⟨w.heap.size,0,rfl,R2.lt,?_⟩
    rw [Nat.zero_add]
    exact ⟨(R2.cell _).trans q.1,(R2.cell _).trans q.2.1,(R2.cell _).trans q.2.2.1,(R2.cell _).trans q.2.2.2⟩⟩)
   clear Ha
   have ilt:¬ ((k:Int)<(n:Int)):=by omega
   go_wp2_with fail
   go_ret
   exact ⟨rfl,B2,uh HX,_,cs,rfl,R2,hz2⟩

end Go.Proofs.YtedlocniojlhfaaGreatDoor

namespace Go.Proofs.YtedlocniojlhfaaGreatDoor
set_option maxRecDepth 100000
set_option maxHeartbeats 2000000
open Go.RowKit
set_option linter.unusedVariables false

theorem cloneS_any (a:Option Addr) (n c:Nat) (ss:List ByteArray) (w:World) (h:Strs w a n c ss) (hl:ss.length≤1048576) :
  Calls Tryz.prog 85 #[.slice a n c] w fun e w'=>(∃ x cx,e=.returned (.slice x ss.length cx)∧w'.ownsRow w.heap.size 9 1 (.slice x ss.length cx) ss.length (ss.map Value.string))∧Below w.heap.size w w':=by
 obtain ⟨si,hsi,sz0,sz1,sz2⟩:=info_parts infoS
 have hn:=h.len
 cases a with
 | none =>
  have h0:n=0:=by
   rcases Nat.eq_zero_or_pos n with q | q
   ·exact q
   ·obtain ⟨b,off,e,_⟩:=h.cells 0 q;cases e
  subst h0
  obtain rfl:ss=[]:=List.eq_nil_of_length_eq_zero hn.symm
  clear h hl hn
  have q24:∀ (w:World) (a:Option Addr) (n c n' c':Nat),(binOp .eql 146 (.slice a n c) (.slice none n' c')).run Tryz.prog w=.ok (.bool a.isNone) w:=fun w a n c n' c'=>Lib.run_eql_slice_nil w _ _ a n c n' c' Tryz.underlying146
  go_enter Tryz.func85,Tryz.ntmps85
  go_wp2_with fail
  go_ret
  exact ⟨⟨none,0,rfl,World.ownsRow_nil _ _ _ _⟩,Below.refl _ _⟩
 | some ad =>
  have q24:∀ (w:World) (a:Option Addr) (n c n' c':Nat),(binOp .eql 146 (.slice a n c) (.slice none n' c')).run Tryz.prog w=.ok (.bool a.isNone) w:=fun w a n c n' c'=>Lib.run_eql_slice_nil w _ _ a n c n' c' Tryz.underlying146
  have u24:∀ w,Sem.run Tryz.prog (underlying 146) w=.ok (TypeDesc.slice 9) w:=run_underlying Tryz.underlying146
  have HS:=hide h
  have HN:=hide hn
  have hsm:n≤1048576:=by omega
  clear h hn
  go_enter Tryz.func85,Tryz.ntmps85
  go_wp2_with (at_builtin;refine wpList_append_own _ rfl _ _ 146 rfl w.heap.size 9 si (.string ByteArray.empty) 1 16 Tryz.underlying146 hsi sz0 sz1 sz2 rfl (by decide) _ _ _ rfl (World.ownsRow_made w #[] 0 nl (Nat.zero_le _) rfl) ad n c (ss.map Value.string) rfl ?qc1 ?qc2 ?qc3 ?qc4 ?qc5 ?qc6 ?_)
  case qc1=>rw [List.length_map,uh HN];omega
  case qc2 =>
   intro j u hj
   have hjn:j<n:=by
    have:=(List.getElem?_eq_some_iff.1 hj).1
    rw [List.length_map] at this
    rw [uh HN];exact this
   obtain ⟨b,off,e,hb,hc⟩:=(uh HS).cells j hjn
   cases e
   rw [Addr.add_lit]
   refine Lib.cell?_alloc_some _ ?_
   rw [hc,← hj,List.getElem?_map,List.getElem?_eq_getElem (by rw [← uh HN];exact hjn),nth_at (by rw [← uh HN];exact hjn)]
   rfl
  case qc3=>intro u hu;obtain ⟨x,_,rfl⟩:=List.mem_map.1 hu;rfl
  case qc4=>unfold maxLen;omega
  case qc5=>omega
  case qc6=>simp
  intro v' w1 hown hgrow hnil
  have B1:=((Below.refl _ w).alloc nl (.cells #[] 9)).grown hgrow (by simp) (by intro k hk;simp [Value.ownBlock] at hk;omega)
  have hown2:w1.ownsRow w.heap.size 9 1 v' n (ss.map Value.string):=by simpa using hown
  obtain ⟨x,cx,rfl,_⟩:=owns_form2 hown2
  clear hown hnil hgrow
  go_wp2_with fail
  go_ret
  have e:=uh HN
  subst e
  exact ⟨⟨x,cx,rfl,hown2⟩,B1⟩

end Go.Proofs.YtedlocniojlhfaaGreatDoor

namespace Go.Proofs.YtedlocniojlhfaaGreatDoor
set_option maxHeartbeats 800000
open Go.RowKit

def reqB (cl us:ByteArray) (s1 s2:List ByteArray):Bool:=vnB cl && vnB us && setB s1 && setB s2

theorem sValidRequest_any (cl us:ByteArray) (lv nw:Int) (a1:Option Addr) (n1 c1:Nat) (s1:List ByteArray) (a2:Option Addr) (n2 c2:Nat) (s2:List ByteArray) (w:World)
  (hcl:cl.size≤maxLen) (hus:us.size≤maxLen) (h1:Strs w a1 n1 c1 s1) (h2:Strs w a2 n2 c2 s2) :
  Calls Tryz.prog 22 #[.agg #[.string cl,.string us,.int .i64 lv,.int .i64 nw,.slice a1 n1 c1,.slice a2 n2 c2]] w fun e w'=>e=.returned (.bool (reqB cl us s1 s2))∧Below w.heap.size w w':=by
 have b0:Below w.heap.size w (w.alloc (.cells #[.string cl,.string us,.int .i64 lv,.int .i64 nw,.slice a1 n1 c1,.slice a2 n2 c2] 40)):=(Below.refl _ _).alloc nl _
 have g1:=h1.below b0 nl
 have g2:=h2.below b0 nl
 go_enter Tryz.func22,Tryz.ntmps22
 go_wp2_with fail
 refine (sValidName_any _ _ hcl).mono ?_
 rintro e w' ⟨rfl,rfl⟩
 cases v1:vnB cl
 ·go_wp2_with fail
  go_ret
  exact ⟨ret_bool (by simp [reqB,v1]),b0⟩
 ·go_wp2_with fail
  refine (sValidName_any _ _ hus).mono ?_
  rintro e w' ⟨rfl,rfl⟩
  cases v2:vnB us
  ·go_wp2_with fail
   go_ret
   exact ⟨ret_bool (by simp [reqB,v2]),b0⟩
  ·go_wp2_with fail
   refine (sIsSet_any _ _ _ _ _ g1).mono ?_
   rintro e w' ⟨rfl,rfl⟩
   cases v3:setB s1
   ·go_wp2_with fail
    go_ret
    exact ⟨ret_bool (by simp [reqB,v3]),b0⟩
   ·go_wp2_with fail
    refine (sIsSet_any _ _ _ _ _ g2).mono ?_
    rintro e w' ⟨rfl,rfl⟩
    go_wp2_with fail
    go_ret
    exact ⟨ret_bool (by simp [reqB,v1,v2,v3]),b0⟩

theorem iValidRequest_any (cl us:ByteArray) (lv nw:Int) (a1:Option Addr) (n1 c1:Nat) (s1:List ByteArray) (a2:Option Addr) (n2 c2:Nat) (s2:List ByteArray) (w:World)
  (hcl:cl.size≤maxLen) (hus:us.size≤maxLen) (h1:Strs w a1 n1 c1 s1) (h2:Strs w a2 n2 c2 s2) :
  Calls Tryz.prog 29 #[.agg #[.string cl,.string us,.int .i64 lv,.int .i64 nw,.slice a1 n1 c1,.slice a2 n2 c2]] w fun e w'=>e=.returned (.bool (reqB cl us s1 s2))∧Below w.heap.size w w':=by
 have b0:Below w.heap.size w (w.alloc (.cells #[.string cl,.string us,.int .i64 lv,.int .i64 nw,.slice a1 n1 c1,.slice a2 n2 c2] 40)):=(Below.refl _ _).alloc nl _
 have g1:=h1.below b0 nl
 have g2:=h2.below b0 nl
 go_enter Tryz.func29,Tryz.ntmps29
 go_wp2_with fail
 refine (iValidName_any _ _ hcl).mono ?_
 rintro e w' ⟨rfl,rfl⟩
 cases v1:vnB cl
 ·go_wp2_with fail
  go_ret
  exact ⟨ret_bool (by simp [reqB,v1]),b0⟩
 ·go_wp2_with fail
  refine (iValidName_any _ _ hus).mono ?_
  rintro e w' ⟨rfl,rfl⟩
  cases v2:vnB us
  ·go_wp2_with fail
   go_ret
   exact ⟨ret_bool (by simp [reqB,v2]),b0⟩
  ·go_wp2_with fail
   refine (iIsSet_any _ _ _ _ _ g1).mono ?_
   rintro e w1 ⟨rfl,hb1⟩
   cases v3:setB s1
   ·go_wp2_with fail
    go_ret
    exact ⟨ret_bool (by simp [reqB,v3]),b0.trans (hb1.mono (by simp))⟩
   ·obtain ⟨hc,hf⟩:=bcell hb1
    have g2':=g2.below hb1 nl
    go_wp2_with fail
    refine (iIsSet_any _ _ _ _ _ g2').mono ?_
    rintro e w2 ⟨rfl,hb2⟩
    go_wp2_with fail
    go_ret
    have z1:=hb1.size
    simp at z1
    exact ⟨ret_bool (by simp [reqB,v1,v2,v3]),(b0.trans (hb1.mono (by simp))).trans (hb2.mono (by omega))⟩

end Go.Proofs.YtedlocniojlhfaaGreatDoor

namespace Go.Proofs.YtedlocniojlhfaaGreatDoor
set_option maxHeartbeats 1600000
open Go.RowKit

theorem szRequest_any (cl us:ByteArray) (lv nw:Int) (a1:Option Addr) (n1 c1:Nat) (s1:List ByteArray) (a2:Option Addr) (n2 c2:Nat) (s2:List ByteArray) (L:Int) (w:World)
  (hcl:cl.size≤maxLen) (hus:us.size≤maxLen) (h1:Strs w a1 n1 c1 s1) (h2:Strs w a2 n2 c2 s2) (hL:0≤L) (hL':L≤1048576) :
  Calls Tryz.prog 5 #[.agg #[.string cl,.string us,.int .i64 lv,.int .i64 nw,.slice a1 n1 c1,.slice a2 n2 c2],.int .i64 L] w fun e w'=>(∃ r:Int,e=.returned (.int .i64 r)∧(r=-1∨0≤r∧n1≤1048576∧n2≤1048576))∧Below w.heap.size w w':=by
 unfold maxLen at hcl hus
 have b0:Below w.heap.size w (w.alloc (.cells #[.string cl,.string us,.int .i64 lv,.int .i64 nw,.slice a1 n1 c1,.slice a2 n2 c2] 29)):=(Below.refl _ _).alloc nl _
 have g1:=h1.below b0 nl
 have g2:=h2.below b0 nl
 by_cases e1:L - cl.size<0
 ·go_enter Tryz.func5,Tryz.ntmps5
  go_wp2_with fail
  go_ret
  exact ⟨⟨_,rfl,.inl rfl⟩,b0⟩
 ·have e1':0≤L - cl.size:=by omega
  by_cases e2:L - cl.size - us.size<0
  ·go_enter Tryz.func5,Tryz.ntmps5
   go_wp2_with fail
   go_ret
   exact ⟨⟨_,rfl,.inl rfl⟩,b0⟩
  ·have e2':0≤L - cl.size - us.size:=by omega
   go_enter Tryz.func5,Tryz.ntmps5
   go_wp2_with fail
   refine (szStringS_any _ _ _ _ _ _ g1 (by omega) (by omega)).mono ?_
   rintro e w' ⟨⟨r,rfl,hr⟩,rfl⟩
   by_cases e3:r<0
   ·go_wp2_with fail
    go_ret
    exact ⟨⟨_,rfl,.inl rfl⟩,b0⟩
   ·have e3':0≤r:=by omega
    have hr1:n1≤1048576∧r≤1048576:=by rcases hr with hr | ⟨_,hr⟩ <;> omega
    clear hr
    go_wp2_with fail
    refine (szStringS_any _ _ _ _ _ _ g2 (by omega) (by omega)).mono ?_
    rintro e w' ⟨⟨r2,rfl,hr⟩,rfl⟩
    by_cases e4:r2<0
    ·go_wp2_with fail
     go_ret
     exact ⟨⟨_,rfl,.inl rfl⟩,b0⟩
    ·have e4':0≤r2:=by omega
     have hr2:n2≤1048576:=by rcases hr with hr | ⟨_,hr⟩ <;> omega
     clear hr
     go_wp2_with fail
     go_ret
     exact ⟨⟨_,rfl,.inr ⟨e4',hr1.1,hr2⟩⟩,b0⟩

theorem toRequest_any (cl us:ByteArray) (lv nw:Int) (a1:Option Addr) (n1 c1:Nat) (s1:List ByteArray) (a2:Option Addr) (n2 c2:Nat) (s2:List ByteArray) (w:World)
  (h1:Strs w a1 n1 c1 s1) (h2:Strs w a2 n2 c2 s2) (k1:n1≤1048576) (k2:n2≤1048576) :
  Calls Tryz.prog 8 #[.agg #[.string cl,.string us,.int .i64 lv,.int .i64 nw,.slice a1 n1 c1,.slice a2 n2 c2]] w fun e w' =>
   ∃ x1 x2,e=.returned (.agg #[.string cl,.string us,.int .i64 lv,.int .i64 nw,.slice (some x1) n1 n1,.slice (some x2) n2 n2])∧Strs w' (some x1) n1 n1 s1∧Strs w' (some x2) n2 n2 s2∧Below w.heap.size w w'∧Wd w' x1 n1 9∧Wd w' x2 n2 9∧w.heap.size≤x1.block∧w.heap.size≤x2.block:=by
 go_enter Tryz.func8,Tryz.ntmps8
 go_wp2_with fail
 have B0:=((((Below.refl w.heap.size w).alloc nl (.cells #[.string cl,.string us,.int .i64 lv,.int .i64 nw,.slice a1 n1 c1,.slice a2 n2 c2] 29)).alloc (by simp) (.cells #[.string ⟨#[]⟩,.string ⟨#[]⟩,.int .i64 0,.int .i64 0,.slice none 0 0,.slice none 0 0] 40)).alloc (by simp;omega) (.cells #[.string cl,.string us,.int .i64 lv,.int .i64 nw,.slice none 0 0,.slice none 0 0] 40))
 have R0:=((Row.new w #[.string cl,.string us,.int .i64 lv,.int .i64 nw,.slice a1 n1 c1,.slice a2 n2 c2] 29).alloc (.cells #[.string ⟨#[]⟩,.string ⟨#[]⟩,.int .i64 0,.int .i64 0,.slice none 0 0,.slice none 0 0] 40)).alloc (.cells #[.string cl,.string us,.int .i64 lv,.int .i64 nw,.slice none 0 0,.slice none 0 0] 40)
 have R1:=(Row.new (w.alloc (.cells #[.string cl,.string us,.int .i64 lv,.int .i64 nw,.slice a1 n1 c1,.slice a2 n2 c2] 29)) #[.string ⟨#[]⟩,.string ⟨#[]⟩,.int .i64 0,.int .i64 0,.slice none 0 0,.slice none 0 0] 40).alloc (.cells #[.string cl,.string us,.int .i64 lv,.int .i64 nw,.slice none 0 0,.slice none 0 0] 40)
 have R2:=Row.new ((w.alloc (.cells #[.string cl,.string us,.int .i64 lv,.int .i64 nw,.slice a1 n1 c1,.slice a2 n2 c2] 29)).alloc (.cells #[.string ⟨#[]⟩,.string ⟨#[]⟩,.int .i64 0,.int .i64 0,.slice none 0 0,.slice none 0 0] 40)) #[.string cl,.string us,.int .i64 lv,.int .i64 nw,.slice none 0 0,.slice none 0 0] 40
 simp only [World.size_alloc] at R1 R2
 have Z:=R2.lt
 refine (toStringS_any _ _ _ _ _ (h1.below B0 nl) k1).mono ?_
 rintro e w1 ⟨rfl,hb1,ho1⟩
 have B1:=B0.trans (hb1.mono (by simp;omega))
 have r0:=R0.after hb1 nl
 have r1:=R1.after hb1 nl
 have r2:=R2.after hb1 nl
 have z1:=hb1.size
 have s1':=Strs.of_owns ho1 h1.sizes
 have y1:=Wd.of_owns ho1
 simp only [World.size_alloc] at z1 s1' y1
 clear B0 R0 R1 R2 ho1 hb1 Z
 have q0:=r0.cell 5
 have q1:=r2.cell 4
 have q2:=r2.frozen 4
 simp only [List.getElem?_toArray,List.getElem?_cons_succ,List.getElem?_cons_zero] at q0 q1
 go_wp2_with fail
 have B2:=B1.setCell (p:=⟨w.heap.size+1+1,4,none⟩) (by show w.heap.size≤w.heap.size+1+1;omega) (.slice (some ⟨w.heap.size+1+1+1,0,none⟩) n1 n1)
 refine (toStringS_any _ _ _ _ _ (h2.below B2 nl) k2).mono ?_
 rintro e w2 ⟨rfl,hb2,ho2⟩
 have r1':=(r1.setFar (p:=⟨w.heap.size+1+1,4,none⟩) (by show w.heap.size+1≠w.heap.size+1+1;omega) (.slice (some ⟨w.heap.size+1+1+1,0,none⟩) n1 n1)).after hb2 nl
 have r2':=(r2.set 4 (.slice (some ⟨w.heap.size+1+1+1,0,none⟩) n1 n1)).after hb2 nl
 have s1'':=(s1'.setFar (p:=⟨w.heap.size+1+1,4,none⟩) (fun x hx=>by cases hx;show w.heap.size+1+1≠w.heap.size+1+1+1;omega) (.slice (some ⟨w.heap.size+1+1+1,0,none⟩) n1 n1)).below hb2 nl
 have y1':=(y1.setFar (p:=⟨w.heap.size+1+1,4,none⟩) (by show w.heap.size+1+1≠w.heap.size+1+1+1;omega) (.slice (some ⟨w.heap.size+1+1+1,0,none⟩) n1 n1)).below hb2 nl
 have s2':=Strs.of_owns ho2 h2.sizes
 have y2:=Wd.of_owns ho2
 have B3:=B2.trans (hb2.mono (by simp;omega))
 have z2:=hb2.size
 simp only [World.size_setCell] at z2 s2' y2
 clear y1 r0 r1 r2 s1' q0 q1 q2 B1 B2 hb2 ho2
 have f1:=fun j=>r1'.frozen j
 have f2:=fun j=>r2'.frozen j
 have p0:=r1'.cell 0
 have p1:=r1'.cell 1
 have p2:=r1'.cell 2
 have p3:=r1'.cell 3
 have p4:=r1'.cell 4
 have p5:=r1'.cell 5
 have q0:=r2'.cell 0
 have q1:=r2'.cell 1
 have q2:=r2'.cell 2
 have q3:=r2'.cell 3
 have q4:=r2'.cell 4
 have q5:=r2'.cell 5
 simp at p0 p1 p2 p3 p4 p5 q0 q1 q2 q3 q4 q5
 go_wp2_with fail
 refine bodyPost_ret (v:=.agg #[.string cl,.string us,.int .i64 lv,.int .i64 nw,.slice (some ⟨w.heap.size+1+1+1,0,none⟩) n1 n1,.slice (some ⟨w1.heap.size,0,none⟩) n2 n2]) (by simp [results,Tryz.results8,go_sem,p0,p1,p2,p3,p4,p5]) rfl ⟨_,_,rfl,?_,?_,?_,?_,?_,by show w.heap.size≤w.heap.size+1+1+1;omega,by show w.heap.size≤w1.heap.size;omega⟩
 ·clear p0 p1 p2 p3 p4 p5 q0 q1 q2 q3 q4 q5 f1 f2 r1' r2'
  refine Strs.setFar (Strs.setFar (Strs.setFar (Strs.setFar (Strs.setFar (Strs.setFar (Strs.setFar s1'' ?_ _) ?_ _) ?_ _) ?_ _) ?_ _) ?_ _) ?_ _
  all_goals (intro x hx;cases hx;dsimp only;omega)
 ·clear p0 p1 p2 p3 p4 p5 q0 q1 q2 q3 q4 q5 f1 f2 r1' r2'
  refine Strs.setFar (Strs.setFar (Strs.setFar (Strs.setFar (Strs.setFar (Strs.setFar (Strs.setFar s2' ?_ _) ?_ _) ?_ _) ?_ _) ?_ _) ?_ _) ?_ _
  all_goals (intro x hx;cases hx;dsimp only;omega)
 ·clear p0 p1 p2 p3 p4 p5 q0 q1 q2 q3 q4 q5 f1 f2 r1' r2'
  refine Below.setCell (Below.setCell (Below.setCell (Below.setCell (Below.setCell (Below.setCell (Below.setCell B3 ?_ _) ?_ _) ?_ _) ?_ _) ?_ _) ?_ _) ?_ _
  all_goals (dsimp only;omega)
 ·clear p0 p1 p2 p3 p4 p5 q0 q1 q2 q3 q4 q5 f1 f2 r1' r2'
  refine Wd.setFar (Wd.setFar (Wd.setFar (Wd.setFar (Wd.setFar (Wd.setFar (Wd.setFar y1' ?_ _) ?_ _) ?_ _) ?_ _) ?_ _) ?_ _) ?_ _
  all_goals (dsimp only;omega)
 ·clear p0 p1 p2 p3 p4 p5 q0 q1 q2 q3 q4 q5 f1 f2 r1' r2'
  refine Wd.setFar (Wd.setFar (Wd.setFar (Wd.setFar (Wd.setFar (Wd.setFar (Wd.setFar y2 ?_ _) ?_ _) ?_ _) ?_ _) ?_ _) ?_ _) ?_ _
  all_goals (dsimp only;omega)

theorem eqRequest_same (cl us:ByteArray) (lv nw:Int) (a1:Option Addr) (n1 c1:Nat) (s1:List ByteArray) (a2:Option Addr) (n2 c2:Nat) (s2:List ByteArray) (a1':Option Addr) (c1':Nat) (a2':Option Addr) (c2':Nat) (w:World)
  (h1:Strs w a1 n1 c1 s1) (h2:Strs w a2 n2 c2 s2) (h1':Strs w a1' n1 c1' s1) (h2':Strs w a2' n2 c2' s2) :
  Calls Tryz.prog 12 #[.agg #[.string cl,.string us,.int .i64 lv,.int .i64 nw,.slice a1 n1 c1,.slice a2 n2 c2],.agg #[.string cl,.string us,.int .i64 lv,.int .i64 nw,.slice a1' n1 c1',.slice a2' n2 c2']] w fun e w'=>e=.returned (.bool true)∧Below w.heap.size w w':=by
 have B0:=((Below.refl w.heap.size w).alloc nl (.cells #[.string cl,.string us,.int .i64 lv,.int .i64 nw,.slice a1 n1 c1,.slice a2 n2 c2] 40)).alloc (by simp) (.cells #[.string cl,.string us,.int .i64 lv,.int .i64 nw,.slice a1' n1 c1',.slice a2' n2 c2'] 40)
 have R0:=(Row.new w #[.string cl,.string us,.int .i64 lv,.int .i64 nw,.slice a1 n1 c1,.slice a2 n2 c2] 40).alloc (.cells #[.string cl,.string us,.int .i64 lv,.int .i64 nw,.slice a1' n1 c1',.slice a2' n2 c2'] 40)
 have R1:=Row.new (w.alloc (.cells #[.string cl,.string us,.int .i64 lv,.int .i64 nw,.slice a1 n1 c1,.slice a2 n2 c2] 40)) #[.string cl,.string us,.int .i64 lv,.int .i64 nw,.slice a1' n1 c1',.slice a2' n2 c2'] 40
 simp only [World.size_alloc] at R1
 go_enter Tryz.func12,Tryz.ntmps12
 go_wp2_with fail
 refine (eqStringS_same _ _ _ _ _ _ _ (h1.below B0 nl) (h1'.below B0 nl)).mono ?_
 rintro e w1 ⟨rfl,hb1⟩
 have B1:=B0.trans (hb1.mono (by simp;omega))
 have q0:=(R0.after hb1 nl).cell 5
 have q1:=(R1.after hb1 nl).cell 5
 have z1:=hb1.size
 simp at q0 q1 z1
 clear R0 R1 B0 hb1
 go_wp2_with fail
 refine (eqStringS_same _ _ _ _ _ _ _ (h2.below B1 nl) (h2'.below B1 nl)).mono ?_
 rintro e w2 ⟨rfl,hb2⟩
 go_wp2_with fail
 go_ret
 exact ⟨rfl,B1.trans (hb2.mono (by omega))⟩

end Go.Proofs.YtedlocniojlhfaaGreatDoor

namespace Go.Proofs.YtedlocniojlhfaaGreatDoor
set_option maxRecDepth 100000
set_option maxHeartbeats 1600000
open Go.RowKit
set_option linter.unusedVariables false

theorem eqIntS_same (a a':Option Addr) (n c c':Nat) (L:List Int) (w:World) (h:Ints w a n c L) (h':Ints w a' n c' L) :
  Calls Tryz.prog 37 #[.slice a n c,.slice a' n c'] w fun e w'=>e=.returned (.bool true)∧Below w.heap.size w w':=by
 have hn:=h.small
 have Hl:=hide h.len
 go_enter Tryz.func37,Tryz.ntmps37
 go_wp2
 go_loopw [5] (fun i wr=>∃ k:Nat,k≤n∧i=.int .i64 k∧Below w.heap.size w wr) (fun i _=>n - (intOf i).toNat)
 case atStart=>exact ⟨0,Nat.zero_le _,rfl,Below.refl _ _⟩
 case round =>
  obtain ⟨k,hk,rfl,hb⟩:=hrel
  by_cases hlt:k<n
  ·have hkl:k<L.length:=by rw [uh Hl];exact hlt
   obtain ⟨b,off,rfl,_,hc⟩:=(h.below hb nl).cells k hkl
   obtain ⟨b',off',rfl,_,hc'⟩:=(h'.below hb nl).cells k hkl
   have i3:(k:Int)<(n:Int):=by omega
   generalize L[k]=x at hc hc'
   go_wp2
   go_quiet (fail)
   go_wp2
   go_roundw
   case rel=>exact ⟨k+1,by omega,by go_num,hb.trans ((below_drewM wr _).mono hb.size)⟩
   case measure=>simp [intOf];omega
  ·go_wp2
   go_ret
   exact ⟨rfl,hb⟩

theorem eqNode_same (x:Nd) (an an':Option Addr) (nn cn cn':Nat) (ak ak':Option Addr) (nk ck ck':Nat) (w:World)
  (h1:Strs w an nn cn x.names) (h1':Strs w an' nn cn' x.names) (h2:Ints w ak nk ck x.kids) (h2':Ints w ak' nk ck' x.kids) :
  Calls Tryz.prog 63 #[.agg #[.int .i64 x.op,.int .i64 x.num,.string x.text,.slice an nn cn,.slice ak nk ck],.agg #[.int .i64 x.op,.int .i64 x.num,.string x.text,.slice an' nn cn',.slice ak' nk ck']] w fun e w'=>e=.returned (.bool true)∧Below w.heap.size w w':=by
 have B0:=((Below.refl w.heap.size w).alloc nl (.cells #[.int .i64 x.op,.int .i64 x.num,.string x.text,.slice an nn cn,.slice ak nk ck] 98)).alloc (by simp) (.cells #[.int .i64 x.op,.int .i64 x.num,.string x.text,.slice an' nn cn',.slice ak' nk ck'] 98)
 have R0:=(Row.new w #[.int .i64 x.op,.int .i64 x.num,.string x.text,.slice an nn cn,.slice ak nk ck] 98).alloc (.cells #[.int .i64 x.op,.int .i64 x.num,.string x.text,.slice an' nn cn',.slice ak' nk ck'] 98)
 have R1:=Row.new (w.alloc (.cells #[.int .i64 x.op,.int .i64 x.num,.string x.text,.slice an nn cn,.slice ak nk ck] 98)) #[.int .i64 x.op,.int .i64 x.num,.string x.text,.slice an' nn cn',.slice ak' nk ck'] 98
 simp only [World.size_alloc] at R1
 go_enter Tryz.func63,Tryz.ntmps63
 go_wp2_with fail
 refine (eqStringS_same _ _ _ _ _ _ _ (h1.below B0 nl) (h1'.below B0 nl)).mono ?_
 rintro e w1 ⟨rfl,hb1⟩
 have B1:=B0.trans (hb1.mono (by simp;omega))
 have q0:=(R0.after hb1 nl).cell 4
 have q1:=(R1.after hb1 nl).cell 4
 have z1:=hb1.size
 simp at q0 q1 z1
 clear R0 R1 B0 hb1
 go_wp2_with fail
 refine (eqIntS_same _ _ _ _ _ _ _ (h2.below B1 nl) (h2'.below B1 nl)).mono ?_
 rintro e w2 ⟨rfl,hb2⟩
 go_wp2_with fail
 go_ret
 exact ⟨rfl,B1.trans (hb2.mono (by omega))⟩

theorem eqNodeS_same (a a':Option Addr) (n c c':Nat) (N:List Nd) (w:World) (h:Nds w a n c N) (h':Nds w a' n c' N) :
  Calls Tryz.prog 35 #[.slice a n c,.slice a' n c'] w fun e w'=>e=.returned (.bool true)∧Below w.heap.size w w':=by
 have hn:=h.small
 have Hl:=hide h.len
 go_enter Tryz.func35,Tryz.ntmps35
 go_wp2_with fail
 go_loopw [5] (fun i wr=>∃ k:Nat,k≤n∧i=.int .i64 k∧Below w.heap.size w wr) (fun i _=>n - (intOf i).toNat)
 case atStart=>exact ⟨0,Nat.zero_le _,rfl,Below.refl _ _⟩
 case round =>
  obtain ⟨k,hk,rfl,hb⟩:=hrel
  by_cases hlt:k<n
  ·have hkl:k<N.length:=by rw [uh Hl];exact hlt
   obtain ⟨b,off,rfl,hbl,an,nn,cn,ak,nk,ck,c0,c1,c2,c3,c4,hN,hK⟩:=(h.below hb nl).cells k hkl
   obtain ⟨b',off',rfl,hbl',an',nn',cn',ak',nk',ck',d0,d1,d2,d3,d4,hN',hK'⟩:=(h'.below hb nl).cells k hkl
   have i3:(k:Int)<(n:Int):=by omega
   generalize N[k]=x at c0 c1 c2 c3 c4 hN hK d0 d1 d2 d3 d4 hN' hK'
   obtain rfl:nn=nn':=by rw [hN.len,hN'.len]
   obtain rfl:nk=nk':=by rw [← hK.len,← hK'.len]
   have Hlt:=hide hlt
   clear hlt h h'
   go_wp2_with fail
   have D1:Below wr.heap.size wr wr.drew:=(Below.refl _ _).drew
   have q1:wr.drew.cell? ⟨b,off+k*5,none⟩=some (.int .i64 x.op)∧wr.drew.cell? ⟨b,off+k*5+1,none⟩=some (.int .i64 x.num)∧wr.drew.cell? ⟨b,off+k*5+2,none⟩=some (.string x.text)∧wr.drew.cell? ⟨b,off+k*5+3,none⟩=some (.slice an nn cn)∧wr.drew.cell? ⟨b,off+k*5+4,none⟩=some (.slice ak nk ck)∧wr.drew.cell? ⟨b',off'+k*5,none⟩=some (.int .i64 x.op)∧wr.drew.cell? ⟨b',off'+k*5+1,none⟩=some (.int .i64 x.num)∧wr.drew.cell? ⟨b',off'+k*5+2,none⟩=some (.string x.text)∧wr.drew.cell? ⟨b',off'+k*5+3,none⟩=some (.slice an' nn cn')∧wr.drew.cell? ⟨b',off'+k*5+4,none⟩=some (.slice ak' nk ck'):=⟨c0,c1,c2,c3,c4,d0,d1,d2,d3,d4⟩
   go_region_held3 (fun w'=>w'.cell? ⟨b,off+k*5,none⟩=some (.int .i64 x.op)∧w'.cell? ⟨b,off+k*5+1,none⟩=some (.int .i64 x.num)∧w'.cell? ⟨b,off+k*5+2,none⟩=some (.string x.text)∧w'.cell? ⟨b,off+k*5+3,none⟩=some (.slice an nn cn)∧w'.cell? ⟨b,off+k*5+4,none⟩=some (.slice ak nk ck)∧w'.cell? ⟨b',off'+k*5,none⟩=some (.int .i64 x.op)∧w'.cell? ⟨b',off'+k*5+1,none⟩=some (.int .i64 x.num)∧w'.cell? ⟨b',off'+k*5+2,none⟩=some (.string x.text)∧w'.cell? ⟨b',off'+k*5+3,none⟩=some (.slice an' nn cn')∧w'.cell? ⟨b',off'+k*5+4,none⟩=some (.slice ak' nk ck')) (first | assumption | go_keep)
    (first
     | (go_at_call 63;refine (eqNode_same x _ _ _ _ _ _ _ _ _ _ _ (hN.below D1 nl) (hN'.below D1 nl) (hK.below D1 nl) (hK'.below D1 nl)).mono ?_;rintro e w2 ⟨rfl,hb2⟩;have E2:=D1.trans (hb2.mono D1.size);obtain ⟨ec,_⟩:=bcell E2;have q2:w2.cell? ⟨b,off+k*5,none⟩=some (.int .i64 x.op)∧w2.cell? ⟨b,off+k*5+1,none⟩=some (.int .i64 x.num)∧w2.cell? ⟨b,off+k*5+2,none⟩=some (.string x.text)∧w2.cell? ⟨b,off+k*5+3,none⟩=some (.slice an nn cn)∧w2.cell? ⟨b,off+k*5+4,none⟩=some (.slice ak nk ck)∧w2.cell? ⟨b',off'+k*5,none⟩=some (.int .i64 x.op)∧w2.cell? ⟨b',off'+k*5+1,none⟩=some (.int .i64 x.num)∧w2.cell? ⟨b',off'+k*5+2,none⟩=some (.string x.text)∧w2.cell? ⟨b',off'+k*5+3,none⟩=some (.slice an' nn cn')∧w2.cell? ⟨b',off'+k*5+4,none⟩=some (.slice ak' nk ck'):=⟨(ec _ _ hbl).trans c0,(ec _ _ hbl).trans c1,(ec _ _ hbl).trans c2,(ec _ _ hbl).trans c3,(ec _ _ hbl).trans c4,(ec _ _ hbl').trans d0,(ec _ _ hbl').trans d1,(ec _ _ hbl').trans d2,(ec _ _ hbl').trans d3,(ec _ _ hbl').trans d4⟩))
   go_wp2_with fail
   go_roundw
   case rel=>exact ⟨k+1,uh Hlt,by go_num,hb.trans (E2.mono hb.size)⟩
   case measure=>have:=uh Hlt;simp [intOf];omega
  ·have i3:¬ ((k:Int)<(n:Int)):=by omega
   go_wp2_with fail
   go_ret
   exact ⟨rfl,hb⟩

theorem eqStmt_same (s:St) (w:World) :
  Calls Tryz.prog 64 #[.agg #[.int .i64 s.kind,.string s.name,.int .i64 s.cond,.int .i64 s.grant],.agg #[.int .i64 s.kind,.string s.name,.int .i64 s.cond,.int .i64 s.grant]] w fun e w'=>e=.returned (.bool true)∧Below w.heap.size w w':=by
 go_enter Tryz.func64,Tryz.ntmps64
 go_wp2
 go_ret
 exact ⟨rfl,((Below.refl w.heap.size w).alloc nl _).alloc (by simp) _⟩

theorem eqStmtS_same (a a':Option Addr) (n c c':Nat) (N:List St) (w:World) (h:Sts w a n c N) (h':Sts w a' n c' N) :
  Calls Tryz.prog 36 #[.slice a n c,.slice a' n c'] w fun e w'=>e=.returned (.bool true)∧Below w.heap.size w w':=by
 have hn:=h.small
 have Hl:=hide h.len
 go_enter Tryz.func36,Tryz.ntmps36
 go_wp2_with fail
 go_loopw [5] (fun i wr=>∃ k:Nat,k≤n∧i=.int .i64 k∧Below w.heap.size w wr) (fun i _=>n - (intOf i).toNat)
 case atStart=>exact ⟨0,Nat.zero_le _,rfl,Below.refl _ _⟩
 case round =>
  obtain ⟨k,hk,rfl,hb⟩:=hrel
  by_cases hlt:k<n
  ·have hkl:k<N.length:=by rw [uh Hl];exact hlt
   obtain ⟨b,off,rfl,hbl,c0,c1,c2,c3⟩:=(h.below hb nl).cells k hkl
   obtain ⟨b',off',rfl,hbl',d0,d1,d2,d3⟩:=(h'.below hb nl).cells k hkl
   have i3:(k:Int)<(n:Int):=by omega
   generalize N[k]=x at c0 c1 c2 c3 d0 d1 d2 d3
   have Hlt:=hide hlt
   clear hlt h h'
   go_wp2_with fail
   have D1:Below wr.heap.size wr wr.drew:=(Below.refl _ _).drew
   have q1:wr.drew.cell? ⟨b,off+k*4,none⟩=some (.int .i64 x.kind)∧wr.drew.cell? ⟨b,off+k*4+1,none⟩=some (.string x.name)∧wr.drew.cell? ⟨b,off+k*4+2,none⟩=some (.int .i64 x.cond)∧wr.drew.cell? ⟨b,off+k*4+3,none⟩=some (.int .i64 x.grant)∧wr.drew.cell? ⟨b',off'+k*4,none⟩=some (.int .i64 x.kind)∧wr.drew.cell? ⟨b',off'+k*4+1,none⟩=some (.string x.name)∧wr.drew.cell? ⟨b',off'+k*4+2,none⟩=some (.int .i64 x.cond)∧wr.drew.cell? ⟨b',off'+k*4+3,none⟩=some (.int .i64 x.grant):=⟨c0,c1,c2,c3,d0,d1,d2,d3⟩
   go_region_held3 (fun w'=>w'.cell? ⟨b,off+k*4,none⟩=some (.int .i64 x.kind)∧w'.cell? ⟨b,off+k*4+1,none⟩=some (.string x.name)∧w'.cell? ⟨b,off+k*4+2,none⟩=some (.int .i64 x.cond)∧w'.cell? ⟨b,off+k*4+3,none⟩=some (.int .i64 x.grant)∧w'.cell? ⟨b',off'+k*4,none⟩=some (.int .i64 x.kind)∧w'.cell? ⟨b',off'+k*4+1,none⟩=some (.string x.name)∧w'.cell? ⟨b',off'+k*4+2,none⟩=some (.int .i64 x.cond)∧w'.cell? ⟨b',off'+k*4+3,none⟩=some (.int .i64 x.grant)) (first | assumption | go_keep)
    (first
     | (go_at_call 64;refine (eqStmt_same x _).mono ?_;rintro e w2 ⟨rfl,hb2⟩;have E2:=D1.trans (hb2.mono D1.size);obtain ⟨ec,_⟩:=bcell E2;have q2:w2.cell? ⟨b,off+k*4,none⟩=some (.int .i64 x.kind)∧w2.cell? ⟨b,off+k*4+1,none⟩=some (.string x.name)∧w2.cell? ⟨b,off+k*4+2,none⟩=some (.int .i64 x.cond)∧w2.cell? ⟨b,off+k*4+3,none⟩=some (.int .i64 x.grant)∧w2.cell? ⟨b',off'+k*4,none⟩=some (.int .i64 x.kind)∧w2.cell? ⟨b',off'+k*4+1,none⟩=some (.string x.name)∧w2.cell? ⟨b',off'+k*4+2,none⟩=some (.int .i64 x.cond)∧w2.cell? ⟨b',off'+k*4+3,none⟩=some (.int .i64 x.grant):=⟨(ec _ _ hbl).trans c0,(ec _ _ hbl).trans c1,(ec _ _ hbl).trans c2,(ec _ _ hbl).trans c3,(ec _ _ hbl').trans d0,(ec _ _ hbl').trans d1,(ec _ _ hbl').trans d2,(ec _ _ hbl').trans d3⟩))
   go_wp2_with fail
   go_roundw
   case rel=>exact ⟨k+1,uh Hlt,by go_num,hb.trans (E2.mono hb.size)⟩
   case measure=>have:=uh Hlt;simp [intOf];omega
  ·have i3:¬ ((k:Int)<(n:Int)):=by omega
   go_wp2_with fail
   go_ret
   exact ⟨rfl,hb⟩

end Go.Proofs.YtedlocniojlhfaaGreatDoor

namespace Go.Proofs.YtedlocniojlhfaaGreatDoor
open Go.ChangeShapes Go.WideShapes Go.RowKit

theorem lt_of_cell {w:World} {p:Addr} {v:Value} (h:w.cell? p=some v):p.block<w.heap.size:=by
 by_cases hb:p.block<w.heap.size
 ·exact hb
 ·have:w.heap[p.block]?=none:=Array.getElem?_eq_none (by omega)
  simp [World.cell?,this] at h

theorem Strs.of_trod {H:Type} {enc:TypeId × Value→H} {P:Program} {w:World} {held:Bool} {t e:TypeId} {fuel:Nat} {x:DataW H × List MemPlace} {a:Option Addr} {n c:Nat}
  (ht:P.underlying t=some (.slice e)) (he:P.underlying e=some .string) (hc:P.cellsOf e=1)
  (h:DataW.trod enc P w 0 (fun _=>true) held fuel t [.slice a n c]=some x):∃ ss,Strs w a n c ss:=by
 rcases open_strings ht he hc h with ⟨hcs,_⟩ | ⟨ad,len,cap,ss,hcs,_,hl,hm,hz,_,hcell,hws⟩
 ·simp only [List.cons.injEq,Value.slice.injEq,and_true] at hcs
  obtain ⟨rfl,rfl,rfl⟩:=hcs
  exact ⟨[],rfl,nl,Nat.zero_le _,fun j hj=>by omega,fun j hj=>by omega⟩
 ·simp only [List.cons.injEq,Value.slice.injEq,and_true] at hcs
  obtain ⟨rfl,rfl,rfl⟩:=hcs
  simp only [if_true] at hz
  have hlen:(ss.take n).length=n:=by simp;omega
  have hnth:∀ j,j<n→nth (ss.take n) j=ss.getD j ByteArray.empty:=fun j hj=>by
   rw [nth_eq _ j (by omega),List.getElem_take]
   simp [List.getD,show j<ss.length from by omega]
  refine ⟨ss.take n,hlen.symm,hl,hm,fun j hj=>?_,fun j hj=>?_⟩
  ·rw [hnth j hj]
   apply hws
   simp [List.getD,show j<ss.length from by omega]
  ·have hcj:=hcell j (by omega)
   have hs:=World.cell?_spot (hcell 0 (by omega))
   obtain ⟨b,off,spot⟩:=ad
   simp only [Addr.add,if_true] at hs
   subst hs
   have hadd:(⟨b,off,none⟩:Addr).add j=⟨b,off+j,none⟩:=by
    by_cases e:j=0 <;> simp [Addr.add,e]
   rw [hadd] at hcj
   refine ⟨b,off,rfl,?_,?_⟩
   ·exact lt_of_cell hcj
   ·rw [hnth j hj,← hcj]

end Go.Proofs.YtedlocniojlhfaaGreatDoor
