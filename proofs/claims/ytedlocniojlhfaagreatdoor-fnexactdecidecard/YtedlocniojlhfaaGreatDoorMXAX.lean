/-
  DWG, DWH, DWI, DWJ, DWK. Own work.
-/
import Derived.Test.YtedlocniojlhfaaGreatDoorMXAV
import Derived.Test.YtedlocniojlhfaaGreatDoorDWC
import Derived.Test.YtedlocniojlhfaaGreatDoorDWD
import Derived.Test.YtedlocniojlhfaaGreatDoorMXAW
import Derived.Test.YtedlocniojlhfaaGreatDoorMXAJ
import Derived.Test.YtedlocniojlhfaaGreatDoorMXAF
import Derived.Test.YtedlocniojlhfaaGreatDoorMXAG
namespace Go.Proofs.YtedlocniojlhfaaGreatDoor
open Go.RowKit
set_option linter.unusedVariables false

def LetO (w:World) (B:Nat) (la:Option Addr) (lc:Nat) (ls:List Vv) (xs:List Value):Prop :=
 w.ownsRow B 96 4 (.slice la ls.length lc) ls.length xs∧∀ j,(h:j<ls.length)→∃ num text av nv cv,xs[j*4]?=some (.int .i64 0)∧xs[j*4+1]?=some (.int .i64 num)∧xs[j*4+2]?=some (.string text)∧xs[j*4+3]?=some (.slice av nv cv)∧MVs w num text av nv cv ls[j]

theorem LetO.letm {w:World} {B:Nat} {la:Option Addr} {lc:Nat} {ls:List Vv} {xs:List Value} (h:LetO w B la lc ls xs) (hl:ls.length≤1048576):LetM w la ls.length lc ls:=by
 refine ⟨rfl,hl,fun j hj=>?_⟩
 obtain ⟨x,c,e,hx⟩:=owns_form2 h.1
 simp only [Value.slice.injEq] at e
 obtain ⟨rfl,_,rfl⟩:=e
 obtain ⟨g,rfl,_,hc⟩:=hx (by omega)
 obtain ⟨num,text,av,nv,cv,e0,e1,e2,e3,hv⟩:=h.2 j hj
 refine ⟨g,0,num,text,av,nv,cv,rfl,(h.1.lt g rfl).2,?_,?_,?_,?_,hv⟩
 ·rw [Nat.zero_add];exact hc _ _ e0
 ·rw [Nat.zero_add];exact hc _ _ e1
 ·rw [Nat.zero_add];exact hc _ _ e2
 ·rw [Nat.zero_add];exact hc _ _ e3

theorem LetO.below {w w':World} {B:Nat} {la:Option Addr} {lc:Nat} {ls:List Vv} {xs:List Value} (h:LetO w B la lc ls xs) (hb:Below w.heap.size w w'):LetO w' B la lc ls xs:=by
 refine ⟨own_aft h.1 hb,fun j hj=>?_⟩
 obtain ⟨num,text,av,nv,cv,e0,e1,e2,e3,hv⟩:=h.2 j hj
 exact ⟨num,text,av,nv,cv,e0,e1,e2,e3,hv.below hb nl⟩

theorem MVs.grown {w w':World} {row:Option Nat} {num:Int} {text:ByteArray} {a:Option Addr} {n c:Nat} {v:Vv} (h:MVs w num text a n c v) (hg:w.grownBy w' row) (hr:∀ b cs,Row w b cs 9→some b≠row):MVs w' num text a n c v:=by
 cases v with
 | bool b=>exact h
 | int k=>exact h
 | text s=>exact h
 | set ss =>
  obtain ⟨h1,h2,hS,hl,hz⟩:=h
  refine ⟨h1,h2,⟨hS.len,hS.cap,hS.small,hS.sizes,fun j hj=>?_⟩,hl,hz.1,fun ad e=>?_⟩
  ·obtain ⟨b,off,ha,hlt,hc⟩:=hS.cells j hj
   obtain ⟨cs,r⟩:=hz.2 _ ha
   exact ⟨b,off,ha,Nat.lt_of_lt_of_le hlt hg.size,hg.cell hc (hr _ _ r)⟩
  ·obtain ⟨cs,r⟩:=hz.2 ad e
   exact ⟨cs,r.grown hg (hr _ _ r)⟩

theorem LetO.push {w w2 w7:World} {B:Nat} {la:Option Addr} {lc:Nat} {ls:List Vv} {xs:List Value} (h:LetO w B la lc ls xs) (hb:Below w.heap.size w w2) {num:Int} {text:ByteArray} {av:Option Addr} {nv cv:Nat} {v:Vv} (hv:MVs w2 num text av nv cv v) {g7 cap7:Nat} (O7:w7.ownsRow B 96 4 (.slice (some ⟨g7,0,none⟩) (ls.length+1) cap7) (ls.length+1) (xs++[.int .i64 0,.int .i64 num,.string text,.slice av nv cv])) (hg:w2.grownBy w7 (Value.slice la ls.length lc).ownBlock) :
  LetO w7 B (some ⟨g7,0,none⟩) cap7 (ls++[v]) (xs++[.int .i64 0,.int .i64 num,.string text,.slice av nv cv]):=by
 have h2:=h.below hb
 have hr:∀ b cs,Row w2 b cs 9→some b≠(Value.slice la ls.length lc).ownBlock:=fun b cs r e=>own_ne_row r h2.1 (by decide) e.symm
 have hl:(ls++[v]).length=ls.length+1:=by simp
 have hx:=h.1.1
 refine ⟨by rw [hl];exact O7,fun j hj=>?_⟩
 by_cases hj2:j<ls.length
 ·obtain ⟨num',text',av',nv',cv',e0,e1,e2,e3,hv'⟩:=h2.2 j hj2
  refine ⟨num',text',av',nv',cv',?_,?_,?_,?_,?_⟩
  ·rw [List.getElem?_append_left (by omega)];exact e0
  ·rw [List.getElem?_append_left (by omega)];exact e1
  ·rw [List.getElem?_append_left (by omega)];exact e2
  ·rw [List.getElem?_append_left (by omega)];exact e3
  ·rw [List.getElem_append_left hj2];exact hv'.grown hg hr
 ·have ej:j=ls.length:=by omega
  subst ej
  refine ⟨num,text,av,nv,cv,?_,?_,?_,?_,?_⟩
  ·rw [List.getElem?_append_right (by omega),hx,Nat.sub_self];rfl
  ·rw [List.getElem?_append_right (by omega),hx,Nat.add_sub_cancel_left];rfl
  ·rw [List.getElem?_append_right (by omega),hx,Nat.add_sub_cancel_left];rfl
  ·rw [List.getElem?_append_right (by omega),hx,Nat.add_sub_cancel_left];rfl
  ·rw [List.getElem_append_right nl]
   simp only [Nat.sub_self,List.getElem_cons_zero]
   exact hv.grown hg hr

end Go.Proofs.YtedlocniojlhfaaGreatDoor

namespace Go.Proofs.YtedlocniojlhfaaGreatDoor
set_option maxHeartbeats 3200000
open Go.RowKit
set_option linter.unusedVariables false

theorem l3decide_any {N:List Nd} {R:Rq} (P:EvP N R) {L:List St} {Es:List Ex} (hEl:Es.length=N.length) (hE:∀ j,(h:j<Es.length)→IsT N j Es[j]) (W:WellPT N L) {stF:CkS} (hck:ckAll Es (attN,[],[]) L=some stF) (hlast:∃ j,∃ h:j<L.length,L[j].cond=-1)
  (a:Option Addr) (n c:Nat) (b:Option Addr) (m d:Nat) (e:Option Addr) (k2 f:Nat) (a1:Option Addr) (n1 c1:Nat) (a2:Option Addr) (n2 c2:Nat) (w0:World) (B:Nat) (hB0:w0.heap.size≤B) (hM:EvS w0 a n c N R a1 n1 c1 a2 n2 c2) (hS:Sts w0 b m d L) :
  ∀ (z k:Nat),z+k=m→(∀ j,(h:j<L.length)→j<k→L[j].cond≠-1)→∀ (ls:List Vv) (la:Option Addr) (lc:Nat) (xs:List Value) (w:World),(∃ ns tt,ckAll Es (attN,[],[]) (L.take k)=some (ns,ls.map Vv.ty,tt))→ls.length≤k→LetO w B la lc ls xs→Below B w0 w→B≤w.heap.size →
  Calls Tryz.prog 23 #[.agg #[.slice a n c,.slice b m d,.slice e k2 f],.int .i64 k,.agg #[.string R.cl,.string R.us,.int .i64 R.lv,.int .i64 R.nw,.slice a1 n1 c1,.slice a2 n2 c2],.slice la ls.length lc] w (OcG B (Value.slice la ls.length lc).ownBlock (outOf (decL R Es ls (L.drop k))) w)
 | 0,k,hz,hall,ls,la,lc,xs,w,_,_,_,_,_=>by
  obtain ⟨j,hj,hc⟩:=hlast
  exact absurd hc (hall j hj (by have:=hS.len;omega))
 | z+1,k,hz,hall,ls,la,lc,xs,w,hcka,hlsk,hL,hw,hBw=>by
  have ih:=l3decide_any P hEl hE W hck hlast a n c b m d e k2 f a1 n1 c1 a2 n2 c2 w0 B hB0 hM hS z (k+1) (by omega)
  have hkl:k<L.length:=by have:=hS.len;omega
  have hkm:k<m:=by omega
  have hl6:L.length≤600:=W.m
  obtain ⟨bb,off,rfl,hlt,s0,s1,s2,s3⟩:=(hS.below hw hB0).cells k hkl
  obtain ⟨ns,tt,hcka⟩:=hcka
  obtain ⟨st2,st3,hc2,hg2,hck3⟩:=ck_at hck hkl hcka
  have hg2l:=(ckGrant_len hg2).2
  have hmem:=List.getElem_mem hkl
  have hst:=W.stm _ hmem
  obtain ⟨r1,r2⟩:=W.roots _ hmem
  have hd:L.drop k=L[k]::L.drop (k+1):=(List.getElem_cons_drop hkl).symm
  rw [hd]
  have hall2:L[k].cond≠-1→∀ j,(h:j<L.length)→j<k+1→L[j].cond≠-1:=fun h0 j hj h1=>by
   by_cases ej:j=k
   ·subst ej;exact h0
   ·exact hall j hj (by omega)
  generalize L[k]=s at *
  have EV:∀ (i:Nat) (t:Int) (x:Ex),Es[i]?=some x→tyE (ls.map Vv.ty) x=some t→∀ w2,Below w.heap.size w w2→Calls Tryz.prog 49 #[.slice a n c,.int .i64 i,.agg #[.string R.cl,.string R.us,.int .i64 R.lv,.int .i64 R.nw,.slice a1 n1 c1,.slice a2 n2 c2],.slice la ls.length lc] w2 (MAns (evE R ls x) w2):=fun i t x hx ht w2 hb2=>by
   obtain ⟨hi,hxe⟩:=List.getElem?_eq_some_iff.1 hx
   have:=hE i hi
   rw [hxe] at this
   exact l3eval_any P this _ t ht ls rfl a n c a1 n1 c1 a2 n2 c2 la _ lc w2 (hM.below (hw.trans (hb2.mono hBw)) hB0) ((hL.below hb2).letm (by omega))
  have rootAt:∀ g:Int,(0≤g∧g<(N.length:Int))→∃ (i:Nat) (x:Ex),g=i∧Es[i]?=some x:=fun g hg=>⟨g.toNat,Es[g.toNat]'(by omega),by omega,List.getElem?_eq_getElem _⟩
  rcases hst with ⟨hk,hnm,hc0,hgr⟩ | ⟨hk,hc0⟩ | ⟨hk,hc0⟩
  ·obtain ⟨i,x,hi,hx⟩:=rootAt s.cond (r1.resolve_left (by omega))
   obtain ⟨t,ht,hs2⟩:=cond_let hc2 hi hx hk
   rw [decL_let hi hx hk]
   have ev:=EV i t x hx ht
   rw [hk] at s0
   rw [hi] at s2
   cases hv:evE R ls x with
   | err cc =>
    rw [hv] at ev
    exact dec_err a n c bb off m d e k2 f k hkm hS.small R a1 n1 c1 a2 n2 c2 la _ lc w hlt s.name 1 s.grant (by decide) i B _ s0 s1 s2 s3 cc ev
   | ok v =>
    rw [hv] at ev
    have hty:(ls++[v]).map Vv.ty=ls.map Vv.ty++[t]:=by rw [List.map_append,← evE_ty rfl x t ht v hv];rfl
    exact dec_let a n c bb off m d e k2 f k hkm hS.small R a1 n1 c1 a2 n2 c2 la _ lc w hlt s.name s.grant i B s0 s1 s2 s3 xs hL.1 hBw (by omega) (outOf (decL R Es (ls++[v]) (L.drop (k+1)))).1 (outOf (decL R Es (ls++[v]) (L.drop (k+1)))).2.1 (outOf (decL R Es (ls++[v]) (L.drop (k+1)))).2.2 v ev (fun w2 num text av nv cv hb2 hv2 g7 cap7 w7 O7 hg7 hat=>by
     have LO:=hL.push hb2 hv2 O7 hg7
     have hb7:Below B w0 w7:=(hw.trans (hb2.mono hBw)).grown hg7 (Nat.le_trans hBw hb2.size) (fun q hq=>(hL.1.lt q hq).1)
     have:=ih (hall2 (by omega)) (ls++[v]) (some ⟨g7,0,none⟩) cap7 _ w7 ⟨st3.1,st3.2.2,by rw [hck3,hty];exact congrArg some (Prod.ext rfl (Prod.ext (hg2l.trans hs2) rfl))⟩ (by rw [List.length_append];simp;omega) LO hb7 (Nat.le_trans hBw (Nat.le_trans hb2.size hg7.size))
     rw [List.length_append] at this
     exact this)
  ·obtain ⟨i,x,hi,hx⟩:=rootAt s.cond (r1.resolve_left (by omega))
   obtain ⟨ht,hs2⟩:=cond_when hc2 hi hx (by omega)
   rw [decL_when hi hx (by omega)]
   have ev:=EV i 1 x hx ht
   rw [hk] at s0
   rw [hi] at s2
   cases hv:evE R ls x with
   | err cc =>
    rw [hv] at ev
    exact dec_err a n c bb off m d e k2 f k hkm hS.small R a1 n1 c1 a2 n2 c2 la _ lc w hlt s.name 2 s.grant (by decide) i B _ s0 s1 s2 s3 cc ev
   | ok v =>
    rw [hv] at ev
    obtain ⟨bv,rfl⟩:=Vv.bool_of (evE_ty rfl x 1 ht v hv)
    cases bv with
    | false =>
     exact dec_when_no a n c bb off m d e k2 f k hkm hS.small R a1 n1 c1 a2 n2 c2 la _ lc w hlt s.name s.grant i B s0 s1 s2 s3 (fun q hq=>(hL.1.lt q hq).2) (outOf (decL R Es ls (L.drop (k+1)))).1 (outOf (decL R Es ls (L.drop (k+1)))).2.1 (outOf (decL R Es ls (L.drop (k+1)))).2.2 ev (fun w2 hb2=>ih (hall2 (by omega)) ls la lc xs w2 ⟨st3.1,st3.2.2,by rw [hck3];exact congrArg some (Prod.ext rfl (Prod.ext (hg2l.trans hs2) rfl))⟩ (by omega) (hL.below hb2) (hw.trans (hb2.mono hBw)) (Nat.le_trans hBw hb2.size))
    | true =>
     show Calls _ _ _ _ (OcG B _ (outOf (decG R ls Es s.grant)) w)
     rcases r2 with hg | hg
     ·rw [decG_none hg]
      rw [hg] at s3
      exact dec_deny_when a n c bb off m d e k2 f k hkm hS.small R a1 n1 c1 a2 n2 c2 la _ lc w hlt s.name B _ i s0 s1 s2 s3 ev
     ·obtain ⟨j,y,hj,hy⟩:=rootAt s.grant hg
      have hty:=grant_ty hg2 hj hy
      rw [hs2] at hty
      have ev2:=EV j 4 y hy hty
      rw [decG_tree hj hy]
      rw [hj] at s3
      cases hv2:evE R ls y with
      | err cc =>
       rw [hv2] at ev2
       exact dec_gerr_when a n c bb off m d e k2 f k hkm hS.small R a1 n1 c1 a2 n2 c2 la _ lc w hlt s.name B _ j i s0 s1 s2 s3 cc ev2 ev
      | ok u =>
       rw [hv2] at ev2
       obtain ⟨ss,rfl⟩:=Vv.set_of (evE_ty rfl y 4 hty u hv2)
       exact dec_gok_when a n c bb off m d e k2 f k hkm hS.small R a1 n1 c1 a2 n2 c2 la _ lc w hlt s.name B _ j i s0 s1 s2 s3 hBw ss ev2 ev
  ·rw [decL_none hc0]
   have hs2:=cond_none hc2 hc0
   rw [hk] at s0
   rcases r2 with hg | hg
   ·rw [decG_none hg]
    rw [hg] at s3
    exact dec_deny_else a n c bb off m d e k2 f k hkm hS.small R a1 n1 c1 a2 n2 c2 la _ lc w hlt s.name s.cond B _ s0 s1 s2 s3
   ·obtain ⟨j,y,hj,hy⟩:=rootAt s.grant hg
    have hty:=grant_ty hg2 hj hy
    rw [hs2] at hty
    have ev2:=EV j 4 y hy hty
    rw [decG_tree hj hy]
    rw [hj] at s3
    cases hv2:evE R ls y with
    | err cc =>
     rw [hv2] at ev2
     exact dec_gerr_else a n c bb off m d e k2 f k hkm hS.small R a1 n1 c1 a2 n2 c2 la _ lc w hlt s.name s.cond B _ j s0 s1 s2 s3 cc ev2
    | ok u =>
     rw [hv2] at ev2
     obtain ⟨ss,rfl⟩:=Vv.set_of (evE_ty rfl y 4 hty u hv2)
     exact dec_gok_else a n c bb off m d e k2 f k hkm hS.small R a1 n1 c1 a2 n2 c2 la _ lc w hlt s.name s.cond B _ j s0 s1 s2 s3 hBw ss ev2

end Go.Proofs.YtedlocniojlhfaaGreatDoor

namespace Go.Proofs.YtedlocniojlhfaaGreatDoor
set_option maxRecDepth 100000
set_option maxHeartbeats 6400000
open Go.RowKit
set_option linter.unusedVariables false

theorem below_of_grown {w w':World} (h:w.grownBy w' none):Below w.heap.size w w':=⟨h.os,h.tape,h.output,h.size,fun k hk=>h.block k hk (by simp)⟩

theorem sDecide_any (a b e:Option Addr) (n c m d k f:Nat) (N:List Nd) (L:List St) (T:List Int) (R:Rq) (a1:Option Addr) (n1 c1:Nat) (a2:Option Addr) (n2 c2:Nat) (w:World) (h1:Nds w a n c N) (h2:Sts w b m d L) (h3:Ints w e k f T) (hnf:NmF w a N)
  (hq1:Strs w a1 n1 c1 R.s1) (hq2:Strs w a2 n2 c2 R.s2) (hz1:ZS w a1 c1) (hz2:ZS w a2 c2) (hl1:R.s1.length≤1048576) (hl2:R.s2.length≤1048576) (hcl:R.cl.size≤maxLen) (hus:R.us.size≤maxLen) (hlv:I64 R.lv) (hnw:I64 R.nw) (hsm:∀ x∈N,x.names.length≤1048576∧I64 x.num) :
  Calls Tryz.prog 6 #[.agg #[.slice a n c,.slice b m d,.slice e k f],.agg #[.string R.cl,.string R.us,.int .i64 R.lv,.int .i64 R.nw,.slice a1 n1 c1,.slice a2 n2 c2]] w fun r w'=>∃ o,IsDc N L T R o∧OcAns w.heap.size o w r w'∧o.2.2.length≤1048576∧∀ j,j<o.2.2.length→(nth o.2.2 j).size≤maxLen:=by
 have B0:=(Below.refl w.heap.size w).alloc nl (.cells #[.slice a n c,.slice b m d,.slice e k f] 38)
 have B1:=B0.alloc B0.size (.cells #[.string R.cl,.string R.us,.int .i64 R.lv,.int .i64 R.nw,.slice a1 n1 c1,.slice a2 n2 c2] 40)
 have B2:=B1.alloc B1.size (.cells #[.int .i64 0,.int .i64 0,.slice none 0 0] 33)
 have RT:=((Row.new w #[.slice a n c,.slice b m d,.slice e k f] 38).alloc (.cells #[.string R.cl,.string R.us,.int .i64 R.lv,.int .i64 R.nw,.slice a1 n1 c1,.slice a2 n2 c2] 40)).alloc (.cells #[.int .i64 0,.int .i64 0,.slice none 0 0] 33)
 have RR:=(Row.new (w.alloc (.cells #[.slice a n c,.slice b m d,.slice e k f] 38)) #[.string R.cl,.string R.us,.int .i64 R.lv,.int .i64 R.nw,.slice a1 n1 c1,.slice a2 n2 c2] 40).alloc (.cells #[.int .i64 0,.int .i64 0,.slice none 0 0] 33)
 have RO:=Row.new ((w.alloc (.cells #[.slice a n c,.slice b m d,.slice e k f] 38)).alloc (.cells #[.string R.cl,.string R.us,.int .i64 R.lv,.int .i64 R.nw,.slice a1 n1 c1,.slice a2 n2 c2] 40)) #[.int .i64 0,.int .i64 0,.slice none 0 0] 33
 simp only [World.size_alloc] at RR RO
 go_enter Tryz.func6,Tryz.ntmps6
 go_wp2_with fail
 refine (sWellTyped_any a b e n c m d k f N L T _ (h1.below B2 nl) (h2.below B2 nl) (h3.below B2 nl)).mono ?_
 rintro r w1 ⟨⟨v,rfl,hv⟩,hb1⟩
 have RT1:=RT.after hb1 nl
 have RR1:=RR.after hb1 nl
 have RO1:=RO.after hb1 nl
 have B3:=B2.trans (hb1.mono B2.size)
 have HI:=hide (And.intro h1 (And.intro h2 (And.intro hnf (And.intro hz1 hz2))))
 have HJ:=hide (And.intro hq1 hq2)
 have HP:=hide (And.intro hsm (And.intro hlv (And.intro hnw (And.intro hl1 hl2))))
 clear B0 B1 B2 RT RR RO hb1 h1 h2 h3 hnf hz1 hz2 hq1 hq2 hsm hlv hnw hl1 hl2
 cases v with
 | false =>
  have HX:=hide (show IsDc N L T R (4,0,[]) from .inl ⟨false,hv,rfl,rfl⟩)
  clear hv
  obtain ⟨p0,p1,p2⟩:=rowT3 (((RO1.set 0 (.int .i64 4)).set 1 (.int .i64 0)).set 2 (.slice none 0 0))
  obtain ⟨o0,o1,o2⟩:=rowT3 RO1
  have of:=fun j=>RO1.frozen j
  have HBE:=hide (((B3.setCell (p:=⟨w.heap.size+1+1,0,none⟩) (by simp;omega) (.int .i64 4)).setCell (p:=⟨w.heap.size+1+1,1,none⟩) (by simp;omega) (.int .i64 0)).setCell (p:=⟨w.heap.size+1+1,2,none⟩) (by simp;omega) (.slice none 0 0))
  clear B3 RO1
  dsimp only
  go_wp2_with fail
  exact bodyPost_ret (v:=.agg #[.int .i64 4,.int .i64 0,.slice none 0 0]) (by simp [results,Tryz.results6,go_sem,p0,p1,p2]) rfl ⟨(4,0,[]),uh HX,⟨⟨none,0,rfl,World.ownsRow_nil _ _ _ _⟩,uh HBE⟩,Nat.zero_le _,fun j h=>absurd h (Nat.not_lt_zero _)⟩
 | true =>
  have HV:=hide hv
  obtain ⟨m0,m1,m2⟩:=rowT3 RT1
  obtain ⟨r0,r1,r2,r3,r4,r5⟩:=row6D RR1
  clear hv
  dsimp only
  go_wp2_with fail
  refine (sValidRequest_any R.cl R.us R.lv R.nw a1 n1 c1 R.s1 a2 n2 c2 R.s2 _ hcl hus ((uh HJ).1.below B3 nl) ((uh HJ).2.below B3 nl)).mono ?_
  rintro r w2 ⟨rfl,hb2⟩
  have HRQ:=hide (show reqB R.cl R.us R.s1 R.s2=reqB R.cl R.us R.s1 R.s2 from rfl)
  have RT2:=RT1.after hb2 nl
  have RR2:=RR1.after hb2 nl
  have RO2:=RO1.after hb2 nl
  have B4:=B3.trans (hb2.mono B3.size)
  clear B3 RT1 RR1 RO1 hb2 m0 m1 m2 r0 r1 r2 r3 r4 r5
  generalize hq:reqB R.cl R.us R.s1 R.s2=q at HRQ ⊢
  have HQ:=hide hq
  clear hq HRQ
  cases q with
  | false =>
   have HX:=hide (show IsDc N L T R (4,0,[]) from .inl ⟨true,uh HV,by rw [uh HQ];rfl,rfl⟩)
   obtain ⟨p0,p1,p2⟩:=rowT3 (((RO2.set 0 (.int .i64 4)).set 1 (.int .i64 0)).set 2 (.slice none 0 0))
   obtain ⟨o0,o1,o2⟩:=rowT3 RO2
   have of:=fun j=>RO2.frozen j
   have HBE:=hide (((B4.setCell (p:=⟨w.heap.size+1+1,0,none⟩) (by simp;omega) (.int .i64 4)).setCell (p:=⟨w.heap.size+1+1,1,none⟩) (by simp;omega) (.int .i64 0)).setCell (p:=⟨w.heap.size+1+1,2,none⟩) (by simp;omega) (.slice none 0 0))
   clear B4 RO2
   dsimp only
   go_wp2_with fail
   exact bodyPost_ret (v:=.agg #[.int .i64 4,.int .i64 0,.slice none 0 0]) (by simp [results,Tryz.results6,go_sem,p0,p1,p2]) rfl ⟨(4,0,[]),uh HX,⟨⟨none,0,rfl,World.ownsRow_nil _ _ _ _⟩,uh HBE⟩,Nat.zero_le _,fun j h=>absurd h (Nat.not_lt_zero _)⟩
  | true =>
   obtain ⟨hwell,Es,hEl,hE,hck⟩:=(uh HV).resolve_left (fun h=>by cases h.2)
   obtain ⟨st,hst⟩:∃ st,ckAll Es (attN,[],[]) L=some st:=by
    cases hq:ckAll Es (attN,[],[]) L with
    | none=>rw [hq] at hck;cases hck
    | some st=>exact ⟨st,rfl⟩
   have W:=wellPT_of hwell
   have hfu:=List.all_eq_true.1 (allU_of hwell hEl hE hst)
   obtain ⟨i1,i2,i3,i4,i5⟩:=uh HI
   obtain ⟨e1,e2,e3,e4,e5⟩:=uh HP
   have M2:EvS w2 a n c N R a1 n1 c1 a2 n2 c2:=⟨i1.below B4 nl,i3.below i1 B4 nl,(uh HJ).1.below B4 nl,(uh HJ).2.below B4 nl,i4.below B4 nl,i5.below B4 nl⟩
   have HC:Hid (Calls Tryz.prog 23 #[.agg #[.slice a n c,.slice b m d,.slice e k f],.int .i64 0,.agg #[.string R.cl,.string R.us,.int .i64 R.lv,.int .i64 R.nw,.slice a1 n1 c1,.slice a2 n2 c2],.slice none 0 0] w2 (OcG w2.heap.size none (outOf (decL R Es [] L)) w2)):=hide (l3decide_any ⟨e4,e5,e2,e3,e1,hfu⟩ hEl hE W hst (last_else (wellT_stm hwell) W.m0) a n c b m d e k f a1 n1 c1 a2 n2 c2 w2 w2.heap.size nl M2 (i2.below B4 nl) m 0 rfl (fun j _ h=>absurd h (by omega)) [] none 0 [] w2 ⟨attN,[],rfl⟩ nl ⟨World.ownsRow_nil _ _ _ _,fun j h=>absurd h (by simp)⟩ (Below.refl _ _) nl)
   have HX:=hide (show IsDc N L T R (outOf (decL R Es [] L)) from .inr ⟨uh HV,uh HQ,Es,hEl,hE,rfl⟩)
   clear hwell hEl hE hck hst W hfu i1 i2 i3 i4 i5 e1 e2 e3 e4 e5 M2 HI HJ HP HV HQ
   generalize outOf (decL R Es [] L)=o at HC HX
   obtain ⟨q1,q2,ss⟩:=o
   obtain ⟨m0,m1,m2⟩:=rowT3 RT2
   obtain ⟨r0,r1,r2,r3,r4,r5⟩:=row6D RR2
   dsimp only
   go_wp2_with fail
   refine (uh HC).mono ?_
   rintro r w3 ⟨⟨x,cx,rfl,OO⟩,hg3,hsz⟩
   have HSZ:=hide hsz
   clear hsz
   have hb3:=below_of_grown hg3
   have RO3:=RO2.after hb3 nl
   have B5:=B4.trans (hb3.mono B4.size)
   have OL:=hide (show w.heap.size≤w2.heap.size from B4.size)
   obtain ⟨o0,o1,o2⟩:=rowT3 RO3
   have of:=fun j=>RO3.frozen j
   obtain ⟨p0,p1,p2⟩:=rowT3 (((RO3.set 0 (.int .i64 q1)).set 1 (.int .i64 q2)).set 2 (.slice x ss.length cx))
   have HBE:=hide (((B5.setCell (p:=⟨w.heap.size+1+1,0,none⟩) (by simp;omega) (.int .i64 q1)).setCell (p:=⟨w.heap.size+1+1,1,none⟩) (by simp;omega) (.int .i64 q2)).setCell (p:=⟨w.heap.size+1+1,2,none⟩) (by simp;omega) (.slice x ss.length cx))
   have ne:∀ q,(Value.slice x ss.length cx).ownBlock=some q→q≠w.heap.size+1+1:=fun q hq h=>own_ne_row RO3 OO (by decide) (by rw [hq,h])
   have OE:=hide (own_set3 (own_set3 (own_set3 OO ⟨w.heap.size+1+1,0,none⟩ (.int .i64 q1) ne) ⟨w.heap.size+1+1,1,none⟩ (.int .i64 q2) ne) ⟨w.heap.size+1+1,2,none⟩ (.slice x ss.length cx) ne)
   clear RT2 RR2 RO2 RO3 B4 B5 hb3 hg3 OO ne m0 m1 m2 r0 r1 r2 r3 r4 r5 HC
   dsimp only
   go_wp2_with fail
   exact bodyPost_ret (v:=.agg #[.int .i64 q1,.int .i64 q2,.slice x ss.length cx]) (by simp [results,Tryz.results6,go_sem,p0,p1,p2]) rfl ⟨q1,q2,ss,uh HX,⟨⟨x,cx,rfl,owns_low (uh OE) (uh OL)⟩,uh HBE⟩,uh HSZ⟩

end Go.Proofs.YtedlocniojlhfaaGreatDoor

namespace Go.Proofs.YtedlocniojlhfaaGreatDoor
set_option maxRecDepth 100000
set_option maxHeartbeats 1600000
open Go.RowKit
set_option linter.unusedVariables false

theorem eqOutcome_same (q1 q2:Int) (x x':Option Addr) (n c c':Nat) (ss:List ByteArray) (w:World) (h:Strs w x n c ss) (h':Strs w x' n c' ss) :
  Calls Tryz.prog 10 #[.agg #[.int .i64 q1,.int .i64 q2,.slice x n c],.agg #[.int .i64 q1,.int .i64 q2,.slice x' n c']] w fun e w'=>e=.returned (.bool true)∧Below w.heap.size w w':=by
 have B0:=((Below.refl w.heap.size w).alloc nl (.cells #[.int .i64 q1,.int .i64 q2,.slice x n c] 33)).alloc (by simp) (.cells #[.int .i64 q1,.int .i64 q2,.slice x' n c'] 33)
 have e1:(q1 != q1)=false:=by simp
 have e2:(q2 != q2)=false:=by simp
 have H1:=h.below B0 nl
 have H2:=h'.below B0 nl
 go_enter Tryz.func10,Tryz.ntmps10
 go_wp2_with fail
 refine (eqStringS_same _ _ _ _ _ _ _ H1 H2).mono ?_
 rintro e w1 ⟨rfl,hb1⟩
 have B1:=B0.trans (hb1.mono B0.size)
 dsimp only
 go_wp2_with fail
 go_ret
 exact ⟨rfl,B1⟩

theorem markOutcome_any (q1 q2:Int) (lo hi:Nat) (x:Option Addr) (n c:Nat) (ss:List ByteArray) (w:World) (h:OwnS w lo hi x n c ss) (hn:n≤1048576) :
  Calls Tryz.prog 15 #[.agg #[.int .i64 q1,.int .i64 q2,.slice x n c],.int .i64 1] w fun e w'=>e=.returned (.int .i64 (1+(n:Int)))∧OwnS w' lo hi x n c (marks 1 n)∧Touch lo hi w w':=by
 have B0:=(Below.refl w.heap.size w).alloc nl (.cells #[.int .i64 q1,.int .i64 q2,.slice x n c] 33)
 go_enter Tryz.func15,Tryz.ntmps15
 go_wp2_with fail
 refine (markStringS_int lo hi _ _ _ _ _ _ (h.below B0 h.top) (by omega) (by omega)).mono ?_
 rintro e w1 ⟨rfl,O1,T1⟩
 dsimp only
 go_wp2_with fail
 go_ret
 exact ⟨rfl,O1,(Touch.of_below B0 nl).trans T1⟩

theorem heldOutcome_any (q1 q2:Int) (x:Option Addr) (n c:Nat) (w:World) (h:Strs w x n c (marks 1 n)) (hn:n≤1048576) :
  Calls Tryz.prog 16 #[.agg #[.int .i64 q1,.int .i64 q2,.slice x n c],.int .i64 1] w fun e w'=>e=.returned (.int .i64 (1+(n:Int)))∧Below w.heap.size w w':=by
 have B0:=(Below.refl w.heap.size w).alloc nl (.cells #[.int .i64 q1,.int .i64 q2,.slice x n c] 33)
 have hq:¬ ((1:Int)+n<0):=by omega
 go_enter Tryz.func16,Tryz.ntmps16
 go_wp2_with fail
 refine (heldStringS_int _ _ _ 1 _ (h.below B0 nl) (by omega) (by omega)).mono ?_
 rintro e w1 ⟨rfl,hb1⟩
 have B1:=B0.trans (hb1.mono B0.size)
 dsimp only
 go_wp2_with fail
 go_ret
 exact ⟨rfl,B1⟩

def TyZ (w:World) (lo hi:Nat) (x1 x2 x3:Addr) (n m p:Nat):Prop:=∃ g cs g2 g3,x1=⟨g,0,none⟩∧x2=⟨g2,0,none⟩∧x3=⟨g3,0,none⟩∧Row w g cs 98∧cs.size=n*5∧NdZ w lo hi n cs∧Wd w ⟨g2,0,none⟩ (m*4) 94∧Wd w ⟨g3,0,none⟩ p 3∧(lo≤g∧g<hi)∧(lo≤g2∧g2<hi)∧lo≤g3∧g3<hi

theorem TyZ.below {w w':World} {lo hi n m p:Nat} {x1 x2 x3:Addr} (h:TyZ w lo hi x1 x2 x3 n m p) (hb:Below w.heap.size w w'):TyZ w' lo hi x1 x2 x3 n m p:=by
 obtain ⟨g,cs,g2,g3,e1,e2,e3,R,z,Z,W2,W3,b⟩:=h
 exact ⟨g,cs,g2,g3,e1,e2,e3,R.after hb nl,z,Z.below hb,W2.below hb nl,W3.below hb nl,b⟩

theorem TyZ.of {B n m p:Nat} {w:World} {x1 x2 x3:Addr} {N:List Nd} {L:List St} (h:TdM B w x1 x2 x3 m p N) (hl:N.length=n) (hs:smallT n m p N L):TyZ w B w.heap.size x1 x2 x3 n m p:=by
 obtain ⟨⟨g,rfl,cs,⟨R,z⟩,hx⟩,⟨g2,c2,rfl,R2,z2⟩,⟨g3,c3,rfl,R3,z3⟩,b1,b2,b3⟩:=h
 refine ⟨g,cs,g2,g3,rfl,rfl,rfl,R,by rw [z,hl],fun i hi=>?_,⟨g2,c2,rfl,R2,z2⟩,⟨g3,c3,rfl,R3,z3⟩,⟨b1,R.lt⟩,⟨b2,R2.lt⟩,b3,R3.lt⟩
 obtain ⟨y1,nn,y2,nk,_,_,_,d3,d4,hS,hI,⟨w1,w2⟩,g1,g2⟩:=hx i (by omega)
 have hsm:=hs.1.1.2 _ (List.getElem_mem (by omega:i<N.length))
 obtain ⟨q1,t1,rfl,s1,u1⟩:=w1
 obtain ⟨q2,t2,rfl,s2,u2⟩:=w2
 exact ⟨q1,nn,q2,nk,d3,d4,⟨q1,t1,rfl,s1,u1⟩,⟨q2,t2,rfl,s2,u2⟩,by rw [hS.len];exact hsm.2.1,hI.small,⟨by have:g<q1:=g1;have:B≤g:=b1;omega,s1.lt⟩,by have:g<q2:=g2;have:B≤g:=b1;omega,s2.lt⟩

theorem markTyped_z (lo hi:Nat) (x1 x2 x3:Addr) (n m p:Nat) (w:World) (h:TyZ w lo hi x1 x2 x3 n m p) (hhi:hi≤w.heap.size) (hn:n≤1048576) (hm:m≤1048576) (hp:p≤1048576) :
  Calls Tryz.prog 13 #[.agg #[.slice (some x1) n n,.slice (some x2) m m,.slice (some x3) p p],.int .i64 1] w fun e w'=>(∃ y:Nat,e=.returned (.int .i64 y)∧y≤8796093022208)∧Touch lo hi w w':=by
 obtain ⟨g,cs,g2,g3,rfl,rfl,rfl,R,z,Z,W2,W3,b1,b2,b3⟩:=h
 have B0:=(Below.refl w.heap.size w).alloc nl (.cells #[.slice (some ⟨g,0,none⟩) n n,.slice (some ⟨g2,0,none⟩) m m,.slice (some ⟨g3,0,none⟩) p p] 38)
 have X0:=Row.new w #[.slice (some ⟨g,0,none⟩) n n,.slice (some ⟨g2,0,none⟩) m m,.slice (some ⟨g3,0,none⟩) p p] 38
 have K0:=KeepW.below B0
 have T0:=Touch.of_below (lo:=lo) (hi:=hi) B0 nl
 have HN:=hide (markNodeS_z lo hi g n n 1 cs _ (R.after B0 nl) z (Z.below B0) b1 hn (by omega))
 have V2:=K0 _ _ _ W2
 have V3:=K0 _ _ _ W3
 clear W2 W3 R Z K0
 go_enter Tryz.func13,Tryz.ntmps13
 go_wp2_with fail
 refine (uh HN).mono ?_
 rintro e w1 ⟨⟨y,rfl,hy⟩,T1,K1⟩
 have X1:Row w1 w.heap.size _ 38:=⟨(T1.block _ X0.lt (.inr hhi)).trans X0.out⟩
 have U2:=K1 _ _ _ V2
 have U3:=K1 _ _ _ V3
 have D1:=T0.trans T1
 obtain ⟨m0,m1,m2⟩:=rowT3 X1
 clear V2 V3 T1 K1 X0 T0 HN
 dsimp only
 go_wp2_with fail
 refine (markStmtS_z g2 m m _ _ U2 hm (by omega) (by omega)).mono ?_
 rintro e w2 ⟨rfl,T2,K2⟩
 have X2:Row w2 w.heap.size _ 38:=⟨(T2.block _ X1.lt (.inr (by have:=b2.2;omega))).trans X1.out⟩
 have Q3:=K2 _ _ _ U3
 have D2:=D1.trans (T2.mono2 b2.1 b2.2)
 obtain ⟨r0,r1,r2⟩:=rowT3 X2
 clear U2 U3 T2 K2 X1 D1 m0 m1 m2
 dsimp only
 go_wp2_with fail
 refine (markIntS_zi g3 p p _ _ Q3 (by omega) (by omega)).mono ?_
 rintro e w3 ⟨rfl,W3,T3⟩
 have D3:=D2.trans (T3.mono2 b3.1 b3.2)
 dsimp only
 go_wp2_with fail
 go_ret
 exact ⟨⟨y+4*m+p,by go_num,by omega⟩,D3⟩

theorem markRequest_z (cl us:ByteArray) (lv nw:Int) (x1 x2:Addr) (n1 n2:Nat) (lo hi:Nat) (y:Nat) (w:World) (W1:Wd w x1 n1 9) (W2:Wd w x2 n2 9) (b1:lo≤x1.block∧x1.block<hi) (b2:lo≤x2.block∧x2.block<hi) (hhi:hi≤w.heap.size) (hy:y≤8796093022208) (h1:n1≤1048576) (h2:n2≤1048576) :
  Calls Tryz.prog 14 #[.agg #[.string cl,.string us,.int .i64 lv,.int .i64 nw,.slice (some x1) n1 n1,.slice (some x2) n2 n2],.int .i64 y] w fun e w'=>(∃ z:Nat,e=.returned (.int .i64 z)∧z≤17592186044416)∧Touch lo hi w w':=by
 obtain ⟨g1,cs1,rfl,R1,z1⟩:=W1
 obtain ⟨g2,cs2,rfl,R2,z2⟩:=W2
 have B0:=(Below.refl w.heap.size w).alloc nl (.cells #[.string cl,.string us,.int .i64 lv,.int .i64 nw,.slice (some ⟨g1,0,none⟩) n1 n1,.slice (some ⟨g2,0,none⟩) n2 n2] 40)
 have X0:=Row.new w #[.string cl,.string us,.int .i64 lv,.int .i64 nw,.slice (some ⟨g1,0,none⟩) n1 n1,.slice (some ⟨g2,0,none⟩) n2 n2] 40
 have V1:Wd _ ⟨g1,0,none⟩ n1 9:=⟨g1,cs1,rfl,R1.after B0 nl,z1⟩
 have V2:Wd _ ⟨g2,0,none⟩ n2 9:=⟨g2,cs2,rfl,R2.after B0 nl,z2⟩
 have T0:=Touch.of_below (lo:=lo) (hi:=hi) B0 nl
 clear R1 R2 z1 z2
 go_enter Tryz.func14,Tryz.ntmps14
 go_wp2_with fail
 refine (markStringS_zi g1 n1 n1 _ _ V1 (by omega) (by omega)).mono ?_
 rintro e w1 ⟨rfl,U1,T1⟩
 have U2:=V2.one T1 V1 U1
 have X1:Row w1 w.heap.size _ 40:=⟨(T1.block _ X0.lt (.inr (by have:g1<hi:=b1.2;omega))).trans X0.out⟩
 have D1:=T0.trans (T1.mono2 b1.1 b1.2)
 obtain ⟨r0,r1,r2,r3,r4,r5⟩:=row6D X1
 clear V1 V2 T1 X0 T0 U1
 dsimp only
 go_wp2_with fail
 refine (markStringS_zi g2 n2 n2 _ _ U2 (by omega) (by omega)).mono ?_
 rintro e w2 ⟨rfl,Q2,T2⟩
 have D2:=D1.trans (T2.mono2 b2.1 b2.2)
 dsimp only
 go_wp2_with fail
 go_ret
 exact ⟨⟨y+n1+n2,by go_num,by omega⟩,D2⟩

end Go.Proofs.YtedlocniojlhfaaGreatDoor

namespace Go.Proofs.YtedlocniojlhfaaGreatDoor
open Go.RowKit
set_option linter.unusedVariables false

structure EnvD (w:World) (a b f:Option Addr) (n c m d p g:Nat) (N:List Nd) (L:List St) (T:List Int) (R:Rq) (a1:Option Addr) (n1 c1:Nat) (a2:Option Addr) (n2 c2:Nat) (aT aN aA aS aO aZ aW:Addr):Prop where
 nd:NdsR w a n c N
 st:StsR w b m d L
 it:IntsR w f p g T
 tab:TabOK w
 vo:Vok w aT
 eo:Eok w aN aA
 se:Sent w aS aO aZ aW
 q1:Strs w a1 n1 c1 R.s1
 q2:Strs w a2 n2 c2 R.s2

theorem EnvD.below {w w':World} {B:Nat} {a b f:Option Addr} {n c m d p g:Nat} {N:List Nd} {L:List St} {T:List Int} {R:Rq} {a1:Option Addr} {n1 c1:Nat} {a2:Option Addr} {n2 c2:Nat} {aT aN aA aS aO aZ aW:Addr} (h:EnvD w a b f n c m d p g N L T R a1 n1 c1 a2 n2 c2 aT aN aA aS aO aZ aW) (hb:Below B w w') (hB:w.heap.size≤B):EnvD w' a b f n c m d p g N L T R a1 n1 c1 a2 n2 c2 aT aN aA aS aO aZ aW :=
 ⟨h.nd.below hb hB,h.st.below hb hB,h.it.below hb hB,h.tab.below hb hB,h.vo.below hb hB,h.eo.below hb hB,h.se.below hb hB,h.q1.below hb hB,h.q2.below hb hB⟩

def CpT (w:World) (x1 x2 x3:Addr) (n m p:Nat) (N:List Nd) (L:List St) (T:List Int):Prop:=Nds w (some x1) n n N∧Sts w (some x2) m m L∧Ints w (some x3) p p T∧NmF w (some x1) N

def CpR (w:World) (z1 z2:Addr) (n1 n2:Nat) (R:Rq):Prop:=(Strs w (some z1) n1 n1 R.s1∧Strs w (some z2) n2 n2 R.s2)∧Wd w z1 n1 9∧Wd w z2 n2 9

theorem CpT.below {w w':World} {B:Nat} {x1 x2 x3:Addr} {n m p:Nat} {N:List Nd} {L:List St} {T:List Int} (h:CpT w x1 x2 x3 n m p N L T) (hb:Below B w w') (hB:w.heap.size≤B):CpT w' x1 x2 x3 n m p N L T :=
 ⟨h.1.below hb hB,h.2.1.below hb hB,h.2.2.1.below hb hB,h.2.2.2.below h.1 hb hB⟩

theorem CpR.below {w w':World} {B:Nat} {z1 z2:Addr} {n1 n2:Nat} {R:Rq} (h:CpR w z1 z2 n1 n2 R) (hb:Below B w w') (hB:w.heap.size≤B):CpR w' z1 z2 n1 n2 R :=
 ⟨⟨h.1.1.below hb hB,h.1.2.below hb hB⟩,h.2.1.below hb hB,h.2.2.below hb hB⟩

theorem ZS.of_wd {w:World} {x:Addr} {n:Nat} (h:Wd w x n 9):ZS w (some x) n:=by
 obtain ⟨q,cs,rfl,r,z⟩:=h
 exact ⟨fun e=>(nomatch e),fun ad e=>by cases e;exact ⟨cs,r⟩⟩

theorem NmF.of_hi {w:World} {g:Nat} {N:List Nd} (h:Hi w g N):NmF w (some ⟨g,0,none⟩) N:=by
 obtain ⟨cs,⟨R,_⟩,hx⟩:=h
 intro j hj b off e an nn cn hc
 cases e
 obtain ⟨x1,n1,x2,n2,_,_,_,d3,_,_,_,hW,_⟩:=hx j hj
 rw [Nat.zero_add,R.cell,d3] at hc
 cases hc
 exact ZS.of_wd hW.1

section
variable {a b f:Option Addr} {n c m d p g:Nat} {N:List Nd} {L:List St} {T:List Int} {R:Rq} {a1:Option Addr} {n1 c1:Nat} {a2:Option Addr} {n2 c2:Nat} {aT aN aA aS aO aZ aW:Addr}

theorem toT_any {w:World} (h:EnvD w a b f n c m d p g N L T R a1 n1 c1 a2 n2 c2 aT aN aA aS aO aZ aW) (hs:smallT n m p N L) :
  Calls Tryz.prog 7 #[.agg #[.slice a n c,.slice b m d,.slice f p g]] w fun e w'=>∃ x1 x2 x3,e=.returned (.agg #[.slice (some x1) n n,.slice (some x2) m m,.slice (some x3) p p])∧CpT w' x1 x2 x3 n m p N L T∧Below w.heap.size w w'∧TyZ w' w.heap.size w'.heap.size x1 x2 x3 n m p:=by
 refine (toTyped_any a b f n c m d p g N L T w h.nd h.st h.it hs).mono ?_
 rintro e w1 ⟨x1,x2,x3,rfl,h1,h2,h3,hb,M⟩
 have M':=M
 obtain ⟨⟨q,rfl,hh⟩,_⟩:=M'
 exact ⟨_,x2,x3,rfl,⟨h1,h2,h3,NmF.of_hi hh⟩,hb,TyZ.of M h.nd.len hs⟩

theorem toR_any {w:World} (h:EnvD w a b f n c m d p g N L T R a1 n1 c1 a2 n2 c2 aT aN aA aS aO aZ aW) (k1:n1≤1048576) (k2:n2≤1048576) :
  Calls Tryz.prog 8 #[.agg #[.string R.cl,.string R.us,.int .i64 R.lv,.int .i64 R.nw,.slice a1 n1 c1,.slice a2 n2 c2]] w fun e w'=>∃ z1 z2,e=.returned (.agg #[.string R.cl,.string R.us,.int .i64 R.lv,.int .i64 R.nw,.slice (some z1) n1 n1,.slice (some z2) n2 n2])∧CpR w' z1 z2 n1 n2 R∧Below w.heap.size w w'∧(w.heap.size≤z1.block∧z1.block<w'.heap.size)∧w.heap.size≤z2.block∧z2.block<w'.heap.size:=by
 refine (toRequest_any _ _ _ _ _ _ _ _ _ _ _ _ w h.q1 h.q2 k1 k2).mono ?_
 rintro e w1 ⟨z1,z2,rfl,h1,h2,hb,v1,v2,g1,g2⟩
 have l1:z1.block<w1.heap.size:=by obtain ⟨q,cs,rfl,r,_⟩:=v1;exact r.lt
 have l2:z2.block<w1.heap.size:=by obtain ⟨q,cs,rfl,r,_⟩:=v2;exact r.lt
 exact ⟨z1,z2,rfl,⟨⟨h1,h2⟩,v1,v2⟩,hb,⟨g1,l1⟩,g2,l2⟩

def ArgD (N:List Nd) (R:Rq):Prop:=(∀ x∈N,x.names.length≤1048576∧I64 x.num)∧(R.s1.length≤1048576∧R.s2.length≤1048576)∧(R.cl.size≤maxLen∧R.us.size≤maxLen)∧I64 R.lv∧I64 R.nw

theorem sDec_any {w:World} (hA:ArgD N R) {x1 x2 x3:Addr} (hT:CpT w x1 x2 x3 n m p N L T) {z1 z2:Addr} (hR:CpR w z1 z2 n1 n2 R) :
  Calls Tryz.prog 6 #[.agg #[.slice (some x1) n n,.slice (some x2) m m,.slice (some x3) p p],.agg #[.string R.cl,.string R.us,.int .i64 R.lv,.int .i64 R.nw,.slice (some z1) n1 n1,.slice (some z2) n2 n2]] w fun r w'=>∃ o,IsDc N L T R o∧OcAns w.heap.size o w r w'∧o.2.2.length≤1048576∧∀ j,j<o.2.2.length→(nth o.2.2 j).size≤maxLen :=
 sDecide_any _ _ _ _ _ _ _ _ _ N L T R _ _ _ _ _ _ w hT.1 hT.2.1 hT.2.2.1 hT.2.2.2 hR.1.1 hR.1.2 (ZS.of_wd hR.2.1) (ZS.of_wd hR.2.2) hA.2.1.1 hA.2.1.2 hA.2.2.1.1 hA.2.2.1.2 hA.2.2.2.1 hA.2.2.2.2 hA.1

theorem iDec_any {w:World} (hA:ArgD N R) (hE:EnvD w a b f n c m d p g N L T R a1 n1 c1 a2 n2 c2 aT aN aA aS aO aZ aW) {x1 x2 x3:Addr} (hT:CpT w x1 x2 x3 n m p N L T) {z1 z2:Addr} (hR:CpR w z1 z2 n1 n2 R) {o:Int × Int × List ByteArray} (ho:IsDc N L T R o) :
  Calls Tryz.prog 9 #[.agg #[.slice (some x1) n n,.slice (some x2) m m,.slice (some x3) p p],.agg #[.string R.cl,.string R.us,.int .i64 R.lv,.int .i64 R.nw,.slice (some z1) n1 n1,.slice (some z2) n2 n2]] w (OcAns w.heap.size o w):=by
 refine (iDecide_any _ _ _ _ _ _ _ _ _ N L T R _ _ _ _ _ _ aT aN aA w hT.1 hT.2.1 hT.2.2.1 hE.tab hE.vo hE.eo hE.se hR.1.1 hR.1.2 hA.2.1.1 hA.2.1.2 hA.2.2.1.1 hA.2.2.1.2 hA.2.2.2.1 hA.2.2.2.2 hA.1).mono ?_
 rintro r w1 ⟨o',h1,h2⟩
 rw [ho.one h1]
 exact h2

end

end Go.Proofs.YtedlocniojlhfaaGreatDoor
