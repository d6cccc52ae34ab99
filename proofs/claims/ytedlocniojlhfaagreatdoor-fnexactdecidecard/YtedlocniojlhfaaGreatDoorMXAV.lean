/-
  DVZ, DWB. Own work.
-/
import Derived.Test.YtedlocniojlhfaaGreatDoorDVX
import Derived.Test.YtedlocniojlhfaaGreatDoorDVX2
import Derived.Test.YtedlocniojlhfaaGreatDoorDVY
import Derived.Test.YtedlocniojlhfaaGreatDoorDVY1
import Derived.Test.YtedlocniojlhfaaGreatDoorDVY2
import Derived.Test.YtedlocniojlhfaaGreatDoorDVY3
import Derived.Test.YtedlocniojlhfaaGreatDoorDVY4
import Derived.Test.YtedlocniojlhfaaGreatDoorDVY5
import Derived.Test.YtedlocniojlhfaaGreatDoorDVY6
import Derived.Test.YtedlocniojlhfaaGreatDoorMXAU
namespace Go.Proofs.YtedlocniojlhfaaGreatDoor
set_option maxHeartbeats 3200000
open Go.RowKit
set_option linter.unusedVariables false

def NmF (w:World) (a:Option Addr) (N:List Nd):Prop:=∀ j,j<N.length→∀ b off,a=some ⟨b,off,none⟩→∀ an nn cn,w.cell? ⟨b,off+j*5+3,none⟩=some (.slice an nn cn)→ZS w an cn

def LetM (w:World) (la:Option Addr) (ln lc:Nat) (ls:List Vv):Prop:=ls.length=ln∧ln≤1048576∧∀ j,(h:j<ls.length)→∃ g o num text av nv cv,la=some ⟨g,o,none⟩∧g<w.heap.size∧w.cell? ⟨g,o+j*4,none⟩=some (.int .i64 0)∧w.cell? ⟨g,o+j*4+1,none⟩=some (.int .i64 num)∧w.cell? ⟨g,o+j*4+2,none⟩=some (.string text)∧w.cell? ⟨g,o+j*4+3,none⟩=some (.slice av nv cv)∧MVs w num text av nv cv ls[j]

theorem NmF.below {w w':World} {B:Nat} {a:Option Addr} {n c:Nat} {N:List Nd} (h:NmF w a N) (hN:Nds w a n c N) (hb:Below B w w') (hB:w.heap.size≤B):NmF w' a N:=by
 intro j hj b off ha an nn cn hc
 refine ZS.below ?_ hb hB
 obtain ⟨b2,off2,ha2,hl,_⟩:=hN.cells j hj
 rw [ha] at ha2
 have e:b=b2:=congrArg Addr.block (Option.some.inj ha2)
 exact h j hj b off ha an nn cn ((hb.cell (p:=⟨b,off+j*5+3,none⟩) (by show b<B;omega)).symm.trans hc)

theorem LetM.below {w w':World} {B:Nat} {la:Option Addr} {ln lc:Nat} {ls:List Vv} (h:LetM w la ln lc ls) (hb:Below B w w') (hB:w.heap.size≤B):LetM w' la ln lc ls:=by
 refine ⟨h.1,h.2.1,fun j hj=>?_⟩
 obtain ⟨g,o,num,text,av,nv,cv,ha,hl,e0,e1,e2,e3,hv⟩:=h.2.2 j hj
 have hl':g<B:=by omega
 exact ⟨g,o,num,text,av,nv,cv,ha,Nat.lt_of_lt_of_le hl hb.size,(hb.cell (p:=⟨g,o+j*4,none⟩) hl').trans e0,(hb.cell (p:=⟨g,o+j*4+1,none⟩) hl').trans e1,(hb.cell (p:=⟨g,o+j*4+2,none⟩) hl').trans e2,(hb.cell (p:=⟨g,o+j*4+3,none⟩) hl').trans e3,hv.below hb hB⟩

structure EvS (w:World) (a:Option Addr) (n c:Nat) (N:List Nd) (R:Rq) (a1:Option Addr) (n1 c1:Nat) (a2:Option Addr) (n2 c2:Nat):Prop where
 nds:Nds w a n c N
 nmf:NmF w a N
 s1:Strs w a1 n1 c1 R.s1
 s2:Strs w a2 n2 c2 R.s2
 z1:ZS w a1 c1
 z2:ZS w a2 c2

theorem EvS.below {w w':World} {B:Nat} {a:Option Addr} {n c:Nat} {N:List Nd} {R:Rq} {a1:Option Addr} {n1 c1:Nat} {a2:Option Addr} {n2 c2:Nat} (h:EvS w a n c N R a1 n1 c1 a2 n2 c2) (hb:Below B w w') (hB:w.heap.size≤B):EvS w' a n c N R a1 n1 c1 a2 n2 c2 :=
 ⟨h.nds.below hb hB,h.nmf.below h.nds hb hB,h.s1.below hb hB,h.s2.below hb hB,h.z1.below hb hB,h.z2.below hb hB⟩

structure EvP (N:List Nd) (R:Rq):Prop where
 l1:R.s1.length≤1048576
 l2:R.s2.length≤1048576
 lv:I64 R.lv
 nw:I64 R.nw
 nm:∀ x∈N,x.names.length≤1048576∧I64 x.num
 fu:∀ x∈N,fieldsU x=true

theorem fieldsU_bool {x:Nd} (h:fieldsU x=true) (ho:x.op=3):x.num=0∨x.num=1:=by
 rw [fieldsU,ho] at h
 simp at h
 exact h.2.1.1

theorem fieldsU_attr {x:Nd} (h:fieldsU x=true) (ho:x.op=6):0≤x.num∧x.num≤5:=by
 rw [fieldsU,ho] at h
 simp at h
 exact h.2.1.1

theorem dec1_25 {v:Vv} (h:v.ty=1):(v=.bool false∧dec1 25 v=true)∨(v=.bool true∧dec1 25 v=false):=by
 obtain ⟨b,rfl⟩:=Vv.bool_of h
 cases b
 ·exact .inl ⟨rfl,rfl⟩
 ·exact .inr ⟨rfl,rfl⟩

theorem dec1_26 {v:Vv} (h:v.ty=1):(v=.bool true∧dec1 26 v=true)∨(v=.bool false∧dec1 26 v=false):=by
 obtain ⟨b,rfl⟩:=Vv.bool_of h
 cases b
 ·exact .inr ⟨rfl,rfl⟩
 ·exact .inl ⟨rfl,rfl⟩

theorem dec1_else {op:Int} {v:Vv} (h:op≠25) (h':op≠26):dec1 op v=false:=by
 unfold dec1
 split
 ·rw [if_neg h,if_neg h']
 ·rfl

theorem ints_one {w:World} {a:Option Addr} {n c:Nat} {k:Int} {r:List Int} (h:Ints w a n c (k::r)):∃ b o,a=some ⟨b,o,none⟩∧b<w.heap.size∧∀ j,(hj:j<(k::r).length)→w.cell? ⟨b,o+j,none⟩=some (.int .i64 (k::r)[j]):=by
 obtain ⟨b,o,ha,hl,_⟩:=h.cells 0 (by simp)
 refine ⟨b,o,ha,hl,fun j hj=>?_⟩
 obtain ⟨b2,o2,ha2,_,hc⟩:=h.cells j hj
 rw [ha] at ha2
 have e:=Option.some.inj ha2
 have e1:b=b2:=congrArg Addr.block e
 have e2:o=o2:=by cases e;rfl
 subst e1;subst e2
 exact hc

theorem tyOp3_bool {a b d t:Int} (h:nz (tyOp 27 [a,b,d])=some t):a=1:=by
 obtain ⟨h1,h0⟩:=nz_some h
 simp only [tyOp] at h1
 by_cases c:a=1∧b=d
 ·exact c.1
 ·rw [if_neg c] at h1;exact absurd h1.symm h0

theorem l3eval_any {N:List Nd} {R:Rq} (P:EvP N R) {i:Nat} {e:Ex} (t:IsT N i e):∀ (ts:List Int) (ty:Int),tyE ts e=some ty→∀ (ls:List Vv),ls.map Vv.ty=ts→∀ (a:Option Addr) (n c:Nat) (a1:Option Addr) (n1 c1:Nat) (a2:Option Addr) (n2 c2:Nat) (la:Option Addr) (ln lc:Nat) (w:World),EvS w a n c N R a1 n1 c1 a2 n2 c2→LetM w la ln lc ls →
  Calls Tryz.prog 49 #[.slice a n c,.int .i64 i,.agg #[.string R.cl,.string R.us,.int .i64 R.lv,.int .i64 R.nw,.slice a1 n1 c1,.slice a2 n2 c2],.slice la ln lc] w (MAns (evE R ls e) w):=by
 induction t with
 | int h ho hk =>
  intro ts ty hty ls hls a n c a1 n1 c1 a2 n2 c2 la ln lc w M LM
  obtain ⟨hi,hx⟩:=List.getElem?_eq_some_iff.1 h
  obtain ⟨b,off,rfl,hl,an,nn,cn,ak,nk,ck,e0,e1,e2,e3,e4,hS,hK⟩:=M.nds.cells _ hi
  rw [hx] at e0 e1 e2 hS hK
  have hin:=M.nds.len ▸ hi
  have hm:=List.mem_of_getElem? h
  exact eval_int _ ho (P.nm _ hm).2 b off n c _ hin M.nds.small an nn cn ak nk ck R a1 n1 c1 a2 n2 c2 la ln lc w hl ⟨e0,e1,e2,e3,e4⟩
 | text h ho hk =>
  intro ts ty hty ls hls a n c a1 n1 c1 a2 n2 c2 la ln lc w M LM
  obtain ⟨hi,hx⟩:=List.getElem?_eq_some_iff.1 h
  obtain ⟨b,off,rfl,hl,an,nn,cn,ak,nk,ck,e0,e1,e2,e3,e4,hS,hK⟩:=M.nds.cells _ hi
  rw [hx] at e0 e1 e2 hS hK
  have hin:=M.nds.len ▸ hi
  exact eval_text _ ho b off n c _ hin M.nds.small an nn cn ak nk ck R a1 n1 c1 a2 n2 c2 la ln lc w hl ⟨e0,e1,e2,e3,e4⟩
 | bool h ho hk =>
  intro ts ty hty ls hls a n c a1 n1 c1 a2 n2 c2 la ln lc w M LM
  obtain ⟨hi,hx⟩:=List.getElem?_eq_some_iff.1 h
  obtain ⟨b,off,rfl,hl,an,nn,cn,ak,nk,ck,e0,e1,e2,e3,e4,hS,hK⟩:=M.nds.cells _ hi
  rw [hx] at e0 e1 e2 hS hK
  have hin:=M.nds.len ▸ hi
  have hm:=List.mem_of_getElem? h
  exact eval_bool _ ho (fieldsU_bool (P.fu _ hm) ho) b off n c _ hin M.nds.small an nn cn ak nk ck R a1 n1 c1 a2 n2 c2 la ln lc w hl ⟨e0,e1,e2,e3,e4⟩
 | set h ho hk a0 n0 c0 =>
  intro ts ty hty ls hls a n c a1 n1 c1 a2 n2 c2 la ln lc w M LM
  obtain ⟨hi,hx⟩:=List.getElem?_eq_some_iff.1 h
  obtain ⟨b,off,rfl,hl,an,nn,cn,ak,nk,ck,e0,e1,e2,e3,e4,hS,hK⟩:=M.nds.cells _ hi
  rw [hx] at e0 e1 e2 hS hK
  have hin:=M.nds.len ▸ hi
  have hm:=List.mem_of_getElem? h
  exact eval_set _ ho (P.nm _ hm).1 b off n c _ hin M.nds.small an nn cn ak nk ck R a1 n1 c1 a2 n2 c2 la ln lc w hl ⟨e0,e1,e2,e3,e4⟩ hS (M.nmf _ hi b off rfl an nn cn e3)
 | name h ho hk =>
  intro ts ty hty
  cases hty
 | @attr i x h ho hk =>
  intro ts ty hty ls hls a n c a1 n1 c1 a2 n2 c2 la ln lc w M LM
  obtain ⟨hi,hx⟩:=List.getElem?_eq_some_iff.1 h
  obtain ⟨b,off,rfl,hl,an,nn,cn,ak,nk,ck,e0,e1,e2,e3,e4,hS,hK⟩:=M.nds.cells _ hi
  rw [hx] at e0 e1 e2 hS hK
  have hin:=M.nds.len ▸ hi
  have hm:=List.mem_of_getElem? h
  have hr:=fieldsU_attr (P.fu _ hm) ho
  rcases (show x.num=0∨x.num=1∨x.num=2∨x.num=3∨x.num=4∨x.num=5 by omega) with hz | hz | hz | hz | hz | hz
  ·have:=eval_attr0 _ ho hz b off n c _ hin M.nds.small an nn cn ak nk ck R a1 n1 c1 a2 n2 c2 la ln lc w hl ⟨e0,e1,e2,e3,e4⟩
   rw [evE,hz];exact this
  ·have:=eval_attr1 _ ho hz b off n c _ hin M.nds.small an nn cn ak nk ck R a1 n1 c1 a2 n2 c2 la ln lc w hl ⟨e0,e1,e2,e3,e4⟩
   rw [evE,hz];exact this
  ·have:=eval_attr2 _ ho hz b off n c _ hin M.nds.small an nn cn ak nk ck R a1 n1 c1 a2 n2 c2 la ln lc w hl ⟨e0,e1,e2,e3,e4⟩ P.lv
   rw [evE,hz];exact this
  ·have:=eval_attr3 _ ho hz b off n c _ hin M.nds.small an nn cn ak nk ck R a1 n1 c1 a2 n2 c2 la ln lc w hl ⟨e0,e1,e2,e3,e4⟩ P.nw
   rw [evE,hz];exact this
  ·have:=eval_attr4 _ ho hz b off n c _ hin M.nds.small an nn cn ak nk ck R a1 n1 c1 a2 n2 c2 la ln lc w hl ⟨e0,e1,e2,e3,e4⟩ P.l1 M.s1 M.z1
   rw [evE,hz];exact this
  ·have:=eval_attr5 _ ho hz b off n c _ hin M.nds.small an nn cn ak nk ck R a1 n1 c1 a2 n2 c2 la ln lc w hl ⟨e0,e1,e2,e3,e4⟩ P.l2 M.s2 M.z2
   rw [evE,hz];exact this
 | @lett i x h ho hk =>
  intro ts ty hty ls hls a n c a1 n1 c1 a2 n2 c2 la ln lc w M LM
  obtain ⟨hi,hx⟩:=List.getElem?_eq_some_iff.1 h
  obtain ⟨b,off,rfl,hl,an,nn,cn,ak,nk,ck,e0,e1,e2,e3,e4,hS,hK⟩:=M.nds.cells _ hi
  rw [hx] at e0 e1 e2 hS hK
  have hin:=M.nds.len ▸ hi
  rw [tyE] at hty
  by_cases h0:0≤x.num
  ·rw [if_pos h0,← hls,List.getElem?_map] at hty
   cases hq:ls[x.num.toNat]? with
   | none=>rw [hq] at hty;cases hty
   | some v =>
    obtain ⟨hj,hv⟩:=List.getElem?_eq_some_iff.1 hq
    obtain ⟨g,o,num,text,av,nv,cv,ha,hg,f0,f1,f2,f3,hm⟩:=LM.2.2 _ hj
    rw [hv] at hm
    have:=eval_let x ho x.num.toNat (by omega) b off n c _ hin M.nds.small an nn cn ak nk ck R a1 n1 c1 a2 n2 c2 (some ⟨g,o,none⟩) ln lc w hl ⟨e0,e1,e2,e3,e4⟩ (by have:=LM.1;omega) LM.2.1 g o hg num text av nv cv v f0 f1 f2 f3 hm
    rw [evE,hq,ha];exact this
  ·rw [if_neg h0] at hty;cases hty
 | @un i k x e h ho hk hi' t ih =>
  intro ts ty hty ls hls a n c a1 n1 c1 a2 n2 c2 la ln lc w M LM
  obtain ⟨hi,hx⟩:=List.getElem?_eq_some_iff.1 h
  obtain ⟨b,off,rfl,hl,an,nn,cn,ak,nk,ck,e0,e1,e2,e3,e4,hS,hK⟩:=M.nds.cells _ hi
  rw [hx] at e0 e1 e2 hS hK
  have hin:=M.nds.len ▸ hi
  rw [hk] at hK
  obtain rfl:1=nk:=hK.len
  obtain ⟨kb,ko,rfl,hkl,kc⟩:=ints_one hK
  have c0:=kc 0 (by simp)
  rw [tyE] at hty
  cases hq:tyE ts e with
  | none=>rw [hq] at hty;cases hty
  | some tk =>
   rw [hq] at hty
   have HI:∀ w2,Below w.heap.size w w2→_:=fun w2 hb=>ih ts tk hq ls hls _ n c a1 n1 c1 a2 n2 c2 la ln lc w2 (M.below hb nl) (LM.below hb nl)
   rw [evE]
   cases hv:evE R ls e with
   | err z =>
    rw [hv] at HI
    exact eval_k1err x (by omega) k b off n c i hin M.nds.small an nn cn kb ko 1 ck R a1 n1 c1 a2 n2 c2 la ln lc w hl hkl ⟨e0,e1,e2,e3,e4⟩ (by omega) c0 z HI
   | ok v =>
    rw [hv] at HI
    have hvt:=evE_ty hls e tk hq v hv
    exact eval_un x ho k b off n c i hin M.nds.small an nn cn kb ko ck R a1 n1 c1 a2 n2 c2 la ln lc w hl hkl ⟨e0,e1,e2,e3,e4⟩ c0 v ty (by rw [hvt];exact hty) HI
 | @bin i k l x e f h ho hk hi' t u ih1 ih2 =>
  intro ts ty hty ls hls a n c a1 n1 c1 a2 n2 c2 la ln lc w M LM
  obtain ⟨hi,hx⟩:=List.getElem?_eq_some_iff.1 h
  obtain ⟨b,off,rfl,hl,an,nn,cn,ak,nk,ck,e0,e1,e2,e3,e4,hS,hK⟩:=M.nds.cells _ hi
  rw [hx] at e0 e1 e2 hS hK
  have hin:=M.nds.len ▸ hi
  rw [hk] at hK
  obtain rfl:2=nk:=hK.len
  obtain ⟨kb,ko,rfl,hkl,kc⟩:=ints_one hK
  have c0:=kc 0 (by simp)
  have d0:=kc 1 (by simp)
  rw [tyE] at hty
  cases hq:tyE ts e with
  | none=>rw [hq] at hty;cases hty
  | some tk =>
   rw [hq] at hty
   dsimp only at hty
   cases hq2:tyE ts f with
   | none=>rw [hq2] at hty;cases hty
   | some tl =>
    rw [hq2] at hty
    dsimp only at hty
    have HI:∀ w2,Below w.heap.size w w2→_:=fun w2 hb=>ih1 ts tk hq ls hls _ n c a1 n1 c1 a2 n2 c2 la ln lc w2 (M.below hb nl) (LM.below hb nl)
    have HJ:∀ w2,Below w.heap.size w w2→_:=fun w2 hb=>ih2 ts tl hq2 ls hls _ n c a1 n1 c1 a2 n2 c2 la ln lc w2 (M.below hb nl) (LM.below hb nl)
    rw [evE]
    cases hv:evE R ls e with
    | err z =>
     rw [hv] at HI
     exact eval_k1err x (by omega) k b off n c i hin M.nds.small an nn cn kb ko 2 ck R a1 n1 c1 a2 n2 c2 la ln lc w hl hkl ⟨e0,e1,e2,e3,e4⟩ (by omega) c0 z HI
    | ok v =>
     rw [hv] at HI
     have hvt:=evE_ty hls e tk hq v hv
     dsimp only
     by_cases q25:x.op=25
     ·have hb:v.ty=1:=by
       rw [hvt]
       rcases tyOp2_inv hty with q | q | q | q | q | q | q
       all_goals first | exact q.2.1 | omega
      rw [q25]
      rcases dec1_25 hb with ⟨rfl,hd⟩ | ⟨rfl,hd⟩
      ·rw [hd,if_pos rfl]
       exact eval_short25 x q25 k l b off n c i hin M.nds.small an nn cn kb ko ck R a1 n1 c1 a2 n2 c2 la ln lc w hl hkl ⟨e0,e1,e2,e3,e4⟩ c0 d0 HI
      ·rw [hd,if_neg (by simp)]
       cases hv2:evE R ls f with
       | err z =>
        rw [hv2] at HJ
        exact eval_conn25err x q25 z k l b off n c i hin M.nds.small an nn cn kb ko ck R a1 n1 c1 a2 n2 c2 la ln lc w hl hkl ⟨e0,e1,e2,e3,e4⟩ c0 d0 HI HJ
       | ok u =>
        rw [hv2] at HJ
        dsimp only
        rw [if_pos (.inl rfl)]
        exact eval_conn25ok x q25 u k l b off n c i hin M.nds.small an nn cn kb ko ck R a1 n1 c1 a2 n2 c2 la ln lc w hl hkl ⟨e0,e1,e2,e3,e4⟩ c0 d0 HI HJ
     by_cases q26:x.op=26
     ·have hb:v.ty=1:=by
       rw [hvt]
       rcases tyOp2_inv hty with q | q | q | q | q | q | q
       all_goals first | exact q.2.1 | omega
      rw [q26]
      rcases dec1_26 hb with ⟨rfl,hd⟩ | ⟨rfl,hd⟩
      ·rw [hd,if_pos rfl]
       exact eval_short26 x q26 k l b off n c i hin M.nds.small an nn cn kb ko ck R a1 n1 c1 a2 n2 c2 la ln lc w hl hkl ⟨e0,e1,e2,e3,e4⟩ c0 d0 HI
      ·rw [hd,if_neg (by simp)]
       cases hv2:evE R ls f with
       | err z =>
        rw [hv2] at HJ
        exact eval_conn26err x q26 z k l b off n c i hin M.nds.small an nn cn kb ko ck R a1 n1 c1 a2 n2 c2 la ln lc w hl hkl ⟨e0,e1,e2,e3,e4⟩ c0 d0 HI HJ
       | ok u =>
        rw [hv2] at HJ
        dsimp only
        rw [if_pos (.inr rfl)]
        exact eval_conn26ok x q26 u k l b off n c i hin M.nds.small an nn cn kb ko ck R a1 n1 c1 a2 n2 c2 la ln lc w hl hkl ⟨e0,e1,e2,e3,e4⟩ c0 d0 HI HJ
     rw [dec1_else q25 q26,if_neg (by simp)]
     cases hv2:evE R ls f with
     | err z =>
      rw [hv2] at HJ
      exact eval_binerr x (by omega) v z k l b off n c i hin M.nds.small an nn cn kb ko ck R a1 n1 c1 a2 n2 c2 la ln lc w hl hkl ⟨e0,e1,e2,e3,e4⟩ c0 d0 HI HJ
     | ok u =>
      rw [hv2] at HJ
      have hut:=evE_ty hls f tl hq2 u hv2
      dsimp only
      rw [if_neg (by omega)]
      exact eval_binok x (by omega) v u ty (by rw [hvt,hut];exact hty) k l b off n c i hin M.nds.small an nn cn kb ko ck R a1 n1 c1 a2 n2 c2 la ln lc w hl hkl ⟨e0,e1,e2,e3,e4⟩ c0 d0 HI HJ
 | @ite i k l m x e f g h ho hk hi' t u v ih1 ih2 ih3 =>
  intro ts ty hty ls hls a n c a1 n1 c1 a2 n2 c2 la ln lc w M LM
  obtain ⟨hi,hx⟩:=List.getElem?_eq_some_iff.1 h
  obtain ⟨b,off,rfl,hl,an,nn,cn,ak,nk,ck,e0,e1,e2,e3,e4,hS,hK⟩:=M.nds.cells _ hi
  rw [hx] at e0 e1 e2 hS hK
  have hin:=M.nds.len ▸ hi
  rw [hk] at hK
  obtain rfl:3=nk:=hK.len
  obtain ⟨kb,ko,rfl,hkl,kc⟩:=ints_one hK
  have c0:=kc 0 (by simp)
  have d0:=kc 1 (by simp)
  have g0:=kc 2 (by simp)
  rw [tyE] at hty
  cases hq:tyE ts e with
  | none=>rw [hq] at hty;cases hty
  | some tk =>
   rw [hq] at hty
   dsimp only at hty
   cases hq2:tyE ts f with
   | none=>rw [hq2] at hty;cases hty
   | some tl =>
    rw [hq2] at hty
    dsimp only at hty
    cases hq3:tyE ts g with
    | none=>rw [hq3] at hty;cases hty
    | some tm =>
     rw [hq3] at hty
     dsimp only at hty
     have HI:∀ w2,Below w.heap.size w w2→_:=fun w2 hb=>ih1 ts tk hq ls hls _ n c a1 n1 c1 a2 n2 c2 la ln lc w2 (M.below hb nl) (LM.below hb nl)
     have HJ:∀ w2,Below w.heap.size w w2→_:=fun w2 hb=>ih2 ts tl hq2 ls hls _ n c a1 n1 c1 a2 n2 c2 la ln lc w2 (M.below hb nl) (LM.below hb nl)
     have HK:∀ w2,Below w.heap.size w w2→_:=fun w2 hb=>ih3 ts tm hq3 ls hls _ n c a1 n1 c1 a2 n2 c2 la ln lc w2 (M.below hb nl) (LM.below hb nl)
     rw [evE_iteO]
     cases hv:evE R ls e with
     | err z =>
      rw [hv] at HI
      exact eval_k1err x (by omega) k b off n c i hin M.nds.small an nn cn kb ko 3 ck R a1 n1 c1 a2 n2 c2 la ln lc w hl hkl ⟨e0,e1,e2,e3,e4⟩ (by omega) c0 z HI
     | ok v =>
      rw [hv] at HI
      have hvt:=evE_ty hls e tk hq v hv
      obtain ⟨bb,rfl⟩:=Vv.bool_of (v:=v) (by rw [hvt];exact tyOp3_bool hty)
      cases bb with
      | true=>exact eval_ite_true x ho k l b off n c i hin M.nds.small an nn cn kb ko ck R a1 n1 c1 a2 n2 c2 la ln lc w hl hkl ⟨e0,e1,e2,e3,e4⟩ c0 d0 _ HI HJ
      | false=>exact eval_ite_false x ho k m b off n c i hin M.nds.small an nn cn kb ko ck R a1 n1 c1 a2 n2 c2 la ln lc w hl hkl ⟨e0,e1,e2,e3,e4⟩ c0 g0 _ HI HK

end Go.Proofs.YtedlocniojlhfaaGreatDoor

namespace Go.Proofs.YtedlocniojlhfaaGreatDoor
set_option maxRecDepth 100000
set_option maxHeartbeats 6400000
open Go.RowKit
set_option linter.unusedVariables false

theorem dec_deny_else (a:Option Addr) (n c b off m d:Nat) (e:Option Addr) (k2 f k:Nat) (hkm:k<m) (hm:m≤1048576) (R:Rq) (a1:Option Addr) (n1 c1:Nat) (a2:Option Addr) (n2 c2:Nat) (la:Option Addr) (ln lc:Nat) (w:World) (hb:b<w.heap.size) (nmS:ByteArray) (cnd:Int) (B:Nat) (row:Option Nat) (s0:w.cell? ⟨b,off+k*4,none⟩=some (.int .i64 3)) (s1:w.cell? ⟨b,off+k*4+1,none⟩=some (.string nmS)) (s2:w.cell? ⟨b,off+k*4+2,none⟩=some (.int .i64 cnd)) (s3:w.cell? ⟨b,off+k*4+3,none⟩=some (.int .i64 (-1)))  :
  Calls Tryz.prog 23 #[.agg #[.slice a n c,.slice (some ⟨b,off,none⟩) m d,.slice e k2 f],.int .i64 k,.agg #[.string R.cl,.string R.us,.int .i64 R.lv,.int .i64 R.nw,.slice a1 n1 c1,.slice a2 n2 c2],.slice la ln lc] w (OcG B row (1,0,[]) w):=by
 have B3:=(((Below.refl w.heap.size w).alloc nl (.cells #[.slice a n c,.slice (some ⟨b,off,none⟩) m d,.slice e k2 f] 38)).alloc (by simp) (.cells #[.string R.cl,.string R.us,.int .i64 R.lv,.int .i64 R.nw,.slice a1 n1 c1,.slice a2 n2 c2] 40)).alloc (by simp;omega) (.cells #[.int .i64 0,.int .i64 0,.slice none 0 0] 33)
 have d0:=(B3.cell (p:=⟨b,off+k*4,none⟩) hb).trans s0
 have d1:=(B3.cell (p:=⟨b,off+k*4+1,none⟩) hb).trans s1
 have d2:=(B3.cell (p:=⟨b,off+k*4+2,none⟩) hb).trans s2
 have d3:=(B3.cell (p:=⟨b,off+k*4+3,none⟩) hb).trans s3
 have B4:=B3.alloc B3.size (.cells #[.int .i64 3,.string nmS,.int .i64 cnd,.int .i64 (-1)] 94)
 have RT:=(((Row.new w #[.slice a n c,.slice (some ⟨b,off,none⟩) m d,.slice e k2 f] 38).alloc (.cells #[.string R.cl,.string R.us,.int .i64 R.lv,.int .i64 R.nw,.slice a1 n1 c1,.slice a2 n2 c2] 40)).alloc (.cells #[.int .i64 0,.int .i64 0,.slice none 0 0] 33)).alloc (.cells #[.int .i64 3,.string nmS,.int .i64 cnd,.int .i64 (-1)] 94)
 have RR:=((Row.new (w.alloc (.cells #[.slice a n c,.slice (some ⟨b,off,none⟩) m d,.slice e k2 f] 38)) #[.string R.cl,.string R.us,.int .i64 R.lv,.int .i64 R.nw,.slice a1 n1 c1,.slice a2 n2 c2] 40).alloc (.cells #[.int .i64 0,.int .i64 0,.slice none 0 0] 33)).alloc (.cells #[.int .i64 3,.string nmS,.int .i64 cnd,.int .i64 (-1)] 94)
 have RO:=(Row.new ((w.alloc (.cells #[.slice a n c,.slice (some ⟨b,off,none⟩) m d,.slice e k2 f] 38)).alloc (.cells #[.string R.cl,.string R.us,.int .i64 R.lv,.int .i64 R.nw,.slice a1 n1 c1,.slice a2 n2 c2] 40)) #[.int .i64 0,.int .i64 0,.slice none 0 0] 33).alloc (.cells #[.int .i64 3,.string nmS,.int .i64 cnd,.int .i64 (-1)] 94)
 have RS:=Row.new (((w.alloc (.cells #[.slice a n c,.slice (some ⟨b,off,none⟩) m d,.slice e k2 f] 38)).alloc (.cells #[.string R.cl,.string R.us,.int .i64 R.lv,.int .i64 R.nw,.slice a1 n1 c1,.slice a2 n2 c2] 40)).alloc (.cells #[.int .i64 0,.int .i64 0,.slice none 0 0] 33)) #[.int .i64 3,.string nmS,.int .i64 cnd,.int .i64 (-1)] 94
 simp only [World.size_alloc] at RR RO RS
 have kin:(k:Int)<(m:Int):=by omega
 clear s0 s1 s2 s3
 obtain ⟨o0,o1,o2⟩:=rowT3 RO
 have of:=fun j=>RO.frozen j
 clear RT RR RO RS B3 B4
 go_enter Tryz.func23,Tryz.ntmps23
 go_wp2_with fail
 exact bodyPost_ret (v:=.agg #[.int .i64 1,.int .i64 0,.slice none 0 0]) (by simp [results,Tryz.results23,go_sem]) rfl ⟨⟨none,0,rfl,World.ownsRow_nil _ _ _ _⟩,grown_of (((((Below.refl w.heap.size w).alloc nl _).alloc (by simp) _).alloc (by simp;omega) _).alloc (by simp;omega) _) _,Nat.zero_le _,fun j h=>absurd h (Nat.not_lt_zero _)⟩

theorem dec_deny_when (a:Option Addr) (n c b off m d:Nat) (e:Option Addr) (k2 f k:Nat) (hkm:k<m) (hm:m≤1048576) (R:Rq) (a1:Option Addr) (n1 c1:Nat) (a2:Option Addr) (n2 c2:Nat) (la:Option Addr) (ln lc:Nat) (w:World) (hb:b<w.heap.size) (nmS:ByteArray) (B:Nat) (row:Option Nat) (i:Nat) (s0:w.cell? ⟨b,off+k*4,none⟩=some (.int .i64 2)) (s1:w.cell? ⟨b,off+k*4+1,none⟩=some (.string nmS)) (s2:w.cell? ⟨b,off+k*4+2,none⟩=some (.int .i64 i)) (s3:w.cell? ⟨b,off+k*4+3,none⟩=some (.int .i64 (-1)))  (h1:∀ w2,Below w.heap.size w w2→Calls Tryz.prog 49 #[.slice a n c,.int .i64 i,.agg #[.string R.cl,.string R.us,.int .i64 R.lv,.int .i64 R.nw,.slice a1 n1 c1,.slice a2 n2 c2],.slice la ln lc] w2 (MAns (.ok (.bool true)) w2)) :
  Calls Tryz.prog 23 #[.agg #[.slice a n c,.slice (some ⟨b,off,none⟩) m d,.slice e k2 f],.int .i64 k,.agg #[.string R.cl,.string R.us,.int .i64 R.lv,.int .i64 R.nw,.slice a1 n1 c1,.slice a2 n2 c2],.slice la ln lc] w (OcG B row (1,0,[]) w):=by
 have B3:=(((Below.refl w.heap.size w).alloc nl (.cells #[.slice a n c,.slice (some ⟨b,off,none⟩) m d,.slice e k2 f] 38)).alloc (by simp) (.cells #[.string R.cl,.string R.us,.int .i64 R.lv,.int .i64 R.nw,.slice a1 n1 c1,.slice a2 n2 c2] 40)).alloc (by simp;omega) (.cells #[.int .i64 0,.int .i64 0,.slice none 0 0] 33)
 have d0:=(B3.cell (p:=⟨b,off+k*4,none⟩) hb).trans s0
 have d1:=(B3.cell (p:=⟨b,off+k*4+1,none⟩) hb).trans s1
 have d2:=(B3.cell (p:=⟨b,off+k*4+2,none⟩) hb).trans s2
 have d3:=(B3.cell (p:=⟨b,off+k*4+3,none⟩) hb).trans s3
 have B4:=B3.alloc B3.size (.cells #[.int .i64 2,.string nmS,.int .i64 i,.int .i64 (-1)] 94)
 have RT:=(((Row.new w #[.slice a n c,.slice (some ⟨b,off,none⟩) m d,.slice e k2 f] 38).alloc (.cells #[.string R.cl,.string R.us,.int .i64 R.lv,.int .i64 R.nw,.slice a1 n1 c1,.slice a2 n2 c2] 40)).alloc (.cells #[.int .i64 0,.int .i64 0,.slice none 0 0] 33)).alloc (.cells #[.int .i64 2,.string nmS,.int .i64 i,.int .i64 (-1)] 94)
 have RR:=((Row.new (w.alloc (.cells #[.slice a n c,.slice (some ⟨b,off,none⟩) m d,.slice e k2 f] 38)) #[.string R.cl,.string R.us,.int .i64 R.lv,.int .i64 R.nw,.slice a1 n1 c1,.slice a2 n2 c2] 40).alloc (.cells #[.int .i64 0,.int .i64 0,.slice none 0 0] 33)).alloc (.cells #[.int .i64 2,.string nmS,.int .i64 i,.int .i64 (-1)] 94)
 have RO:=(Row.new ((w.alloc (.cells #[.slice a n c,.slice (some ⟨b,off,none⟩) m d,.slice e k2 f] 38)).alloc (.cells #[.string R.cl,.string R.us,.int .i64 R.lv,.int .i64 R.nw,.slice a1 n1 c1,.slice a2 n2 c2] 40)) #[.int .i64 0,.int .i64 0,.slice none 0 0] 33).alloc (.cells #[.int .i64 2,.string nmS,.int .i64 i,.int .i64 (-1)] 94)
 have RS:=Row.new (((w.alloc (.cells #[.slice a n c,.slice (some ⟨b,off,none⟩) m d,.slice e k2 f] 38)).alloc (.cells #[.string R.cl,.string R.us,.int .i64 R.lv,.int .i64 R.nw,.slice a1 n1 c1,.slice a2 n2 c2] 40)).alloc (.cells #[.int .i64 0,.int .i64 0,.slice none 0 0] 33)) #[.int .i64 2,.string nmS,.int .i64 i,.int .i64 (-1)] 94
 simp only [World.size_alloc] at RR RO RS
 have kin:(k:Int)<(m:Int):=by omega
 have HC:=hide h1
 clear s0 s1 s2 s3  h1
 go_enter Tryz.func23,Tryz.ntmps23
 go_wp2_with fail
 generalize ((((w.alloc (.cells #[.slice a n c,.slice (some ⟨b,off,none⟩) m d,.slice e k2 f] 38)).alloc (.cells #[.string R.cl,.string R.us,.int .i64 R.lv,.int .i64 R.nw,.slice a1 n1 c1,.slice a2 n2 c2] 40)).alloc (.cells #[.int .i64 0,.int .i64 0,.slice none 0 0] 33)).alloc (.cells #[.int .i64 2,.string nmS,.int .i64 i,.int .i64 (-1)] 94))=X at *
 have HB:=hide B4
 have LX:=hide (show w.heap.size+1+1+1<X.heap.size from RS.lt)
 clear B3 B4 d0 d1 d2 d3 hb kin hkm hm
 refine (uh HC _ (uh HB)).mono ?_
 rintro r w4 ⟨⟨_,nm,tx,xa,xn,xc,rfl,rfl,hv⟩,hb4⟩
 have C5:=(Below.refl w4.heap.size w4).alloc nl (.cells #[.int .i64 0,.int .i64 nm,.string tx,.slice xa xn xc] 96)
 have C4:=hb4.trans (C5.mono hb4.size)
 have RF:=Row.new w4 #[.int .i64 0,.int .i64 nm,.string tx,.slice xa xn xc] 96
 have HV:=hide (hv.below C5 nl)
 clear hv
 replace RT:=RT.after C4 nl
 replace RR:=RR.after C4 nl
 replace RO:=RO.after C4 nl
 replace RS:=RS.after C4 nl
 replace HB:=hide ((uh HB).trans (C4.mono (uh HB).size))
 clear hb4 C5 C4 HC
 obtain rfl:nm=1:=(uh HV).1
 obtain ⟨x0,x1,x2,x3⟩:=row4V RF
 obtain ⟨t0,t1,t2,t3⟩:=row4V RS
 dsimp only
 obtain ⟨t0,t1,t2,t3⟩:=row4V RS
 obtain ⟨o0,o1,o2⟩:=rowT3 RO
 have of:=fun j=>RO.frozen j
 obtain ⟨p0,p1,p2⟩:=rowT3 (((RO.set 0 (.int .i64 1)).set 1 (.int .i64 0)).set 2 (.slice none 0 0))
 have HBE:=hide ((((uh HB).setCell (p:=⟨w.heap.size+1+1,0,none⟩) (by simp;omega) (.int .i64 1)).setCell (p:=⟨w.heap.size+1+1,1,none⟩) (by simp;omega) (.int .i64 0)).setCell (p:=⟨w.heap.size+1+1,2,none⟩) (by simp;omega) (.slice none 0 0))
 clear RT RR RO HB
 try dsimp only
 go_wp2_with fail
 exact bodyPost_ret (v:=.agg #[.int .i64 1,.int .i64 0,.slice none 0 0]) (by simp [results,Tryz.results23,go_sem,p0,p1,p2]) rfl ⟨⟨none,0,rfl,World.ownsRow_nil _ _ _ _⟩,grown_of (uh HBE) _,Nat.zero_le _,fun j h=>absurd h (Nat.not_lt_zero _)⟩

end Go.Proofs.YtedlocniojlhfaaGreatDoor
