/-
  The model's walk over a tree. Own work.
-/
import Derived.Test.YtcpdodmoheebaaaGreatDoorMXAQ
import Derived.Deep.AppendLies
namespace Go.Proofs.YtcpdodmoheebaaaGreatDoor
set_option maxRecDepth 100000
set_option maxHeartbeats 6400000
open Go.RowKit
set_option linter.unusedVariables false
theorem Gl {f:Int→List Int→List Int}{M:Nat}(c:∀ k a,(f k a).length≤max a.length M+1)(top:Int):∀ (b a:List Int),(Bh f top b a).length≤max a.length M+b.length+1
 | [],a=>by rw [Bh,List.length_append,List.length_singleton,List.length_nil];omega
 | k ::b,a=>by
  rw [Bh]
  split
  ·rw [List.length_append,List.length_singleton,List.length_cons];omega
  ·have h1:=Gl c top b (f k a)
   have h2:=c k a
   rw [List.length_cons];omega
theorem Er {K:List (List Int)}(h3:∀ b∈K,b.length≤3):∀ (n:Nat) (top:Int) (a:List Int),(Az K n top a).length≤max a.length (K.length+3 * n)+1
 | 0,top,a=>by rw [Az,List.length_append,List.length_singleton];omega
 | n+1,top,a=>by
  rw [Az]
  dsimp only
  split
  ·rw [List.length_append,List.length_singleton];omega
  ·rename_i hc
   have h1:=Gl (M:=K.length+3 * n) (Er h3 n) top (K.getD top.toNat []) a
   have h2:(K.getD top.toNat []).length≤3:=by
    rw [List.getD_eq_getElem?_getD]
    cases e:K[top.toNat]? with
    | none=>simp
    | some b=>exact h3 b (List.mem_of_getElem? e)
   omega
def FE (w:World) (v:Value) (w':World) (v':Value):Prop:=(∀ k,k < w.heap.size→some k≠v.ownBlock→w'.heap[k]? =w.heap[k]?)∧(∀ q,v'.ownBlock=some q→v.ownBlock=some q∨w.heap.size≤q)∧w.heap.size≤w'.heap.size
theorem FE.refl (w:World)(a:Value):FE w a w a:=⟨fun _ _ _=>rfl,fun b h=> .inl h,Nat.le_refl _⟩
theorem FE.trans {w a b:World}{c d f:Value}(h:FE w c a d)(k:FE a d b f):FE w c b f:=
 ⟨fun j g i=>(k.1 j (Nat.lt_of_lt_of_le g h.2.2) (fun e=>by
  rcases h.2.1 j e.symm with e' | e'
  ·exact i e'.symm
  ·omega)).trans (h.1 j g i),fun l m=>by
  rcases k.2.1 l m with e | e
  ·exact h.2.1 l e
  ·exact .inr (Nat.le_trans h.2.2 e),Nat.le_trans h.2.2 k.2.2⟩
theorem BR {w w':World}{b:Obj}{a:Value}{g n c:Nat}(d:(w.alloc b).grownBy w' a.ownBlock)(f:a.ownBlock=some g∨g=w.heap.size+1):FE w a w' (.slice (some ⟨g,0,none⟩) n c):=
 ⟨fun k h i=>(d.block k (by simp;omega) i).trans (Below.heap_alloc w b k h),fun j l=>by
  have:g=j:=by simpa [Value.ownBlock] using l
  subst this
  rcases f with e | e
  ·exact .inl e
  ·right;omega,by have:=d.size;simp at this;omega⟩
theorem Ao.keep {w w':World}{a f:Value}{b:Nat}{c:Array Value}{t:TypeId}(d:Ao w b c t)(h:FE w a w' f)(g:a.ownBlock≠some b):Ao w' b c t:=⟨(h.1 b d.lt (fun e=>g e.symm)).trans d.out⟩
def JA (B:Nat) (w:World) (v:Value) (R:List Int) (e:Ending) (w':World):Prop:=∃ v',e= .returned v'∧w'.ownsRow B 3 1 v' R.length (Bk R)∧Below B w w'∧FE w v w' v'
theorem CD {w:World}{B:Nat}{b:Value}{a:List Int}{x:Int}(h:w.ownsRow B 3 1 b (a.length+1) (Bk a ++ [.int .i64 x])):w.ownsRow B 3 1 b (a ++ [x]).length (Bk (a ++ [x])):=by
 rw [List.length_append,List.length_singleton,Bk,List.map_append]
 exact h
theorem FF {K:List (List Int)}{n:Nat}{top:Int}{a:List Int}(h:top < 0∨(K.length:Int)≤top∨K.length < a.length):∀ fuel,Az K fuel top a=a ++ [-1]
 | 0=>rfl
 | n+1=>by rw [Az];exact if_pos h
theorem DX (a:Option Addr)(n c:Nat)(B:Nat)(top:Int)(d:List Int)(q:Value)(w:World)(E:n≤4000)(h:top < 0∨(n:Int)≤top∨n < d.length)(F:d.length≤100000)(r:B≤w.heap.size)(j:w.ownsRow B 3 1 q d.length (Bk d)):
  Calls Tryz.prog 71 #[.slice a n c,.int .i64 top,q] w fun e w'=>JA B w q (d ++ [-1]) e w':=by
 obtain ⟨s,t,v,x,y⟩:=info_parts L3
 obtain ⟨G,H,rfl,_⟩:=Av j
 rcases (show top < 0∨(0≤top∧(n:Int)≤top)∨(0≤top∧top < n∧n < d.length) by omega) with h1 | ⟨h0,h2⟩ | ⟨h0,h2,h3⟩
 ·have z:top < 0:=h1
  go_enter Tryz.func71,Tryz.ntmps71
  go_wp2_with (at_builtin;refine wpList_append_lies _ rfl _ _ 95 rfl B 3 s (.int .i64 0) 1 8 Tryz.underlying95 t v x y rfl (by decide) _ _ _ rfl (World.ownsRow.alloc j _) ⟨w.heap.size,0,none⟩ 1 1 [.int .i64 (-1)] rfl rfl ?a1 ?a2 (by decide) ?a3 ?a4 ?a5 _ rfl ?_)
  first | (case a1=>exact CT _ _ _ _ (by simp)) | skip
  case a2=>first | (intro u hu;simp at hu;subst hu;rfl) | rfl
  case a3=>unfold maxLen;omega
  case a4=>omega
  case a5=>first | (simp;omega) | omega
  intro g cap A f b i C
  have k:=BR (n:=d.length+1) (c:=cap) b i
  have l:=((Below.refl B w).alloc r (.cells #[.int .i64 (-1)] 3)).grown b (by simp;omega) (fun m o=>(j.lt m o).1)
  have p:=CD f
  clear b i f
  go_wp2_with fail
  go_ret
  exact ⟨_,rfl,p,l,k⟩
 ·have z: ¬ top < 0:=by omega
  have D:(n:Int)≤top:=h2
  go_enter Tryz.func71,Tryz.ntmps71
  go_wp2_with (at_builtin;refine wpList_append_lies _ rfl _ _ 95 rfl B 3 s (.int .i64 0) 1 8 Tryz.underlying95 t v x y rfl (by decide) _ _ _ rfl (World.ownsRow.alloc j _) ⟨w.heap.size,0,none⟩ 1 1 [.int .i64 (-1)] rfl rfl ?b1 ?b2 (by decide) ?b3 ?b4 ?b5 _ rfl ?_)
  first | (case b1=>exact CT _ _ _ _ (by simp)) | skip
  case b2=>first | (intro u hu;simp at hu;subst hu;rfl) | rfl
  case b3=>unfold maxLen;omega
  case b4=>omega
  case b5=>first | (simp;omega) | omega
  intro g cap A f b i C
  have k:=BR (n:=d.length+1) (c:=cap) b i
  have l:=((Below.refl B w).alloc r (.cells #[.int .i64 (-1)] 3)).grown b (by simp;omega) (fun m o=>(j.lt m o).1)
  have p:=CD f
  clear b i f
  go_wp2_with fail
  go_ret
  exact ⟨_,rfl,p,l,k⟩
 ·have z: ¬ top < 0:=by omega
  have D: ¬ ((n:Int)≤top):=by omega
  have I:(n:Int) < (d.length:Int):=by omega
  go_enter Tryz.func71,Tryz.ntmps71
  go_wp2_with (at_builtin;refine wpList_append_lies _ rfl _ _ 95 rfl B 3 s (.int .i64 0) 1 8 Tryz.underlying95 t v x y rfl (by decide) _ _ _ rfl (World.ownsRow.alloc j _) ⟨w.heap.size,0,none⟩ 1 1 [.int .i64 (-1)] rfl rfl ?c1 ?c2 (by decide) ?c3 ?c4 ?c5 _ rfl ?_)
  first | (case c1=>exact CT _ _ _ _ (by simp)) | skip
  case c2=>first | (intro u hu;simp at hu;subst hu;rfl) | rfl
  case c3=>unfold maxLen;omega
  case c4=>omega
  case c5=>first | (simp;omega) | omega
  intro g cap A f b i C
  have k:=BR (n:=d.length+1) (c:=cap) b i
  have l:=((Below.refl B w).alloc r (.cells #[.int .i64 (-1)] 3)).grown b (by simp;omega) (fun m o=>(j.lt m o).1)
  have p:=CD f
  clear b i f
  go_wp2_with fail
  go_ret
  exact ⟨_,rfl,p,l,k⟩
theorem Jc {f:Int→List Int→List Int}{top:Int}{a:List Int}{j:Nat}(c:j < a.length)(b:List Int):Bh f top (a.drop j) b=if top≤a[j] then b ++ [-1] else Bh f top (a.drop (j+1)) (f a[j] b):=by
 rw [List.drop_eq_getElem_cons c,Bh]
theorem Ck (a:Option Addr)(n c:Nat)(N:List Nd)(D:World)(B:Nat)(I:Dx D a n c N)(ar:D.heap.size≤B)(Z:n≤4000)(h3:∀ au∈N.map Nd.kids,au.length≤3):
  ∀ (fuel:Nat) (top:Int) (d:List Int) (i:Value) (w:World),fuel≤4000→(N.length≤fuel∨top < fuel)→d.length≤100000→Below D.heap.size D w→B≤w.heap.size→w.ownsRow B 3 1 i d.length (Bk d)→
  Calls Tryz.prog 71 #[.slice a n c,.int .i64 top,i] w fun e w'=>JA B w i (Az (N.map Nd.kids) fuel top d) e w':=by
 have J:=Ab I.len
 have L:=Ab (show (N.map Nd.kids).length=n by rw [List.length_map,I.len])
 have aa:=Ab h3
 obtain ⟨m,ab,ac,ad,ae⟩:=info_parts L3
 intro fuel
 induction fuel with
 | zero=>
  intro top d i w _ av M O E r
  have hl:=Aa J
  rw [FF (K:=N.map Nd.kids) (n:=n) (by rw [List.length_map];omega) 0]
  exact DX a n c B top d i w Z (by omega) M E r
 | succ fuel af=>
  intro top d i w aI av M O E r
  by_cases hu:top < 0∨(n:Int)≤top∨n < d.length
  ·rw [FF (K:=N.map Nd.kids) (n:=n) (by rw [Aa L];exact hu) (fuel+1)]
   exact DX a n c B top d i w Z hu M E r
  ·obtain ⟨t,rfl⟩:∃ t:Nat,top=(t:Int):=⟨top.toNat,by omega⟩
   have aw:t < n:=by omega
   have aJ:d.length≤n:=by omega
   have P:t < N.length:=by rw [Aa J];exact aw
   have aK: ¬ ((t:Int) < 0):=by omega
   have aL: ¬ ((n:Int)≤(t:Int)):=by omega
   have aM:(t:Int) < (n:Int):=by omega
   have aN: ¬ ((n:Int) < (d.length:Int)):=by omega
   have aO:t≤fuel:=by have:=Aa J;omega
   have ag:=Ab (show Az (N.map Nd.kids) (fuel+1) (t:Int) d=Bh (Az (N.map Nd.kids) fuel) (t:Int) (N[t].kids) d by
    rw [Az]
    dsimp only
    rw [if_neg (by rw [Aa L];exact hu),Int.toNat_natCast,List.getD_eq_getElem?_getD,List.getElem?_map,List.getElem?_eq_getElem P]
    rfl)
   have Q:N[t].kids.length≤3:=Aa aa _ (List.mem_map_of_mem (List.getElem_mem P))
   rw [Aa ag]
   clear ag hu
   obtain ⟨b,ax,rfl,ay,an,nn,aP,aQ,o,aR,ah,c1,c2,c3,c4,az,G⟩:=I.cells t P
   have c4:=(O.cell (p:=⟨b,ax+t * 5+4,none⟩) ay).trans c4
   have R:=Ab (fun k d=>Er (K:=N.map Nd.kids) (Aa aa) fuel k d)
   rw [Aa L] at R
   generalize N[t]=x at ah c1 c2 c3 c4 az G Q ⊢
   generalize Az (N.map Nd.kids) fuel=F at af R ⊢
   have ai:=Ab G.len
   have aS:o≤3:=by rw [← G.len];exact Q
   obtain ⟨aA,aB,rfl,_⟩:=Av r
   have aj:=Ab (show Bh F (t:Int) (x.kids.drop 0) d=Bh F (t:Int) x.kids d by rw [List.drop_zero])
   generalize Bh F (t:Int) x.kids d=H at aj ⊢
   clear ah c1 c2 c3 Q
   go_enter Tryz.func71,Tryz.ntmps71
   go_wp2_with fail
   go_loopw [2,33] (fun u m wr=>∃ (j:Nat) (h:List Int),j≤o∧m= .int .i64 j∧Hid (Bh F (t:Int) (x.kids.drop j) h=H)∧h.length≤n+3 * fuel+j∧wr.ownsRow B 3 1 u h.length (Bk h)∧Below B w wr∧FE w (.slice aA d.length aB) wr u) (fun _ m _=>o - (intOf m).toNat)
   case atStart=>exact ⟨0,d,by omega,rfl,aj,by omega,r,Below.refl _ _,FE.refl _ _⟩
   case round=>
    obtain ⟨j,h,aT,rfl,ak,aU,q,s,S⟩:=hrel
    obtain ⟨aV,aW,rfl,_⟩:=Av q
    have T:=Nat.le_trans E s.size
    have al:=O.trans (s.mono ar)
    by_cases ao:j < o
    ·have aX:(j:Int) < (o:Int):=by omega
     have ap:j < x.kids.length:=by rw [Aa ai];exact ao
     obtain ⟨aY,aZ,rfl,a0,aC⟩:=(G.below al (Nat.le_refl _)).cells j ap
     have v:=Ab (Jc (f:=F) (top:=(t:Int)) ap h)
     rw [Aa ak] at v
     have aq:=Ab ao
     generalize x.kids[j]=y at aC v
     by_cases hy:(t:Int)≤y
     ·have z:=Ab (show H=h ++ [-1] by rw [Aa v,if_pos hy])
      go_wp2_with (at_builtin;refine wpList_append_lies _ rfl _ _ 95 rfl B 3 m (.int .i64 0) 1 8 Tryz.underlying95 ab ac ad ae rfl (by decide) _ _ _ rfl (World.ownsRow.alloc q _) ⟨wr.heap.size,0,none⟩ 1 1 [.int .i64 (-1)] rfl rfl ?d1 ?d2 (by decide) ?d3 ?d4 ?d5 _ rfl ?_)
      first | (case d1=>exact CT _ _ _ _ (by simp)) | skip
      case d2=>first | (intro u hu;simp at hu;subst hu;rfl) | rfl
      case d3=>unfold maxLen;omega
      case d4=>omega
      case d5=>first | (simp;omega) | omega
      intro g cap aD A l C aE
      have U:=BR (n:=h.length+1) (c:=cap) l C
      have V:=(s.alloc T (.cells #[.int .i64 (-1)] 3)).grown l (by simp;omega) (fun W X=>(q.lt W X).1)
      have Y:=CD A
      clear l C A
      go_wp2_with fail
      go_ret
      exact ⟨_,rfl,by rw [Aa z];exact Y,V,S.trans U⟩
     ·have z:=Ab (show Bh F (t:Int) (x.kids.drop (j+1)) (F y h)=H by rw [Aa v,if_neg hy])
      have a1:=Aa R y h
      clear v
      go_wp2_with (go_at_call 71;refine (af y h _ wr (by omega) (by omega) (by omega) al T q).mono ?_;rintro e a2 ⟨a3,rfl,aF,aG,aH⟩)
      go_roundw
      case rel=>exact ⟨j+1,F y h,Aa aq,by go_num,z,by omega,aF,s.trans aG,S.trans aH⟩
      case measure=>have:=Aa aq;simp [intOf];omega
    ·have e:j=o:=by omega
     subst e
     have z:=Ab (show H=h ++ [(t:Int)] by
      rw [← Aa ak,List.drop_of_length_le (by rw [Aa ai];exact Nat.le_refl _),Bh])
     go_wp2_with (at_builtin;refine wpList_append_lies _ rfl _ _ 95 rfl B 3 m (.int .i64 0) 1 8 Tryz.underlying95 ab ac ad ae rfl (by decide) _ _ _ rfl (World.ownsRow.alloc q _) ⟨wr.heap.size,0,none⟩ 1 1 [.int .i64 (t:Int)] rfl rfl ?e1 ?e2 (by decide) ?e3 ?e4 ?e5 _ rfl ?_)
     first | (case e1=>exact CT _ _ _ _ (by simp)) | skip
     case e2=>first | (intro u hu;simp at hu;subst hu;rfl) | rfl
     case e3=>unfold maxLen;omega
     case e4=>omega
     case e5=>first | (simp;omega) | omega
     intro g cap aD A l C aE
     have U:=BR (n:=h.length+1) (c:=cap) l C
     have V:=(s.alloc T (.cells #[.int .i64 (t:Int)] 3)).grown l (by simp;omega) (fun W X=>(q.lt W X).1)
     have Y:=CD A
     clear l C A
     go_wp2_with fail
     go_ret
     exact ⟨_,rfl,by rw [Aa z];exact Y,V,S.trans U⟩
end Go.Proofs.YtcpdodmoheebaaaGreatDoor
