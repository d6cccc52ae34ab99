/-
  DA, DB, TO. Own work.
-/
import Derived.Test.YtcpdodmoheebaaaGreatDoorMXAC
import Derived.Test.YtcpdodmoheebaaaGreatDoorMXAD
import Derived.Test.YtcpdodmoheebaaaGreatDoorMXAE
import Derived.Test.YtcpdodmoheebaaaGreatDoorMXAF
import Derived.Deep.RegionHeld3
import Derived.Test.YtcpdodmoheebaaaGreatDoorMXAG
import Derived.Test.YtcpdodmoheebaaaGreatDoorMXAK
namespace Go.Proofs.YtcpdodmoheebaaaGreatDoor
set_option maxRecDepth 100000
set_option maxHeartbeats 1600000
open Go.RowKit
set_option linter.unusedVariables false
theorem As.drewN {a b:Nat}(w:World)(k:Nat):As a b w (w.drewN k):=As.of_below (below_drewN (Below.refl w.heap.size w) k) (Nat.le_refl _)
theorem As.then_below {a b B:Nat}{w c d:World}(t:As a b w c)(h:Below B c d)(i:w.heap.size≤B):As a b w d:=
 ⟨h.os.trans t.os,h.tape.trans t.tape,h.output.trans t.output,Nat.le_trans t.size h.size,fun k f g=>(h.block k (by omega)).trans (t.block k f g)⟩
theorem Rd.setFar {w w':World}{b:Nat}{a:Option Addr}{n c p:Nat}(h:Rd w b a n c p)(d:Below (b+1) w w'):Rd w' b a n c p:=h.after d (Nat.lt_succ_self _)
theorem AK (d:Nat)(a:Option Addr)(n c:Nat)(w:World)(h:Ba w d a n c):
  Calls Tryz.prog 14 #[.pointer (some ⟨d,0,none⟩)] w fun e w'=>∃ r:Int,e= .returned (.int .i64 r)∧0≤r∧r≤255∧Ba w' d a n c∧As d (d+1) w w':=by
 obtain ⟨p,h⟩:=h
 have g:=h.row.cell 0
 have c1:=h.row.cell 1
 have m:=h.row.frozen 1
 simp at g c1
 have o:=h.small
 by_cases f:p < n
 ·obtain ⟨b,q,s,i,t,u,j,k⟩:=h.cells p f
  subst i
  have l:(p:Int) < (n:Int):=by omega
  go_enter Tryz.func14,Tryz.ntmps14
  go_wp2
  go_quiet (fail)
  go_wp2
  go_quiet (fail)
  go_wp2
  go_ret
  refine ⟨_,rfl,j,k,⟨p+1,?_⟩,?_⟩
  ·rw [show ((p:Int)+1)=((p+1 :Nat):Int) from by omega]
   exact (h.after (below_drewN (Below.refl (d+1) w) _) (by omega)).step f
  ·exact (As.drewN w _).trans (As.setCell _ ⟨d,1,none⟩ _ (Nat.le_refl d) (Nat.lt_succ_self d))
 ·have l:(n:Int)≤(p:Int):=by omega
  go_enter Tryz.func14,Tryz.ntmps14
  go_wp2
  go_quiet (fail)
  go_wp2
  go_ret
  exact ⟨_,rfl,by omega,by omega,⟨p,h.after (below_drewN (Below.refl (d+1) w) _) (by omega)⟩,As.drewN w _⟩
theorem Ba.after {w w':World}{B b:Nat}{a:Option Addr}{n c:Nat}(h:Ba w b a n c)(d:Below B w w')(f:b < B):Ba w' b a n c:=by
 obtain ⟨p,h⟩:=h
 exact ⟨p,h.after d f⟩
theorem Ba.lt {w:World}{b:Nat}{a:Option Addr}{n c:Nat}(h:Ba w b a n c):b < w.heap.size:=by
 obtain ⟨p,h⟩:=h
 exact h.row.lt
theorem Lh (w:World)(k:Nat)(a:k < 8):∃ s:ByteArray,s.size≤10∧(w.alloc (.cells #[.string ⟨#[114,101,97,100]⟩,.string ⟨#[119,114,105,116,101]⟩,.string ⟨#[97,100,109,105,110]⟩,.string ⟨#[109,97,105,108]⟩,.string ⟨#[97]⟩,.string ⟨#[98]⟩,.string ⟨#[99,46,100]⟩,.string ⟨#[122,95,57]⟩] 9)).cell? ⟨w.heap.size,k,none⟩=some (.string s):=by
 have h:=(Ao.new w #[.string ⟨#[114,101,97,100]⟩,.string ⟨#[119,114,105,116,101]⟩,.string ⟨#[97,100,109,105,110]⟩,.string ⟨#[109,97,105,108]⟩,.string ⟨#[97]⟩,.string ⟨#[98]⟩,.string ⟨#[99,46,100]⟩,.string ⟨#[122,95,57]⟩] 9).cell k
 match k,a with
 | 0,_=>exact ⟨_,by decide,h⟩
 | 1,_=>exact ⟨_,by decide,h⟩
 | 2,_=>exact ⟨_,by decide,h⟩
 | 3,_=>exact ⟨_,by decide,h⟩
 | 4,_=>exact ⟨_,by decide,h⟩
 | 5,_=>exact ⟨_,by decide,h⟩
 | 6,_=>exact ⟨_,by decide,h⟩
 | 7,_=>exact ⟨_,by decide,h⟩
def Li (R:Nat) (a:Option Addr) (n c:Nat) (w:World) (e:Ending) (w':World):Prop:=
 ∃ s:ByteArray,e= .returned (.string s)∧s.size≤1000∧Ba w' R a n c∧As R (R+1) w w'
theorem EU (f:Nat)(a:Option Addr)(n c:Nat)(w:World)(h:Ba w f a n c):
  Calls Tryz.prog 66 #[.pointer (some ⟨f,0,none⟩)] w fun e w'=>Li f a n c w e w':=by
 go_enter Tryz.func66,Tryz.ntmps66
 go_wp2_with fail
 refine (AK f a n c w h).mono ?_
 rintro e j ⟨x,rfl,B,C,h1,b⟩
 by_cases g:x % 8=6
 ·have m:(x % 8== 6)=true:=beq_iff_eq.2 g
  clear g
  go_wp2_with fail
  refine (AK f a n c _ h1).mono ?_
  rintro e p ⟨y,rfl,q,r,h2,i⟩
  go_wp2_with fail
  refine (Bn _ _ (by omega) (by omega)).mono ?_
  rintro e t ⟨rfl,d⟩
  have u:=BD (x / 8).toNat
  have D:(⟨#[115]⟩:ByteArray).size=1:=rfl
  have E:(⟨#[58]⟩:ByteArray).size=1:=rfl
  go_wp2_with fail
  refine (Bn _ _ (by omega) (by omega)).mono ?_
  rintro e F ⟨rfl,o⟩
  have G:=BD y.toNat
  have k:=h2.lt
  go_wp2_with fail
  go_ret
  refine ⟨_,rfl,?_,(h2.after d k).after o (Nat.lt_of_lt_of_le k d.size),((b.trans i).then_below d (Nat.le_trans b.size i.size)).then_below o (Nat.le_trans (Nat.le_trans b.size i.size) d.size)⟩
  rw [Ae,Ae,Ae]
  omega
 by_cases l:x % 8=7
 ·have m:(x % 8== 6)=false:=beq_eq_false_iff_ne.2 g
  have v:(x % 8== 7)=true:=beq_iff_eq.2 l
  clear g l
  by_cases z: 240 < x
  ·go_wp2_with fail
   go_ret
   exact ⟨_,rfl,by decide,h1,b⟩
  ·have H: ¬ (240 < x):=z
   go_wp2_with fail
   refine (AK f a n c _ h1).mono ?_
   rintro e p ⟨y,rfl,q,r,h2,i⟩
   go_wp2_with fail
   refine (Bn _ _ (by omega) (by omega)).mono ?_
   rintro e t ⟨rfl,d⟩
   have u:=BD (y % 90).toNat
   have k:=h2.lt
   go_wp2_with fail
   go_ret
   refine ⟨_,rfl,?_,h2.after d k,(b.trans i).then_below d (Nat.le_trans b.size i.size)⟩
   rw [Ae]
   have:(⟨#[120,46]⟩:ByteArray).size=2:=rfl
   omega
 have m:(x % 8== 6)=false:=beq_eq_false_iff_ne.2 g
 have v:(x % 8== 7)=false:=beq_eq_false_iff_ne.2 l
 clear g l
 obtain ⟨s,hs,hc⟩:=Lh j (x / 8 % 8).toNat (by omega)
 have A:=h1.lt
 go_wp2_with fail
 go_ret
 exact ⟨s,rfl,by omega,h1.after ((Below.refl j.heap.size j).alloc (Nat.le_refl _) _) A,b.then_below ((Below.refl j.heap.size j).alloc (Nat.le_refl _) _) b.size⟩
set_option maxHeartbeats 3200000
theorem As.grown {b c:Nat}{w a d:World}{row:Option Nat}(t:As b c w a)(f:a.grownBy d row)(g:∀ k,row=some k→w.heap.size≤k):As b c w d:=
 t.then_below (B:=w.heap.size) ((Below.refl w.heap.size a).grown f t.size g) (Nat.le_refl _)
structure Bj (w:World) (base:Nat) (x:Option Addr) (K:List ByteArray) (cx:Nat):Prop where
 own:w.ownsRow base 9 1 (.slice x K.length cx) K.length (K.map Value.string)
 small:∀ s∈K,s.size≤1000
theorem Bj.sizes {w:World}{b c:Nat}{x:Option Addr}{K:List ByteArray}(h:Bj w b x K c):∀ j,j < K.length→(CK K j).size≤maxLen:=fun j a=>by
 rw [BE K j a]
 have:=h.small _ (List.getElem_mem a)
 unfold maxLen;omega
theorem Bj.strs {w:World}{b a:Nat}{x:Option Addr}{K:List ByteArray}(h:Bj w b x K a):Bd w x K.length a K:=Bd.of_owns h.own h.sizes
theorem Bj.nil (w:World)(a:Nat):Bj w a none [] 0:=⟨World.ownsRow_nil _ _ _ _,by simp⟩
theorem Bj.touch {w w':World}{a d b c:Nat}{x:Option Addr}{K:List ByteArray}(h:Bj w a x K c)(t:As d b w w')(f:b≤a):Bj w' a x K c:=
 ⟨BM h.own (fun y hy=>by subst hy;have:=h.own.lt _ rfl;exact t.block _ this.2 (.inr (by omega))),h.small⟩
theorem Bj.below {w w':World}{a B b:Nat}{x:Option Addr}{K:List ByteArray}(h:Bj w a x K b)(c:Below B w w')(d:w.heap.size≤B):Bj w' a x K b:=
 ⟨BM h.own (fun y hy=>by subst hy;have:=h.own.lt _ rfl;exact c.block _ (by omega)),h.small⟩
theorem Bj.mono {w:World}{a b c:Nat}{x:Option Addr}{K:List ByteArray}(h:Bj w a x K c)(d:b≤a):Bj w b x K c:=⟨D0 h.own d,h.small⟩
def Jk (w:World) (m:Nat) (e:Ending) (w':World):Prop:=∃ x cx K,e= .returned (.slice x K.length cx)∧K.length≤m∧Bj w' w.heap.size x K cx∧Below w.heap.size w w'
theorem IG (m:Nat)(f:Int)(w:World)(hm:m≤100)(H: 0≤f)(I:f≤200):
  Calls Tryz.prog 19 #[.int .i64 m,.int .i64 f] w fun e w'=>Jk w m e w':=by
 obtain ⟨q,r,t,v,y⟩:=info_parts Kh
 go_enter Tryz.func19,Tryz.ntmps19
 go_wp2_with fail
 go_loopw [5,6] (fun z c wr=>∃ (k:Nat) (K:List ByteArray) (x:Option Addr) (a:Nat),k≤m∧c= .int .i64 k∧z= .slice x K.length a∧K.length≤k∧Bj wr w.heap.size x K a∧Below w.heap.size w wr) (fun _ c _=>m - (intOf c).toNat)
 case atStart=>exact ⟨0, [],none,0,Nat.zero_le _,rfl,rfl,Nat.le_refl _,Bj.nil _ _,Below.refl _ _⟩
 case round=>
  obtain ⟨k,K,x,a,i,rfl,rfl,J,d,b⟩:=hrel
  by_cases L:k < m
  ·have A:(k:Int) < (m:Int):=by omega
   go_wp2_with fail
   refine (Bn _ _ (by omega) (by omega)).mono ?_
   rintro e B ⟨rfl,g⟩
   have M:=BD (f+(k:Int)).toNat
   have N:(⟨#[119]⟩:ByteArray).size=1:=rfl
   have j:=b.trans (g.mono b.size)
   have l:=d.below g (Nat.le_refl _)
   have n:=l.own
   have C:=j.size
   clear d g b
   go_wp2_with (at_builtin;refine wpList_append_own _ rfl _ _ 54 rfl w.heap.size 9 q (.string ByteArray.empty) 1 16 Tryz.underlying54 r t v y rfl (by decide) _ _ _ rfl (n.alloc _) ⟨B.heap.size,0,none⟩ 1 1 [.string (⟨#[119]⟩ ++Dz (f+(k:Int)).toNat)] rfl rfl ?c1 ?c2 ?c3 ?c4 ?c5 ?_)
   case c1=>exact cell_one_new _ _ _
   case c2=>intro u hu;simp at hu;subst hu;rfl
   case c3=>unfold maxLen;omega
   case c4=>omega
   case c5=>simp;omega
   intro O D h o _
   have E:Below w.heap.size w D:=(j.alloc C _).grown o (by simp;omega) (fun k i=>(n.lt k i).1)
   obtain ⟨F,G,p⟩:=Cy h
   rw [p] at h ⊢
   clear o p
   go_wp2
   go_roundw
   case rel=>exact ⟨k+1,K ++ [⟨#[119]⟩ ++Dz (f+(k:Int)).toNat],F,G,by omega,by go_num,by rw [List.length_append];rfl,by simp;omega,⟨by rw [List.map_append,List.length_append];exact h,fun s hs=>by
    rcases List.mem_append.1 hs with hs | hs
    ·exact l.small s hs
    ·simp only [List.mem_singleton] at hs;subst hs;rw [Ae];omega⟩,E⟩
   case measure=>simp [intOf] <;> omega
  ·have A: ¬ ((k:Int) < (m:Int)):=by omega
   go_wp2
   go_ret
   exact ⟨x,a,K,rfl,by omega,d,b⟩
theorem EV (m f:Int)(w:World)(m0: 0≤m)(hm:m≤100)(a: 0≤f)(b:f≤200):
  Calls Tryz.prog 19 #[.int .i64 m,.int .i64 f] w fun e w'=>Jk w m.toNat e w':=by
 obtain ⟨k,rfl⟩:=Int.eq_ofNat_of_zero_le m0
 exact IG k f w (by omega) a b
def Lj (R:Nat) (a:Option Addr) (n c:Nat) (w:World) (top:Nat) (e:Ending) (w':World):Prop:=
 ∃ x cx K,e= .returned (.slice x K.length cx)∧K.length≤top∧Bj w' w.heap.size x K cx∧Ba w' R a n c∧As R (R+1) w w'
theorem DA {K M:List ByteArray}(h:Cb K M)(hs:∀ s∈K,s.size≤1000):∀ s∈M,s.size≤1000:=fun s hm=>hs s ((h.mem s).1 hm)
theorem Jl (b:Nat)(a:Option Addr)(n c:Nat)(w:World)(h:Ba w b a n c):
  Calls Tryz.prog 67 #[.pointer (some ⟨b,0,none⟩)] w fun e w'=>Lj b a n c w 64 e w':=by
 obtain ⟨L,M,N,O,P⟩:=info_parts Kh
 have Q:=h.lt
 go_enter Tryz.func67,Tryz.ntmps67
 go_wp2_with fail
 refine (AK b a n c w h).mono ?_
 rintro e R ⟨x,rfl,Z,aa,h1,p⟩
 clear h
 by_cases j:x % 13=12
 ·have S:(x % 13== 12)=true:=beq_iff_eq.2 j
  clear j
  go_wp2_with fail
  refine (AK b a n c R h1).mono ?_
  rintro e l ⟨y,rfl,ab,ac,h2,d⟩
  have f:=p.trans d
  clear h1 p d
  go_wp2_with fail
  refine (EV _ _ _ (by omega) (by omega) (by omega) (by omega)).mono ?_
  rintro e C ⟨ad,c3,ae,rfl,af,D,b3⟩
  go_wp2_with fail
  refine (DB _ _ _ _ _ D.strs (by omega)).mono ?_
  rintro e T ⟨q,c4,r,rfl,t,b4,g⟩
  have E:=b3.trans (b4.mono b3.size)
  have hl:=g.len
  go_wp2_with fail
  go_ret
  exact ⟨q,c4,r,rfl,by omega,⟨D0 t (Nat.le_trans f.size b3.size),DA g D.small⟩,h2.after E h2.lt,f.then_below E f.size⟩
 ·have S:(x % 13== 12)=false:=beq_eq_false_iff_ne.2 j
  clear j
  go_wp2_with fail
  go_loopw [4,5] (fun U v wr=>∃ (k:Int) (K:List ByteArray) (y:Option Addr) (z:Nat),0≤k∧k≤6∧(K.length:Int)+k≤6∧v= .int .i64 k∧U= .slice y K.length z∧Bj wr w.heap.size y K z∧Ba wr b a n c∧As b (b+1) w wr) (fun _ v _=>(intOf v).toNat)
  case atStart=>exact ⟨x % 13 % 7, [],none,0,by omega,by omega,by simp;omega,rfl,rfl,Bj.nil _ _,h1,p⟩
  case round=>
   obtain ⟨k,K,y,z,ag,ah,ai,rfl,rfl,m,o,i⟩:=hrel
   by_cases A: 0 < k
   ·go_wp2_with fail
    refine (EU b a n c wr o).mono ?_
    rintro e l ⟨s,rfl,V,h2,d⟩
    have F:=m.touch d (by omega)
    have f:=i.trans d
    have G:=F.own
    have W:=f.size
    clear m o i d
    go_wp2_with (at_builtin;refine wpList_append_own _ rfl _ _ 54 rfl w.heap.size 9 L (.string ByteArray.empty) 1 16 Tryz.underlying54 M N O P rfl (by decide) _ _ _ rfl (G.alloc _) ⟨l.heap.size,0,none⟩ 1 1 [.string s] rfl rfl ?c1 ?c2 ?c3 ?c4 ?c5 ?_)
    case c1=>exact cell_one_new _ _ _
    case c2=>intro u hu;simp at hu;subst hu;rfl
    case c3=>unfold maxLen;omega
    case c4=>omega
    case c5=>simp;omega
    intro aj C B H _
    have I:Below w.heap.size l C:=((Below.refl w.heap.size l).alloc W _).grown H (by simp;omega) (fun k A=>(G.lt k A).1)
    obtain ⟨X,Y,J⟩:=Cy B
    rw [J] at B ⊢
    clear H J
    go_wp2
    go_roundw
    case rel=>exact ⟨k - 1,K ++ [s],X,Y,by omega,by omega,by simp;omega,by go_num,by rw [List.length_append];rfl,⟨by rw [List.map_append,List.length_append];exact B,fun u hu=>by
     rcases List.mem_append.1 hu with hu | hu
     ·exact F.small u hu
     ·simp only [List.mem_singleton] at hu;subst hu;exact V⟩,h2.after I Q,f.then_below I (Nat.le_refl _)⟩
    case measure=>simp [intOf] <;> omega
   ·have ak: ¬ (0 < k):=A
    have al:K.length≤6:=by omega
    go_wp2_with fail
    refine (DB _ _ _ _ _ m.strs (by omega)).mono ?_
    rintro e T ⟨q,c4,r,rfl,t,b4,g⟩
    have hl:=g.len
    go_wp2_with fail
    go_ret
    exact ⟨q,c4,r,rfl,by omega,⟨D0 t i.size,DA g m.small⟩,o.after b4 o.lt,i.then_below b4 i.size⟩
set_option maxHeartbeats 6400000
def BQ (j:Nat) (o:FP) (e:Ending):Prop:=match o with
 | .bad c=>∃ (k m n:Int) (x:ByteArray),e= .returned (.tuple #[.agg #[.int .i64 k,.int .i64 m,.string x,.int .i64 (j:Int)],.int .i64 n,.int .i64 c])
 | .tok k m t w=>e= .returned (.tuple #[.agg #[.int .i64 k,.int .i64 m,.string (Bo t),.int .i64 (j:Int)],.int .i64 ((j+w:Nat):Int),.int .i64 0])
theorem GF (s:ByteArray)(j e:Nat):s.extract j e=Bo (((Ad s).drop j).take (e - j)):=by
 rw [← AC,Bt]
theorem CZ (w:World)(j:Nat):∃ a,((w.alloc (.cells #[.int .i64 0,.int .i64 0,.string ⟨#[]⟩,.int .i64 0] 30)).alloc (.cells #[.int .i64 0,.int .i64 0,.string ⟨#[]⟩,.int .i64 j] 30))=a∧Ao a w.heap.size #[.int .i64 0,.int .i64 0,.string ⟨#[]⟩,.int .i64 0] 30∧Ao a (w.heap.size+1) #[.int .i64 0,.int .i64 0,.string ⟨#[]⟩,.int .i64 j] 30∧Below w.heap.size w a∧a.heap.size=w.heap.size+2:=by
 refine ⟨_,rfl,(Ao.new w _ _).alloc _,?_,((Below.refl w.heap.size w).alloc (Nat.le_refl _) _).alloc (by simp) _,by simp⟩
 have:=Ao.new (w.alloc (.cells #[.int .i64 0,.int .i64 0,.string ⟨#[]⟩,.int .i64 0] 30)) #[.int .i64 0,.int .i64 0,.string ⟨#[]⟩,.int .i64 j] 30
 simpa using this
theorem An {w:World}{b:Nat}{c d f g:Value}{t:TypeId}(a:Ao w b #[c,d,f,g] t):w.cell? ⟨b,0,none⟩=some c∧w.cell? ⟨b,1,none⟩=some d∧w.cell? ⟨b,2,none⟩=some f∧w.cell? ⟨b,3,none⟩=some g∧∀ j,w.frozen? ⟨b,j,none⟩=false:=
 ⟨by simpa using a.cell 0,by simpa using a.cell 1,by simpa using a.cell 2,by simpa using a.cell 3,fun j=>a.frozen j⟩
theorem Ah {d:Func}{a t u:Tmp}(h:d.results= #[.cell a 30,.tmp t,.tmp u]){c:Array Value}{w:World}{b:Nat}{f g i j:Value}(k:c.getD a undef= .pointer (some ⟨b,0,none⟩))
  (l:w.cell? ⟨b,0,none⟩=some f)(m:w.cell? ⟨b,1,none⟩=some g)(n:w.cell? ⟨b,2,none⟩=some i)(o:w.cell? ⟨b,3,none⟩=some j):
  (results d c).run Tryz.prog w= .ok (.tuple #[.agg #[f,g,i,j],c.getD t undef,c.getD u undef]) w:=by
 rw [Array.getD_eq_getD_getElem?] at k
 simp [results,h,k,go_sem,l,m,n,o]
theorem I1 (s:ByteArray)(j:Nat)(w:World)(hs:s.size≤1048576)(D:j < s.size)(hl:DO (s[j].toNat:Int)=true):
  Calls Tryz.prog 11 #[.string s,.int .i64 j] w fun e w'=>BQ j (AM ((Ad s).drop j)) e∧Below w.heap.size w w':=by
 have K:(j:Int) < (s.size:Int):=by omega
 obtain ⟨E,F⟩:=Gy (p:=BU) (s:=s) (Nat.le_of_lt D)
 have m:=Ab (Bu BU s j)
 obtain ⟨L,G,h,n,z,M⟩:=CZ w j
 have H:=Ab hl
 clear hl
 go_enter Tryz.func11,Tryz.ntmps11
 go_wp2_with (go_at_call 21;refine (Am _ _).mono ?_;rintro e w' ⟨rfl,i⟩;rw [Aa H,i];clear i)
 clear G
 refine (En s j _ (by unfold maxLen;omega) (by omega)).mono ?_
 rintro e I ⟨rfl,rfl⟩
 generalize Bl BU s j=a at E F m ⊢
 have N:(j:Int)≤(a:Int):=by omega
 have O:(a:Int)≤(s.size:Int):=by omega
 obtain ⟨A,c1,c2,c3,B⟩:=An n
 have o:=(n.set 2 (.string (s.extract j a))).set 0 (.int .i64 3)
 have u:=(h.setFar (p:=⟨w.heap.size+1,2,none⟩) (by show w.heap.size≠w.heap.size+1;omega) (.string (s.extract j a))).setFar (p:=⟨w.heap.size+1,0,none⟩) (by show w.heap.size≠w.heap.size+1;omega) (.int .i64 3)
 have q:=(z.setCell (p:=⟨w.heap.size+1,2,none⟩) (by show w.heap.size≤w.heap.size+1;omega) (.string (s.extract j a))).setCell (p:=⟨w.heap.size+1,0,none⟩) (by show w.heap.size≤w.heap.size+1;omega) (.int .i64 3)
 simp only [List.setIfInBounds_toArray,List.set_cons_succ,List.set_cons_zero] at o
 have C:=Ab (GF s j a)
 have P:(s.extract j a).size=a - j:=by rw [ByteArray.size_extract];omega
 go_wp2_with fail
 generalize (I.setCell ⟨w.heap.size+1,2,none⟩ (.string (s.extract j a))).setCell ⟨w.heap.size+1,0,none⟩ (.int .i64 3)=Q at o u q ⊢
 clear h n z A c1 c2 c3 B
 generalize s.extract j a=x at *
 refine (Fq x _).mono ?_
 rintro e R ⟨rfl,r⟩
 have n:=o.after r (Nat.le_refl _)
 have h:=u.after r (Nat.le_refl _)
 have t:=q.trans (r.mono q.size)
 clear o u q r
 obtain ⟨S,d1,d2,d3,T⟩:=An h
 obtain ⟨A,c1,c2,c3,B⟩:=An n
 cases i:Dc (Ad x)
 ·have v:=Ab i
  clear i
  by_cases J: 32 < a - j
  ·have y:((32 :Int) < (x.size:Int)):=by omega
   go_wp2_with fail
   have k:=Ac (b:=w.heap.size) t (Nat.le_refl _) (.int .i64 3) (.int .i64 0) (.string x) (.int .i64 j)
   obtain ⟨c,d,f,g,_⟩:=An (Aj h (.int .i64 3) (.int .i64 0) (.string x) (.int .i64 j))
   simp only [AY] at c d f g
   refine bodyPost_ret (Ah Tryz.results11 rfl c d f g) rfl ⟨?_,k⟩
   have l: 32 < Ap BU ((Ad s).drop j):=by have:=Aa m;omega
   rw [AM,if_pos l]
   exact ⟨_,_,_,_,rfl⟩
  ·have y: ¬ ((32 :Int) < (x.size:Int)):=by omega
   go_wp2_with fail
   have k:=Ac (b:=w.heap.size) t (Nat.le_refl _) (.int .i64 3) (.int .i64 0) (.string x) (.int .i64 j)
   obtain ⟨c,d,f,g,_⟩:=An (Aj h (.int .i64 3) (.int .i64 0) (.string x) (.int .i64 j))
   simp only [AY] at c d f g
   refine bodyPost_ret (Ah Tryz.results11 rfl c d f g) rfl ⟨?_,k⟩
   have l:Ap BU ((Ad s).drop j)=a - j:=by have:=Aa m;omega
   rw [AM,l,if_neg (by omega),← DF (((Ad s).drop j).take (a - j)),← Aa C,Aa v]
   simp only [BQ,Bt]
   rw [show j+(a - j)=a by omega];rfl
 ·have v:=Ab i
  clear i
  by_cases J: 32 < a - j
  ·have y:((32 :Int) < (x.size:Int)):=by omega
   go_wp2_with fail
   have k:=Ac (b:=w.heap.size) (t.setCell (p:=⟨w.heap.size+1,0,none⟩) (by show w.heap.size≤w.heap.size+1;omega) (.int .i64 4)) (Nat.le_refl _) (.int .i64 4) (.int .i64 0) (.string x) (.int .i64 j)
   obtain ⟨c,d,f,g,_⟩:=An (Aj (h.setFar (p:=⟨w.heap.size+1,0,none⟩) (by show w.heap.size≠w.heap.size+1;omega) (.int .i64 4)) (.int .i64 4) (.int .i64 0) (.string x) (.int .i64 j))
   simp only [AY] at c d f g
   refine bodyPost_ret (Ah Tryz.results11 rfl c d f g) rfl ⟨?_,k⟩
   have l: 32 < Ap BU ((Ad s).drop j):=by have:=Aa m;omega
   rw [AM,if_pos l]
   exact ⟨_,_,_,_,rfl⟩
  ·have y: ¬ ((32 :Int) < (x.size:Int)):=by omega
   go_wp2_with fail
   have k:=Ac (b:=w.heap.size) (t.setCell (p:=⟨w.heap.size+1,0,none⟩) (by show w.heap.size≤w.heap.size+1;omega) (.int .i64 4)) (Nat.le_refl _) (.int .i64 4) (.int .i64 0) (.string x) (.int .i64 j)
   obtain ⟨c,d,f,g,_⟩:=An (Aj (h.setFar (p:=⟨w.heap.size+1,0,none⟩) (by show w.heap.size≠w.heap.size+1;omega) (.int .i64 4)) (.int .i64 4) (.int .i64 0) (.string x) (.int .i64 j))
   simp only [AY] at c d f g
   refine bodyPost_ret (Ah Tryz.results11 rfl c d f g) rfl ⟨?_,k⟩
   have l:Ap BU ((Ad s).drop j)=a - j:=by have:=Aa m;omega
   rw [AM,l,if_neg (by omega),← DF (((Ad s).drop j).take (a - j)),← Aa C,Aa v]
   simp only [BQ,Bt]
   rw [show j+(a - j)=a by omega];rfl
end Go.Proofs.YtcpdodmoheebaaaGreatDoor
