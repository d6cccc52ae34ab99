/-
  Trees, written by the model. Own work.
-/
import Derived.Test.YtcpdodmoheebaaaGreatDoorQO
import Derived.Test.YtcpdodmoheebaaaGreatDoorMXAQ
import Derived.Deep.RegionHeld3
namespace Go.Proofs.YtcpdodmoheebaaaGreatDoor
set_option maxRecDepth 100000
set_option maxHeartbeats 1600000
open Go.RowKit
set_option linter.unusedVariables false
def H8 (w:World) (a:Option Addr) (n c i:Nat) (op:Int) (pr:ByteArray):Prop:=
 ∀ (want:Int) (W:World),want≤BB op→Below w.heap.size w W→Calls Tryz.prog 35 #[.slice a n c,.int .i64 i,.int .i64 want] W fun r w'=>r= .returned (.string pr)∧Below W.heap.size W w'
def CC (w:World) (a:Option Addr) (n c i:Nat) (put:Int→ByteArray):Prop:=
 ∀ (want:Int) (W:World),Below w.heap.size w W→Calls Tryz.prog 35 #[.slice a n c,.int .i64 i,.int .i64 want] W fun r w'=>r= .returned (.string (put want))∧Below W.heap.size W w'
theorem AX {a b:ByteArray}(h:a.size+b.size≤9223372036854775807):∀ w,(Op.stringOp .add a b).run Tryz.prog w= .ok (.string (a ++b)) w:=fun w=>run_string_add_sum w a b h
theorem Aw {op:Int}(b: 1≤op∧op≤27){a:Int}(h:BB op=a):∀ w:World,Calls Tryz.prog 53 #[.int .i64 op] w fun e w'=>e= .returned (.int .i64 a)∧w'=w:=fun w=>by
 rw [← h]
 exact H7 op w b
theorem Lr (w:World)(a:Option Addr)(n c:Nat)(N:List Nd)(h:Dx w a n c N)(d:Nat)(x:Nd)(hx:N[d]? =some x)(j:x.op=1)(h0: 0≤x.num)(h1:x.num≤9223372036854775807):H8 w a n c d 1 (EN x.num.toNat):=by
 intro B f hl l
 have m:d < N.length:=(List.getElem?_eq_some_iff.1 hx).1
 have o:N[d]=x:=(List.getElem?_eq_some_iff.1 hx).2
 obtain ⟨b,G,rfl,H,an,nn,p,q,s,t,u,c1,c2,c3,c4,v,y⟩:=(h.below l (Nat.le_refl _)).cells d m
 rw [o] at u c1 c2 v y
 rw [j] at u
 have I:(d:Int) < (n:Int):=by have:=h.len;omega
 have J:=h.small
 have C:decide (BB 1 < B)=false:=decide_eq_false (by omega)
 have g:=Ab (Aw (op:=1) (by decide) rfl)
 generalize BB 1=K at C g hl
 have i:=(Below.refl f.heap.size f).alloc (Nat.le_refl _) (.cells #[.int .i64 1,.int .i64 x.num,.string x.text,.slice an nn p,.slice q s t] 99)
 have D:=Ao.new f #[.int .i64 1,.int .i64 x.num,.string x.text,.slice an nn p,.slice q s t] 99
 clear h hx m o j hl l
 obtain ⟨k,z⟩:∃ k:Nat,x.num=k:=⟨x.num.toNat,by omega⟩
 rw [z] at c1 i D ⊢
 rw [Int.toNat_natCast]
 have E:=Ab (fun w=>JV k w (by omega))
 clear h0 h1 z v y
 go_enter Tryz.func35,Tryz.ntmps35
 go_wp2_with fail
 refine (Aa g _).mono ?_
 rintro r L ⟨rfl,A⟩
 rw [A]
 clear A g
 dsimp only
 go_wp2_with fail
 refine (Aa E _).mono ?_
 rintro r M ⟨rfl,F⟩
 dsimp only
 go_wp2_with fail
 go_ret
 exact ⟨rfl,i.trans (F.mono i.size)⟩
theorem KD (w:World)(a:Option Addr)(n c:Nat)(N:List Nd)(h:Dx w a n c N)(d:Nat)(x:Nd)(hx:N[d]? =some x)(i:x.op=2)(h0:x.text.size≤32):H8 w a n c d 2 (⟨#[34]⟩ ++x.text ++⟨#[34]⟩):=by
 intro y f hl j
 have k:d < N.length:=(List.getElem?_eq_some_iff.1 hx).1
 have l:N[d]=x:=(List.getElem?_eq_some_iff.1 hx).2
 obtain ⟨b,B,rfl,C,an,nn,m,o,p,q,s,c1,c2,c3,c4,t,u⟩:=(h.below j (Nat.le_refl _)).cells d k
 rw [l] at s c1 c2 t u
 rw [i] at s
 have D:(d:Int) < (n:Int):=by have:=h.len;omega
 have E:=h.small
 have z:decide (BB 2 < y)=false:=decide_eq_false (by omega)
 have g:=Ab (Aw (op:=2) (by decide) rfl)
 generalize BB 2=F at z g hl
 have A:=(Below.refl f.heap.size f).alloc (Nat.le_refl _) (.cells #[.int .i64 2,.int .i64 x.num,.string x.text,.slice an nn m,.slice o p q] 99)
 have G:=Ao.new f #[.int .i64 2,.int .i64 x.num,.string x.text,.slice an nn m,.slice o p q] 99
 clear h hx k l i hl j
 clear t u
 go_enter Tryz.func35,Tryz.ntmps35
 go_wp2_with fail
 refine (Aa g _).mono ?_
 rintro r H ⟨rfl,v⟩
 rw [v]
 clear v g
 dsimp only
 go_wp2_with fail
 go_ret
 exact ⟨rfl,A⟩
theorem JW (w:World)(a:Option Addr)(n c:Nat)(N:List Nd)(h:Dx w a n c N)(d:Nat)(x:Nd)(hx:N[d]? =some x)(i:x.op=3)(h0:x.num=1):H8 w a n c d 3 (⟨#[116,114,117,101]⟩):=by
 intro z f hl j
 have k:d < N.length:=(List.getElem?_eq_some_iff.1 hx).1
 have l:N[d]=x:=(List.getElem?_eq_some_iff.1 hx).2
 obtain ⟨b,C,rfl,D,an,nn,m,o,p,q,s,c1,c2,c3,c4,t,u⟩:=(h.below j (Nat.le_refl _)).cells d k
 rw [l] at s c1 c2 t u
 rw [i] at s
 have E:(d:Int) < (n:Int):=by have:=h.len;omega
 have F:=h.small
 have A:decide (BB 3 < z)=false:=decide_eq_false (by omega)
 have g:=Ab (Aw (op:=3) (by decide) rfl)
 generalize BB 3=G at A g hl
 have v:=(Below.refl f.heap.size f).alloc (Nat.le_refl _) (.cells #[.int .i64 3,.int .i64 x.num,.string x.text,.slice an nn m,.slice o p q] 99)
 have B:=Ao.new f #[.int .i64 3,.int .i64 x.num,.string x.text,.slice an nn m,.slice o p q] 99
 clear h hx k l i hl j
 rw [h0] at c1 v B
 clear t u h0
 go_enter Tryz.func35,Tryz.ntmps35
 go_wp2_with fail
 refine (Aa g _).mono ?_
 rintro r H ⟨rfl,y⟩
 rw [y]
 clear y g
 dsimp only
 go_wp2_with fail
 go_ret
 exact ⟨rfl,v⟩
theorem JX (w:World)(a:Option Addr)(n c:Nat)(N:List Nd)(h:Dx w a n c N)(d:Nat)(x:Nd)(hx:N[d]? =some x)(i:x.op=3)(h0:x.num≠1):H8 w a n c d 3 (⟨#[102,97,108,115,101]⟩):=by
 intro y f hl j
 have k:d < N.length:=(List.getElem?_eq_some_iff.1 hx).1
 have l:N[d]=x:=(List.getElem?_eq_some_iff.1 hx).2
 obtain ⟨b,B,rfl,C,an,nn,m,o,p,q,s,c1,c2,c3,c4,t,u⟩:=(h.below j (Nat.le_refl _)).cells d k
 rw [l] at s c1 c2 t u
 rw [i] at s
 have D:(d:Int) < (n:Int):=by have:=h.len;omega
 have E:=h.small
 have z:decide (BB 3 < y)=false:=decide_eq_false (by omega)
 have g:=Ab (Aw (op:=3) (by decide) rfl)
 generalize BB 3=F at z g hl
 have A:=(Below.refl f.heap.size f).alloc (Nat.le_refl _) (.cells #[.int .i64 3,.int .i64 x.num,.string x.text,.slice an nn m,.slice o p q] 99)
 have G:=Ao.new f #[.int .i64 3,.int .i64 x.num,.string x.text,.slice an nn m,.slice o p q] 99
 clear h hx k l i hl j
 have H:(x.num== 1)=false:=beq_eq_false_iff_ne.2 h0
 clear t u h0
 go_enter Tryz.func35,Tryz.ntmps35
 go_wp2_with fail
 refine (Aa g _).mono ?_
 rintro r I ⟨rfl,v⟩
 rw [v]
 clear v g
 dsimp only
 go_wp2_with fail
 go_ret
 exact ⟨rfl,A⟩
theorem KF (w:World)(a:Option Addr)(n c:Nat)(N:List Nd)(h:Dx w a n c N)(d:Nat)(x:Nd)(hx:N[d]? =some x)(i:x.op=5):H8 w a n c d 5 x.text:=by
 intro y f hl j
 have k:d < N.length:=(List.getElem?_eq_some_iff.1 hx).1
 have l:N[d]=x:=(List.getElem?_eq_some_iff.1 hx).2
 obtain ⟨b,B,rfl,C,an,nn,m,o,p,q,s,c1,c2,c3,c4,t,u⟩:=(h.below j (Nat.le_refl _)).cells d k
 rw [l] at s c1 c2 t u
 rw [i] at s
 have D:(d:Int) < (n:Int):=by have:=h.len;omega
 have E:=h.small
 have z:decide (BB 5 < y)=false:=decide_eq_false (by omega)
 have g:=Ab (Aw (op:=5) (by decide) rfl)
 generalize BB 5=F at z g hl
 have A:=(Below.refl f.heap.size f).alloc (Nat.le_refl _) (.cells #[.int .i64 5,.int .i64 x.num,.string x.text,.slice an nn m,.slice o p q] 99)
 have G:=Ao.new f #[.int .i64 5,.int .i64 x.num,.string x.text,.slice an nn m,.slice o p q] 99
 clear h hx k l i hl j
 clear t u
 go_enter Tryz.func35,Tryz.ntmps35
 go_wp2_with fail
 refine (Aa g _).mono ?_
 rintro r H ⟨rfl,v⟩
 rw [v]
 clear v g
 dsimp only
 go_wp2_with fail
 go_ret
 exact ⟨rfl,A⟩
theorem Ls (w:World)(a:Option Addr)(n c:Nat)(N:List Nd)(h:Dx w a n c N)(d:Nat)(x:Nd)(hx:N[d]? =some x)(q:x.op=4)(h0:x.names.length≤64)(h1:∀ y∈x.names,y.size≤32):H8 w a n c d 4 (JU x.names):=by
 intro G k hl s
 have t:d < N.length:=(List.getElem?_eq_some_iff.1 hx).1
 have u:N[d]=x:=(List.getElem?_eq_some_iff.1 hx).2
 obtain ⟨b,L,rfl,M,an,nn,l,v,z,A,B,c1,c2,c3,c4,g,m⟩:=(h.below s (Nat.le_refl _)).cells d t
 rw [u] at B c1 c2 g m
 rw [q] at B
 have O:(d:Int) < (n:Int):=by have:=h.len;omega
 have P:=h.small
 have H:decide (BB 4 < G)=false:=decide_eq_false (by omega)
 have i:=Ab (Aw (op:=4) (by decide) rfl)
 generalize BB 4=Q at H i hl
 have o:=(Below.refl k.heap.size k).alloc (Nat.le_refl _) (.cells #[.int .i64 4,.int .i64 x.num,.string x.text,.slice an nn l,.slice v z A] 99)
 have R:=Ao.new k #[.int .i64 4,.int .i64 x.num,.string x.text,.slice an nn l,.slice v z A] 99
 clear h hx t u q hl s
 have p:=g.len
 by_cases f:x.names= []
 ·have I:JU x.names=⟨#[123,125]⟩:=by rw [f];decide
  obtain rfl:nn=0:=by rw [p,f];rfl
  rw [I]
  clear g m h0 h1 p f
  go_enter Tryz.func35,Tryz.ntmps35
  go_wp2_with fail
  refine (Aa i _).mono ?_
  rintro r J ⟨rfl,j⟩
  rw [j]
  clear j i
  dsimp only
  go_wp2_with fail
  go_ret
  exact ⟨rfl,o⟩
 ·have C:=Ab (IU f)
  have nz:((nn:Int)== 0)=false:=beq_eq_false_iff_ne.2 (by have:x.names.length≠0:=fun e=>f (List.eq_nil_of_length_eq_zero e);omega)
  have D:=Ab (IV an nn l x.names _ (g.below o (Nat.le_refl _)) (by omega) h1)
  have E:=GC true x.names h1
  rw [← Aa C]
  generalize jn true x.names=K at D E ⊢
  have S:K.size≤2304:=by omega
  clear g m h0 h1 p f C E
  go_enter Tryz.func35,Tryz.ntmps35
  go_wp2_with fail
  refine (Aa i _).mono ?_
  rintro r J ⟨rfl,j⟩
  rw [j]
  clear j i
  dsimp only
  go_wp2_with fail
  refine (Aa D).mono ?_
  rintro r T ⟨rfl,F⟩
  rw [F]
  clear F
  have e1:(⟨#[123,34]⟩:ByteArray).size=2:=rfl
  have e2:(⟨#[34,125]⟩:ByteArray).size=2:=rfl
  dsimp only
  go_wp2_with fail
  go_ret
  exact ⟨rfl,o⟩
theorem KG (w:World)(a:Option Addr)(n c:Nat)(N:List Nd)(h:Dx w a n c N)(d:Nat)(x:Nd)(hx:N[d]? =some x)(o: 1≤x.op∧x.op≤27)(g:ByteArray)(I:g.size≤100000000000)(k:H8 w a n c d x.op g):CC w a n c d (fun f=>Kv (decide (BB x.op < f)) g):=by
 intro f i j
 by_cases hl:BB x.op < f
 ·have p:=Ab (show Kv (decide (BB x.op < f)) g=⟨#[40]⟩ ++g ++⟨#[41]⟩ by rw [decide_eq_true hl];rfl)
  dsimp only
  rw [Aa p]
  have q:d < N.length:=(List.getElem?_eq_some_iff.1 hx).1
  have s:N[d]=x:=(List.getElem?_eq_some_iff.1 hx).2
  obtain ⟨b,J,rfl,K,an,nn,y,z,A,B,C,c1,c2,c3,c4,t,u⟩:=(h.below j (Nat.le_refl _)).cells d q
  rw [s] at C c1 c2 t u
  have L:(d:Int) < (n:Int):=by have:=h.len;omega
  have M:=h.small
  have D:decide (BB x.op < f)=true:=decide_eq_true hl
  have l:=Ab (Aw o rfl)
  have E:=Ab (fun i F=>k 0 i (CG _) F)
  have m:=(Below.refl i.heap.size i).alloc (Nat.le_refl _) (.cells #[.int .i64 x.op,.int .i64 x.num,.string x.text,.slice an nn y,.slice z A B] 99)
  have G:=Ab (j.trans (m.mono j.size))
  have O:(⟨#[40]⟩:ByteArray).size=1:=rfl
  have P:(⟨#[41]⟩:ByteArray).size=1:=rfl
  generalize BB x.op=Q at D l
  clear h hx q s hl j k t u o p
  go_enter Tryz.func35,Tryz.ntmps35
  go_wp2_with fail
  refine (Aa l _).mono ?_
  rintro r R ⟨rfl,v⟩
  rw [v]
  clear v l
  dsimp only
  go_wp2_with fail
  refine (Aa E _ (Aa G)).mono ?_
  rintro r S ⟨rfl,H⟩
  dsimp only
  go_wp2_with fail
  go_ret
  exact ⟨rfl,m.trans (H.mono m.size)⟩
 ·dsimp only
  rw [decide_eq_false hl]
  exact k f i (by omega) j
theorem Lt (w:World)(a:Option Addr)(n c:Nat)(N:List Nd)(h:Dx w a n c N)(d:Nat)(x:Nd)(hx:N[d]? =some x)(o:x.op=8)(k:Nat)(q:x.kids= [(k:Int)])(p:Int→ByteArray)(s:CC w a n c k p)(J:(p 7).size≤50000000000):H8 w a n c d 8 (⟨#[45]⟩ ++p 7):=by
 intro D i hl g
 have t:d < N.length:=(List.getElem?_eq_some_iff.1 hx).1
 have u:N[d]=x:=(List.getElem?_eq_some_iff.1 hx).2
 obtain ⟨b,K,rfl,L,an,nn,v,y,j,z,A,c1,c2,c3,c4,B,f⟩:=(h.below g (Nat.le_refl _)).cells d t
 rw [u] at A c1 c2 B f
 rw [o] at A
 have M:(d:Int) < (n:Int):=by have:=h.len;omega
 have O:=h.small
 have E:decide (BB 8 < D)=false:=decide_eq_false (by omega)
 have l:=Ab (Aw (op:=8) (by decide) rfl)
 generalize BB 8=P at E l hl
 have m:=(Below.refl i.heap.size i).alloc (Nat.le_refl _) (.cells #[.int .i64 8,.int .i64 x.num,.string x.text,.slice an nn v,.slice y j z] 99)
 have Q:=Ao.new i #[.int .i64 8,.int .i64 x.num,.string x.text,.slice an nn v,.slice y j z] 99
 have F:=Ab (g.trans (m.mono g.size))
 clear h hx t u o hl g
 rw [q] at f
 obtain ⟨R,S,rfl,T,G⟩:=f.cells 0 (by simp)
 obtain rfl:j=1:=f.len.symm
 simp only [List.getElem_cons_zero,Nat.add_zero] at G
 have H:=Ab s
 have U:(⟨#[45]⟩:ByteArray).size=1:=rfl
 have V:(⟨#[41]⟩:ByteArray).size=1:=rfl
 clear B f q s
 go_enter Tryz.func35,Tryz.ntmps35
 go_wp2_with fail
 refine (Aa l _).mono ?_
 rintro r W ⟨rfl,C⟩
 rw [C]
 clear C l
 dsimp only
 go_wp2_with fail
 refine (Aa H _ _ (Aa F)).mono ?_
 rintro r X ⟨rfl,I⟩
 dsimp only
 go_wp2_with fail
 go_ret
 exact ⟨rfl,m.trans (I.mono m.size)⟩
theorem Lu (w:World)(a:Option Addr)(n c:Nat)(N:List Nd)(h:Dx w a n c N)(d:Nat)(x:Nd)(hx:N[d]? =some x)(o:x.op=9)(k:Nat)(q:x.kids= [(k:Int)])(p:Int→ByteArray)(s:CC w a n c k p)(J:(p 3).size≤50000000000):H8 w a n c d 9 (⟨#[110,111,116,32]⟩ ++p 3):=by
 intro D i hl g
 have t:d < N.length:=(List.getElem?_eq_some_iff.1 hx).1
 have u:N[d]=x:=(List.getElem?_eq_some_iff.1 hx).2
 obtain ⟨b,K,rfl,L,an,nn,v,y,j,z,A,c1,c2,c3,c4,B,f⟩:=(h.below g (Nat.le_refl _)).cells d t
 rw [u] at A c1 c2 B f
 rw [o] at A
 have M:(d:Int) < (n:Int):=by have:=h.len;omega
 have O:=h.small
 have E:decide (BB 9 < D)=false:=decide_eq_false (by omega)
 have l:=Ab (Aw (op:=9) (by decide) rfl)
 generalize BB 9=P at E l hl
 have m:=(Below.refl i.heap.size i).alloc (Nat.le_refl _) (.cells #[.int .i64 9,.int .i64 x.num,.string x.text,.slice an nn v,.slice y j z] 99)
 have Q:=Ao.new i #[.int .i64 9,.int .i64 x.num,.string x.text,.slice an nn v,.slice y j z] 99
 have F:=Ab (g.trans (m.mono g.size))
 clear h hx t u o hl g
 rw [q] at f
 obtain ⟨R,S,rfl,T,G⟩:=f.cells 0 (by simp)
 obtain rfl:j=1:=f.len.symm
 simp only [List.getElem_cons_zero,Nat.add_zero] at G
 have H:=Ab s
 have U:(⟨#[110,111,116,32]⟩:ByteArray).size=4:=rfl
 have V:(⟨#[41]⟩:ByteArray).size=1:=rfl
 clear B f q s
 go_enter Tryz.func35,Tryz.ntmps35
 go_wp2_with fail
 refine (Aa l _).mono ?_
 rintro r W ⟨rfl,C⟩
 rw [C]
 clear C l
 dsimp only
 go_wp2_with fail
 refine (Aa H _ _ (Aa F)).mono ?_
 rintro r X ⟨rfl,I⟩
 dsimp only
 go_wp2_with fail
 go_ret
 exact ⟨rfl,m.trans (I.mono m.size)⟩
theorem KH (w:World)(a:Option Addr)(n c:Nat)(N:List Nd)(h:Dx w a n c N)(d:Nat)(x:Nd)(hx:N[d]? =some x)(o:x.op=10)(k:Nat)(q:x.kids= [(k:Int)])(p:Int→ByteArray)(s:CC w a n c k p)(J:(p 0).size≤50000000000):H8 w a n c d 10 (⟨#[115,105,122,101,40]⟩ ++p 0 ++⟨#[41]⟩):=by
 intro D i hl g
 have t:d < N.length:=(List.getElem?_eq_some_iff.1 hx).1
 have u:N[d]=x:=(List.getElem?_eq_some_iff.1 hx).2
 obtain ⟨b,K,rfl,L,an,nn,v,y,j,z,A,c1,c2,c3,c4,B,f⟩:=(h.below g (Nat.le_refl _)).cells d t
 rw [u] at A c1 c2 B f
 rw [o] at A
 have M:(d:Int) < (n:Int):=by have:=h.len;omega
 have O:=h.small
 have E:decide (BB 10 < D)=false:=decide_eq_false (by omega)
 have l:=Ab (Aw (op:=10) (by decide) rfl)
 generalize BB 10=P at E l hl
 have m:=(Below.refl i.heap.size i).alloc (Nat.le_refl _) (.cells #[.int .i64 10,.int .i64 x.num,.string x.text,.slice an nn v,.slice y j z] 99)
 have Q:=Ao.new i #[.int .i64 10,.int .i64 x.num,.string x.text,.slice an nn v,.slice y j z] 99
 have F:=Ab (g.trans (m.mono g.size))
 clear h hx t u o hl g
 rw [q] at f
 obtain ⟨R,S,rfl,T,G⟩:=f.cells 0 (by simp)
 obtain rfl:j=1:=f.len.symm
 simp only [List.getElem_cons_zero,Nat.add_zero] at G
 have H:=Ab s
 have U:(⟨#[115,105,122,101,40]⟩:ByteArray).size=5:=rfl
 have V:(⟨#[41]⟩:ByteArray).size=1:=rfl
 clear B f q s
 go_enter Tryz.func35,Tryz.ntmps35
 go_wp2_with fail
 refine (Aa l _).mono ?_
 rintro r W ⟨rfl,C⟩
 rw [C]
 clear C l
 dsimp only
 go_wp2_with fail
 refine (Aa H _ _ (Aa F)).mono ?_
 rintro r X ⟨rfl,I⟩
 dsimp only
 go_wp2_with fail
 go_ret
 exact ⟨rfl,m.trans (I.mono m.size)⟩
theorem Lv (w:World)(a:Option Addr)(n c:Nat)(N:List Nd)(h:Dx w a n c N)(o:Nat)(x:Nd)(hx:N[o]? =some x)(V:x.op=27)(k l s:Nat)(W:x.kids= [(k:Int),(l:Int),(s:Int)])(v y z:Int→ByteArray)(h1:CC w a n c k v)(h2:CC w a n c l y)(h3:CC w a n c s z)(X:(v 0).size≤16000010)(Y:(y 0).size≤16000010)(Z:(z 0).size≤16000010):H8 w a n c o 27 (⟨#[105,102,32]⟩ ++v 0 ++⟨#[32,116,104,101,110,32]⟩ ++y 0 ++⟨#[32,101,108,115,101,32]⟩ ++z 0):=by
 intro ax g hl A
 have aa:o < N.length:=(List.getElem?_eq_some_iff.1 hx).1
 have ab:N[o]=x:=(List.getElem?_eq_some_iff.1 hx).2
 obtain ⟨b,aC,rfl,t,an,nn,E,ac,F,q,G,c1,c2,c3,c4,ad,m⟩:=(h.below A (Nat.le_refl _)).cells o aa
 rw [ab] at G c1 c2 ad m
 rw [V] at G
 have aD:(o:Int) < (n:Int):=by have:=h.len;omega
 have aE:=h.small
 have ay:decide (BB 27 < ax)=false:=decide_eq_false (by omega)
 have H:=Ab (Aw (op:=27) (by decide) rfl)
 generalize BB 27=aF at ay H hl
 have j:=(Below.refl g.heap.size g).alloc (Nat.le_refl _) (.cells #[.int .i64 27,.int .i64 x.num,.string x.text,.slice an nn E,.slice ac F q] 99)
 have B:=Ao.new g #[.int .i64 27,.int .i64 x.num,.string x.text,.slice an nn E,.slice ac F q] 99
 have I:=Ab (A.trans (j.mono A.size))
 clear h hx aa ab V hl A
 rw [W] at m
 obtain ⟨d,f,rfl,C,J⟩:=m.cells 0 (by simp)
 have ae:g.cell? ⟨d,f+1,none⟩=some (.int .i64 l):=by
  obtain ⟨b2,K,e2,_,d2⟩:=m.cells 1 (by simp)
  obtain ⟨rfl,rfl⟩:d=b2∧f=K:=by simpa using e2
  simpa using d2
 have af:g.cell? ⟨d,f+2,none⟩=some (.int .i64 s):=by
  obtain ⟨b2,K,e2,_,d2⟩:=m.cells 2 (by simp)
  obtain ⟨rfl,rfl⟩:d=b2∧f=K:=by simpa using e2
  simpa using d2
 obtain rfl:F=3:=m.len.symm
 simp only [List.getElem_cons_zero,Nat.add_zero] at J
 have ag:=Ab (h1 0)
 have ah:=Ab (h2 0)
 have ai:=Ab (h3 0)
 generalize v 0=u at ag X ⊢
 generalize y 0=L at ah Y ⊢
 generalize z 0=az at ai Z ⊢
 clear ad m W h1 h2 h3
 go_enter Tryz.func35,Tryz.ntmps35
 go_wp2_with fail
 refine (Aa H _).mono ?_
 rintro r aG ⟨rfl,aj⟩
 rw [aj]
 clear aj H
 dsimp only
 have aA:∃ i,i=g.alloc (.cells #[.int .i64 27,.int .i64 x.num,.string x.text,.slice an nn E,.slice (some ⟨d,f,none⟩) 3 q] 99):=⟨_,rfl⟩
 go_wp2_with fail
 obtain ⟨i,ak⟩:=aA
 rw [← ak] at j B I ⊢
 have al:=(j.cell (p:=⟨d,f,none⟩) C).trans J
 have ao:=(j.cell (p:=⟨d,f+1,none⟩) C).trans ae
 have ap:=(j.cell (p:=⟨d,f+2,none⟩) C).trans af
 have aq:i.cell? ⟨g.heap.size,4,none⟩=some (.slice (some ⟨d,f,none⟩) 3 q):=B.cell 4
 have aB:=B.lt
 have M:d < i.heap.size:=Nat.lt_of_lt_of_le C j.size
 clear ak B J ae af G c1 c2 c3 c4
 have D:Below i.heap.size i i.drew:=(Below.refl _ _).drew
 have O:=Ab ((Aa I).trans (D.mono (Aa I).size))
 have P:∀ w',Below i.heap.size i w'→w'.cell? ⟨g.heap.size,4,none⟩=some (.slice (some ⟨d,f,none⟩) 3 q)∧w'.cell? ⟨d,f,none⟩=some (.int .i64 k)∧w'.cell? ⟨d,f+1,none⟩=some (.int .i64 l)∧w'.cell? ⟨d,f+2,none⟩=some (.int .i64 s):=fun w' t=>⟨(t.cell (p:=⟨g.heap.size,4,none⟩) aB).trans aq,(t.cell (p:=⟨d,f,none⟩) M).trans al,(t.cell (p:=⟨d,f+1,none⟩) M).trans ao,(t.cell (p:=⟨d,f+2,none⟩) M).trans ap⟩
 have Q:=Ab P
 have aH:=P _ D
 have e1:(⟨#[105,102,32]⟩:ByteArray).size=3:=rfl
 have e2:(⟨#[32,116,104,101,110,32]⟩:ByteArray).size=6:=rfl
 have e3:(⟨#[32,101,108,115,101,32]⟩:ByteArray).size=6:=rfl
 have aI:=AX (a:=⟨#[105,102,32]⟩) (b:=u) (by rw [e1];omega)
 have aJ:=AX (a:=⟨#[105,102,32]⟩ ++u) (b:=⟨#[32,116,104,101,110,32]⟩) (by rw [ByteArray.size_append,e1,e2];omega)
 have aK:=AX (a:=⟨#[105,102,32]⟩ ++u ++⟨#[32,116,104,101,110,32]⟩) (b:=L) (by simp only [ByteArray.size_append,e1,e2];omega)
 have aL:=AX (a:=⟨#[105,102,32]⟩ ++u ++⟨#[32,116,104,101,110,32]⟩ ++L) (b:=⟨#[32,101,108,115,101,32]⟩) (by simp only [ByteArray.size_append,e1,e2,e3];omega)
 have aM:=AX (a:=⟨#[105,102,32]⟩ ++u ++⟨#[32,116,104,101,110,32]⟩ ++L ++⟨#[32,101,108,115,101,32]⟩) (b:=az) (by simp only [ByteArray.size_append,e1,e2,e3];omega)
 clear P al ao ap aq X Y Z
 go_region_held3 (fun w'=>w'.cell? ⟨g.heap.size,4,none⟩=some (.slice (some ⟨d,f,none⟩) 3 q)∧w'.cell? ⟨d,f,none⟩=some (.int .i64 k)∧w'.cell? ⟨d,f+1,none⟩=some (.int .i64 l)∧w'.cell? ⟨d,f+2,none⟩=some (.int .i64 s)) (first | assumption | go_keep)
  (first
   | (go_at_call 35;refine (Aa ai _ (Aa R)).mono ?_;rintro r aN ⟨rfl,ar⟩;have au:=S.trans (ar.mono S.size);have aO:=Ab ((Aa R).trans (ar.mono (Aa R).size));have q4:=Aa Q _ au)
   | (go_at_call 35;refine (Aa ah _ (Aa T)).mono ?_;rintro r aP ⟨rfl,av⟩;have S:=U.trans (av.mono U.size);have R:=Ab ((Aa T).trans (av.mono (Aa T).size));have q3:=Aa Q _ S)
   | (go_at_call 35;refine (Aa ag _ (Aa O)).mono ?_;rintro r aQ ⟨rfl,aw⟩;have U:=D.trans (aw.mono D.size);have T:=Ab ((Aa O).trans (aw.mono (Aa O).size));have q2:=Aa Q _ U))
 go_wp2_with fail
 go_ret
 exact ⟨rfl,j.trans (au.mono j.size)⟩
end Go.Proofs.YtcpdodmoheebaaaGreatDoor
