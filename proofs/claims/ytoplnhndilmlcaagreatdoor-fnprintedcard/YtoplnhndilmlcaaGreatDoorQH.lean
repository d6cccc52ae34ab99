/-
  The tree of a node. Own work.
-/
import Derived.Test.YtoplnhndilmlcaaGreatDoorMXAG
namespace Go.Proofs.YtoplnhndilmlcaaGreatDoor
set_option maxRecDepth 100000
set_option maxHeartbeats 3200000
open Go.RowKit
set_option linter.unusedVariables false
structure Trs (w:World) (a:Option Addr) (n c:Nat) (Es:List Ex):Prop where
 len:Es.length=n
 small:n≤1048576
 cells:∀ j,(h:j < Es.length)→∃ b off,a=some ⟨b,off,none⟩∧b < w.heap.size∧w.cell? ⟨b,off+j,none⟩=some Es[j].val
theorem Trs.below {w w':World}{B:Nat}{a:Option Addr}{n c:Nat}{L:List Ex}(h:Trs w a n c L)(d:Below B w w')(m:w.heap.size≤B):Trs w' a n c L:=
 ⟨h.len,h.small,fun j g=>by
  obtain ⟨b,f,i,k,l⟩:=h.cells j g;exact ⟨b,f,i,Nat.lt_of_lt_of_le k d.size,(d.cell (p:=⟨b,f+j,none⟩) (by show b < B;omega)).trans l⟩⟩
theorem Trs.get {w:World}{a:Option Addr}{n c:Nat}{L:List Ex}(h:Trs w a n c L){k:Nat}{e:Ex}(hk:L[k]? =some e):∃ b d,a=some ⟨b,d,none⟩∧b < w.heap.size∧w.cell? ⟨b,d+k,none⟩=some e.val∧k < n:=by
 obtain ⟨h1,h2⟩:=List.getElem?_eq_some_iff.1 hk;obtain ⟨b,d,f,g,i⟩:=h.cells k h1;exact ⟨b,d,f,g,by rw[i,h2],by rw[← h.len];exact h1⟩
inductive V9 (Es:List Ex) (i:Nat) (x:Nd) (an:Option Addr) (nn cn:Nat):Ex→Prop
 | int (ho:x.op=1):V9 Es i x an nn cn (.int i x.num)
 | text (ho:x.op=2):V9 Es i x an nn cn (.text i x.text)
 | bool (ho:x.op=3):V9 Es i x an nn cn (.bool i (decide (x.num=1)))
 | set (ho:x.op=4):V9 Es i x an nn cn (.set i an nn cn x.names)
 | name (ho:x.op=5):V9 Es i x an nn cn (.name i x.text)
 | attr (ho:x.op=6):V9 Es i x an nn cn (.attr i x.num)
 | lett (ho:x.op=7):V9 Es i x an nn cn (.lett i x.num)
 | un {k:Nat} {e:Ex} (ho: 8≤x.op∧x.op≤10) (hk:x.kids= [(k:Int)]) (h1:Es[k]? =some e):V9 Es i x an nn cn (.un i x.op e)
 | bin {k l:Nat} {e f:Ex} (ho: 11≤x.op∧x.op≤26) (hk:x.kids= [(k:Int),(l:Int)]) (h1:Es[k]? =some e) (h2:Es[l]? =some f):V9 Es i x an nn cn (.bin i x.op e f)
 | ite {k l m:Nat} {e f g:Ex} (ho:x.op=27) (hk:x.kids= [(k:Int),(l:Int),(m:Int)]) (h1:Es[k]? =some e) (h2:Es[l]? =some f) (h3:Es[m]? =some g):V9 Es i x an nn cn (.ite i e f g)
theorem Tv (i:Nat)(op num:Int)(text:ByteArray)(an:Option Addr)(nn b:Nat)(d:Option Addr)(f g:Nat)(a:Option Addr)(m c:Nat)(w:World)(h:op=1):
  Calls Tryz.prog 60 #[.agg #[.int .i64 op,.int .i64 num,.string text,.slice an nn b,.slice d f g],.int .i64 i,.slice a m c] w fun r w'=>r= .returned (.iface 130 (.agg #[.int .i64 i,.int .i64 num]))∧Below w.heap.size w w':=by
 subst h;have j:=(Below.refl w.heap.size w).alloc NLN (.cells #[.int .i64 1,.int .i64 num,.string text,.slice an nn b,.slice d f g] 80);go_enter Tryz.func60,Tryz.ntmps60
 go_wp2
 go_ret
 exact ⟨rfl,j⟩
theorem Rj (i:Nat)(op num:Int)(text:ByteArray)(an:Option Addr)(nn b:Nat)(d:Option Addr)(f g:Nat)(a:Option Addr)(m c:Nat)(w:World)(h:op=2):
  Calls Tryz.prog 60 #[.agg #[.int .i64 op,.int .i64 num,.string text,.slice an nn b,.slice d f g],.int .i64 i,.slice a m c] w fun r w'=>r= .returned (.iface 133 (.agg #[.int .i64 i,.string text]))∧Below w.heap.size w w':=by
 subst h;have j:=(Below.refl w.heap.size w).alloc NLN (.cells #[.int .i64 2,.int .i64 num,.string text,.slice an nn b,.slice d f g] 80);go_enter Tryz.func60,Tryz.ntmps60
 go_wp2
 go_ret
 exact ⟨rfl,j⟩
theorem Rk (i:Nat)(op num:Int)(text:ByteArray)(an:Option Addr)(nn d:Nat)(f:Option Addr)(g h:Nat)(a:Option Addr)(m c:Nat)(w:World)(k:op=3):
  Calls Tryz.prog 60 #[.agg #[.int .i64 op,.int .i64 num,.string text,.slice an nn d,.slice f g h],.int .i64 i,.slice a m c] w fun r w'=>r= .returned (.iface 135 (.agg #[.int .i64 i,.bool (decide (num=1))]))∧Below w.heap.size w w':=by
 subst k;have j:=(Below.refl w.heap.size w).alloc NLN (.cells #[.int .i64 3,.int .i64 num,.string text,.slice an nn d,.slice f g h] 80);by_cases b:num=1
 ·have l:(num== 1)=true:=beq_iff_eq.2 b;rw[decide_eq_true b];clear b;go_enter Tryz.func60,Tryz.ntmps60
  go_wp2
  go_ret
  exact ⟨rfl,j⟩
 ·have l:(num== 1)=false:=beq_eq_false_iff_ne.2 b;rw[decide_eq_false b];clear b;go_enter Tryz.func60,Tryz.ntmps60
  go_wp2
  go_ret
  exact ⟨rfl,j⟩
theorem Tw (i:Nat)(op num:Int)(text:ByteArray)(an:Option Addr)(nn b:Nat)(d:Option Addr)(f g:Nat)(a:Option Addr)(m c:Nat)(w:World)(h:op=4):
  Calls Tryz.prog 60 #[.agg #[.int .i64 op,.int .i64 num,.string text,.slice an nn b,.slice d f g],.int .i64 i,.slice a m c] w fun r w'=>r= .returned (.iface 138 (.agg #[.int .i64 i,.slice an nn b]))∧Below w.heap.size w w':=by
 subst h;have j:=(Below.refl w.heap.size w).alloc NLN (.cells #[.int .i64 4,.int .i64 num,.string text,.slice an nn b,.slice d f g] 80);go_enter Tryz.func60,Tryz.ntmps60
 go_wp2
 go_ret
 exact ⟨rfl,j⟩
theorem Rl (i:Nat)(op num:Int)(text:ByteArray)(an:Option Addr)(nn b:Nat)(d:Option Addr)(f g:Nat)(a:Option Addr)(m c:Nat)(w:World)(h:op=5):
  Calls Tryz.prog 60 #[.agg #[.int .i64 op,.int .i64 num,.string text,.slice an nn b,.slice d f g],.int .i64 i,.slice a m c] w fun r w'=>r= .returned (.iface 141 (.agg #[.int .i64 i,.string text]))∧Below w.heap.size w w':=by
 subst h;have j:=(Below.refl w.heap.size w).alloc NLN (.cells #[.int .i64 5,.int .i64 num,.string text,.slice an nn b,.slice d f g] 80);go_enter Tryz.func60,Tryz.ntmps60
 go_wp2
 go_ret
 exact ⟨rfl,j⟩
theorem Rm (i:Nat)(op num:Int)(text:ByteArray)(an:Option Addr)(nn b:Nat)(d:Option Addr)(f g:Nat)(a:Option Addr)(m c:Nat)(w:World)(h:op=6):
  Calls Tryz.prog 60 #[.agg #[.int .i64 op,.int .i64 num,.string text,.slice an nn b,.slice d f g],.int .i64 i,.slice a m c] w fun r w'=>r= .returned (.iface 184 (.agg #[.int .i64 i,.int .i64 num]))∧Below w.heap.size w w':=by
 subst h;have j:=(Below.refl w.heap.size w).alloc NLN (.cells #[.int .i64 6,.int .i64 num,.string text,.slice an nn b,.slice d f g] 80);go_enter Tryz.func60,Tryz.ntmps60
 go_wp2
 go_ret
 exact ⟨rfl,j⟩
theorem Rn (i:Nat)(op num:Int)(text:ByteArray)(an:Option Addr)(nn b:Nat)(d:Option Addr)(f g:Nat)(a:Option Addr)(m c:Nat)(w:World)(h:op=7):
  Calls Tryz.prog 60 #[.agg #[.int .i64 op,.int .i64 num,.string text,.slice an nn b,.slice d f g],.int .i64 i,.slice a m c] w fun r w'=>r= .returned (.iface 185 (.agg #[.int .i64 i,.int .i64 num]))∧Below w.heap.size w w':=by
 subst h;have j:=(Below.refl w.heap.size w).alloc NLN (.cells #[.int .i64 7,.int .i64 num,.string text,.slice an nn b,.slice d f g] 80);go_enter Tryz.func60,Tryz.ntmps60
 go_wp2
 go_ret
 exact ⟨rfl,j⟩
theorem Wa (i:Nat)(k:Nat)(tk:TypeId)(n:Value)(op num:Int)(text:ByteArray)(an:Option Addr)(nn f:Nat)(o:Option Addr)(g b:Nat)(a:Option Addr)(m c:Nat)(w:World)(q: 8≤op∧op≤10)(h:Do w o g b [(k:Int)])(j p:Nat)(s:a=some ⟨j,p,none⟩)(v:j < w.heap.size)(x:w.cell? ⟨j,p+k,none⟩=some (.iface tk n))(hk:k < m):
  Calls Tryz.prog 60 #[.agg #[.int .i64 op,.int .i64 num,.string text,.slice an nn f,.slice o g b],.int .i64 i,.slice a m c] w fun r w'=>r= .returned (.iface 143 (.agg #[.int .i64 i,.int .i64 op,.iface tk n]))∧Below w.heap.size w w':=by
 obtain ⟨l,ok,rfl,y,t⟩:=h.cells 0 (by simp);obtain rfl:g=1:=h.len.symm;simp only[List.getElem_cons_zero,Nat.add_zero] at t;subst s;have z:(k:Int) < (m:Int):=by omega
 clear h;have u:op=8∨op=9∨op=10:=by omega
 clear q;rcases u with rfl | rfl | rfl
 ·have d:=(Below.refl w.heap.size w).alloc NLN (.cells #[.int .i64 8,.int .i64 num,.string text,.slice an nn f,.slice (some ⟨l,ok,none⟩) 1 b] 80);go_enter Tryz.func60,Tryz.ntmps60
  go_wp2
  go_region
  all_goals (go_wp2;go_ret;exact ⟨rfl,d.drew⟩)
 ·have d:=(Below.refl w.heap.size w).alloc NLN (.cells #[.int .i64 9,.int .i64 num,.string text,.slice an nn f,.slice (some ⟨l,ok,none⟩) 1 b] 80);go_enter Tryz.func60,Tryz.ntmps60
  go_wp2
  go_region
  all_goals (go_wp2;go_ret;exact ⟨rfl,d.drew⟩)
 ·have d:=(Below.refl w.heap.size w).alloc NLN (.cells #[.int .i64 10,.int .i64 num,.string text,.slice an nn f,.slice (some ⟨l,ok,none⟩) 1 b] 80);go_enter Tryz.func60,Tryz.ntmps60
  go_wp2
  go_region
  all_goals (go_wp2;go_ret;exact ⟨rfl,d.drew⟩)
theorem Tx (i:Nat)(k:Nat)(tk:TypeId)(n:Value)(l:Nat)(o:TypeId)(p:Value)(op num:Int)(text:ByteArray)(an:Option Addr)(nn q:Nat)(s:Option Addr)(f g:Nat)(a:Option Addr)(m c:Nat)(w:World)(t: 11≤op∧op≤26)(b:Do w s f g [(k:Int),(l:Int)])(d h:Nat)(u:a=some ⟨d,h,none⟩)(v:d < w.heap.size)(A:w.cell? ⟨d,h+k,none⟩=some (.iface tk n))(hk:k < m)(B:w.cell? ⟨d,h+l,none⟩=some (.iface o p))(v:l < m):
  Calls Tryz.prog 60 #[.agg #[.int .i64 op,.int .i64 num,.string text,.slice an nn q,.slice s f g],.int .i64 i,.slice a m c] w fun r w'=>r= .returned (.iface 146 (.agg #[.int .i64 i,.int .i64 op,.iface tk n,.iface o p]))∧Below w.heap.size w w':=by
 obtain ⟨j,ok,rfl,C,x⟩:=b.cells 0 (by simp);have E:w.cell? ⟨j,ok+1,none⟩=some (.int .i64 l):=by
  obtain ⟨b2,y,e2,_,c2⟩:=b.cells 1 (by simp);obtain ⟨rfl,rfl⟩:j=b2∧ok=y:=by simpa using e2
  simpa using c2
 obtain rfl:f=2:=b.len.symm;simp only[List.getElem_cons_zero,Nat.add_zero] at x;subst u;have F:(k:Int) < (m:Int):=by omega
 have H:(l:Int) < (m:Int):=by omega
 clear b;have I:(op== 1)=false:=beq_eq_false_iff_ne.2 (by omega);have J:(op== 2)=false:=beq_eq_false_iff_ne.2 (by omega);have K:(op== 3)=false:=beq_eq_false_iff_ne.2 (by omega);have L:(op== 4)=false:=beq_eq_false_iff_ne.2 (by omega);have M:(op== 5)=false:=beq_eq_false_iff_ne.2 (by omega);have s6:(op== 6)=false:=beq_eq_false_iff_ne.2 (by omega);have N:(op== 7)=false:=beq_eq_false_iff_ne.2 (by omega);have O:(op== 8)=false:=beq_eq_false_iff_ne.2 (by omega);have P:(op== 9)=false:=beq_eq_false_iff_ne.2 (by omega);have Q:(op== 10)=false:=beq_eq_false_iff_ne.2 (by omega);have R:(op== 27)=false:=beq_eq_false_iff_ne.2 (by omega);clear t;have z:=(Below.refl w.heap.size w).alloc NLN (.cells #[.int .i64 op,.int .i64 num,.string text,.slice an nn q,.slice (some ⟨j,ok,none⟩) 2 g] 80);go_enter Tryz.func60,Tryz.ntmps60
 go_wp2
 go_region
 all_goals (go_wp2;go_ret;exact ⟨rfl,z.drew⟩)
theorem Ty (i:Nat)(k:Nat)(tk:TypeId)(o:Value)(l:Nat)(p:TypeId)(s:Value)(q:Nat)(t:TypeId)(u:Value)(op num:Int)(text:ByteArray)(an:Option Addr)(nn v:Nat)(x:Option Addr)(h j:Nat)(a:Option Addr)(m c:Nat)(w:World)(y:op=27)(b:Do w x h j [(k:Int),(l:Int),(q:Int)])(d g:Nat)(z:a=some ⟨d,g,none⟩)(A:d < w.heap.size)(E:w.cell? ⟨d,g+k,none⟩=some (.iface tk o))(hk:k < m)(F:w.cell? ⟨d,g+l,none⟩=some (.iface p s))(A:l < m)(H:w.cell? ⟨d,g+q,none⟩=some (.iface t u))(hq:q < m):
  Calls Tryz.prog 60 #[.agg #[.int .i64 op,.int .i64 num,.string text,.slice an nn v,.slice x h j],.int .i64 i,.slice a m c] w fun r w'=>r= .returned (.iface 149 (.agg #[.int .i64 i,.iface tk o,.iface p s,.iface t u]))∧Below w.heap.size w w':=by
 obtain ⟨f,ok,rfl,I,B⟩:=b.cells 0 (by simp);have J:w.cell? ⟨f,ok+1,none⟩=some (.int .i64 l):=by
  obtain ⟨b2,n,e2,_,c2⟩:=b.cells 1 (by simp);obtain ⟨rfl,rfl⟩:f=b2∧ok=n:=by simpa using e2
  simpa using c2
 have K:w.cell? ⟨f,ok+2,none⟩=some (.int .i64 q):=by
  obtain ⟨b2,n,e2,_,c2⟩:=b.cells 2 (by simp);obtain ⟨rfl,rfl⟩:f=b2∧ok=n:=by simpa using e2
  simpa using c2
 obtain rfl:h=3:=b.len.symm;simp only[List.getElem_cons_zero,Nat.add_zero] at B;subst z;have L:(k:Int) < (m:Int):=by omega
 have M:(l:Int) < (m:Int):=by omega
 have N:(q:Int) < (m:Int):=by omega
 clear b;subst y;have C:=(Below.refl w.heap.size w).alloc NLN (.cells #[.int .i64 27,.int .i64 num,.string text,.slice an nn v,.slice (some ⟨f,ok,none⟩) 3 j] 80);go_enter Tryz.func60,Tryz.ntmps60
 go_wp2
 go_region
 all_goals (go_wp2;go_ret;exact ⟨rfl,C.drew⟩)
theorem TA {Es:List Ex}{i:Nat}{x:Nd}{an:Option Addr}{nn C:Nat}{E:Option Addr}{F H:Nat}{a:Option Addr}{m c:Nat}{w:World}{e:Ex}(hm:V9 Es i x an nn C e)(n:Do w E F H x.kids)(o:Trs w a m c Es):
  Calls Tryz.prog 60 #[.agg #[.int .i64 x.op,.int .i64 x.num,.string x.text,.slice an nn C,.slice E F H],.int .i64 i,.slice a m c] w fun r w'=>r= .returned e.val∧Below w.heap.size w w':=by
 cases hm with
 | int b=>exact Tv i _ _ _ _ _ _ _ _ _ _ _ _ w b
 | text b=>exact Rj i _ _ _ _ _ _ _ _ _ _ _ _ w b
 | bool b=>exact Rk i _ _ _ _ _ _ _ _ _ _ _ _ w b
 | set b=>exact Tw i _ _ _ _ _ _ _ _ _ _ _ _ w b
 | name b=>exact Rl i _ _ _ _ _ _ _ _ _ _ _ _ w b
 | attr b=>exact Rm i _ _ _ _ _ _ _ _ _ _ _ _ w b
 | lett b=>exact Rn i _ _ _ _ _ _ _ _ _ _ _ _ w b
 | @un k e b hk h1=>
  rw[hk] at n;obtain ⟨d,h,j,p,c1,s⟩:=o.get h1;obtain ⟨t,u,e1⟩:=e.form;rw[e1] at c1;simp only[Ex.val,e1];exact Wa i k t u _ _ _ _ _ _ _ _ _ _ _ _ w b n d h j p c1 s
 | @bin k l e f b hk h1 h2=>
  rw[hk] at n;obtain ⟨d,h,j,p,c1,s⟩:=o.get h1;obtain ⟨b1,v,y,I,c2,z⟩:=o.get h2;obtain ⟨rfl,rfl⟩:d=b1∧h=v:=by have:=j.symm.trans y;simpa using this
  obtain ⟨t,u,e1⟩:=e.form;obtain ⟨A,B,e2⟩:=f.form;rw[e1] at c1;rw[e2] at c2;simp only[Ex.val,e1,e2];exact Tx i k t u l A B _ _ _ _ _ _ _ _ _ _ _ _ w b n d h j p c1 s c2 z
 | @ite k l q e f g b hk h1 h2 h3=>
  rw[hk] at n;obtain ⟨d,h,j,p,c1,s⟩:=o.get h1;obtain ⟨b1,v,y,I,c2,z⟩:=o.get h2;obtain ⟨rfl,rfl⟩:d=b1∧h=v:=by have:=j.symm.trans y;simpa using this
  obtain ⟨b1,v,J,N,c3,K⟩:=o.get h3;obtain ⟨rfl,rfl⟩:d=b1∧h=v:=by have:=j.symm.trans J;simpa using this
  obtain ⟨t,u,e1⟩:=e.form;obtain ⟨A,B,e2⟩:=f.form;obtain ⟨L,M,e3⟩:=g.form;rw[e1] at c1;rw[e2] at c2;rw[e3] at c3;simp only[Ex.val,e1,e2,e3];exact Ty i k t u l A B q L M _ _ _ _ _ _ _ _ _ _ _ _ w b n d h j p c1 s c2 z c3 K
end Go.Proofs.YtoplnhndilmlcaaGreatDoor
