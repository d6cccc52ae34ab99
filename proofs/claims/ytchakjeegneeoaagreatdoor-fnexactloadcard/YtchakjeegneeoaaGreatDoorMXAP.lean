/-
  JV, QH, QJ, JW. Own work.
-/
import Derived.Test.YtchakjeegneeoaaGreatDoorMXAN
import Derived.Test.YtchakjeegneeoaaGreatDoorMXAO
import Derived.Test.YtchakjeegneeoaaGreatDoorMXAE
import Derived.LoopN
import Derived.Deep.AppendLies
namespace Go.Proofs.YtchakjeegneeoaaGreatDoor
set_option maxRecDepth 100000
set_option maxHeartbeats 1600000
open Go.RowKit
set_option linter.unusedVariables false
def Sw (o:Option Int) (r:Ending):Prop:=(∃ t,o=some t∧r= .returned (.tuple #[.int .i64 t,.nilIface]))∨(o=none∧∃ z t u,r= .returned (.tuple #[.int .i64 z,.iface t u]))
structure MG (w:World) (aN aA:Addr):Prop where
 n: 8 < w.heap.size
 nc:w.cell? ⟨8,0,none⟩=some (.iface 276 (.pointer (some aN)))
 a: 9 < w.heap.size
 ac:w.cell? ⟨9,0,none⟩=some (.iface 276 (.pointer (some aA)))
theorem MG.below {w w':World}{c d:Addr}{B:Nat}(h:MG w c d)(b:Below B w w')(hB:w.heap.size≤B):MG w' c d:=
 ⟨zM h.n b.size,(b.cell (p:=⟨8,0,none⟩) (zM h.n hB)).trans h.nc,zM h.a b.size,(b.cell (p:=⟨9,0,none⟩) (zM h.a hB)).trans h.ac⟩
theorem Xu (d:Nat)(i n:Int)(a:Option Addr)(b c:Nat)(ks:List Int)(f g h:Addr)(w:World)(j:KM w f)(k:MG w g h)(l:BT w a b c ks):
  Calls Tryz.prog 151 #[.pointer (some ⟨d,0,none⟩),.iface 230 (.agg #[.int .i64 i,.int .i64 n]),.slice a b c] w fun r w'=>Sw (some 2) r∧Below w.heap.size w w':=by
 have o:=Ib (T:=230) Tryz.underlying230 117;have m:=(Below.refl w.heap.size w).alloc NLN (.cells #[.int .i64 i,.int .i64 n] 230);clear j k l;go_enter Tryz.func151,Tryz.ntmps151
 go_wp2_with fail
 exact bodyPost_ret (v:= .tuple #[.int .i64 2,.nilIface]) (by simp[results,Tryz.results151,go_sem]) rfl ⟨.inl ⟨_,rfl,rfl⟩,m⟩
theorem U2 (d:Nat)(i:Int)(s:ByteArray)(a:Option Addr)(b c:Nat)(ks:List Int)(f g h:Addr)(w:World)(j:KM w f)(k:MG w g h)(l:BT w a b c ks):
  Calls Tryz.prog 151 #[.pointer (some ⟨d,0,none⟩),.iface 232 (.agg #[.int .i64 i,.string s]),.slice a b c] w fun r w'=>Sw (some 3) r∧Below w.heap.size w w':=by
 have n:=DU (S:=232) (T:=230) Tryz.underlying230 Tryz.zeroValue230 (by decide) 117;have a1:=Ib (T:=232) Tryz.underlying232 117;have m:=(Below.refl w.heap.size w).alloc NLN (.cells #[.int .i64 i,.string s] 232);clear j k l;go_enter Tryz.func151,Tryz.ntmps151
 go_wp2_with fail
 exact bodyPost_ret (v:= .tuple #[.int .i64 3,.nilIface]) (by simp[results,Tryz.results151,go_sem]) rfl ⟨.inl ⟨_,rfl,rfl⟩,m⟩
theorem U3 (f:Nat)(i:Int)(b:Bool)(a:Option Addr)(c d:Nat)(ks:List Int)(g h j:Addr)(w:World)(k:KM w g)(l:MG w h j)(m:BT w a c d ks):
  Calls Tryz.prog 151 #[.pointer (some ⟨f,0,none⟩),.iface 234 (.agg #[.int .i64 i,.bool b]),.slice a c d] w fun r w'=>Sw (some 1) r∧Below w.heap.size w w':=by
 have ts:=tas 234 (.agg #[.int .i64 i,.bool b]);simp only[Sl,Nat.reduceEqDiff,reduceIte] at ts;obtain ⟨o,p,q,s,t,u,x,y,z,A⟩:=ts;have n:=(Below.refl w.heap.size w).alloc NLN (.cells #[.int .i64 i,.bool b] 234);clear k l m;go_enter Tryz.func151,Tryz.ntmps151
 go_wp2_with fail
 exact bodyPost_ret (v:= .tuple #[.int .i64 1,.nilIface]) (by simp[results,Tryz.results151,go_sem]) rfl ⟨.inl ⟨_,rfl,rfl⟩,n⟩
theorem Xv (g:Nat)(i:Int)(a:Option Addr)(n c:Nat)(b:Option Addr)(d f:Nat)(ks:List Int)(h j k:Addr)(w:World)(l:KM w h)(m:MG w j k)(o:BT w b d f ks):
  Calls Tryz.prog 151 #[.pointer (some ⟨g,0,none⟩),.iface 236 (.agg #[.int .i64 i,.slice a n c]),.slice b d f] w fun r w'=>Sw (some 4) r∧Below w.heap.size w w':=by
 have ts:=tas 236 (.agg #[.int .i64 i,.slice a n c]);simp only[Sl,Nat.reduceEqDiff,reduceIte] at ts;obtain ⟨q,s,t,u,x,y,z,A,B,C⟩:=ts;have p:=(Below.refl w.heap.size w).alloc NLN (.cells #[.int .i64 i,.slice a n c] 236);clear l m o;go_enter Tryz.func151,Tryz.ntmps151
 go_wp2_with fail
 exact bodyPost_ret (v:= .tuple #[.int .i64 4,.nilIface]) (by simp[results,Tryz.results151,go_sem]) rfl ⟨.inl ⟨_,rfl,rfl⟩,p⟩
set_option maxHeartbeats 3200000
structure Trs (w:World) (a:Option Addr) (n c:Nat) (Es:List Ex):Prop where
 len:Es.length=n
 small:n≤1048576
 cells:∀ j,(h:j < Es.length)→∃ b off,a=some ⟨b,off,none⟩∧b < w.heap.size∧w.cell? ⟨b,off+j,none⟩=some Es[j].val
theorem Trs.below {w w':World}{B:Nat}{a:Option Addr}{n c:Nat}{L:List Ex}(h:Trs w a n c L)(d:Below B w w')(hB:w.heap.size≤B):Trs w' a n c L:=
 ⟨h.len,h.small,fun j g=>by
  obtain ⟨b,f,i,k,c0⟩:=h.cells j g;exact ⟨b,f,i,zM k d.size,(d.cell (p:=⟨b,f+j,none⟩) (by show b < B;omega)).trans c0⟩⟩
theorem Trs.get {w:World}{a:Option Addr}{n c:Nat}{L:List Ex}(h:Trs w a n c L){k:Nat}{e:Ex}(hk:L[k]? =some e):∃ b d,a=some ⟨b,d,none⟩∧b < w.heap.size∧w.cell? ⟨b,d+k,none⟩=some e.val∧k < n:=by
 obtain ⟨h1,h2⟩:=ze.1 hk;obtain ⟨b,d,f,g,c0⟩:=h.cells k h1;exact ⟨b,d,f,g,by rw[c0,h2],by rw[← h.len];exact h1⟩
inductive YH (Es:List Ex) (i:Nat) (x:Nd) (an:Option Addr) (nn cn:Nat):Ex→Prop
 |int (ho:x.op=1):YH Es i x an nn cn (.int i x.num)
 |text (ho:x.op=2):YH Es i x an nn cn (.text i x.text)
 |bool (ho:x.op=3):YH Es i x an nn cn (.bool i (decide (x.num=1)))
 |set (ho:x.op=4):YH Es i x an nn cn (.set i an nn cn x.names)
 |name (ho:x.op=5):YH Es i x an nn cn (.name i x.text)
 |attr (ho:x.op=6):YH Es i x an nn cn (.attr i x.num)
 |lett (ho:x.op=7):YH Es i x an nn cn (.lett i x.num)
 |un {k:Nat} {e:Ex} (ho: 8≤x.op∧x.op≤10) (hk:x.kids= [(k:Int)]) (h1:Es[k]? =some e):YH Es i x an nn cn (.un i x.op e)
 |bin {k l:Nat} {e f:Ex} (ho: 11≤x.op∧x.op≤26) (hk:x.kids= [(k:Int),(l:Int)]) (h1:Es[k]? =some e) (h2:Es[l]? =some f):YH Es i x an nn cn (.bin i x.op e f)
 |ite {k l m:Nat} {e f g:Ex} (ho:x.op=27) (hk:x.kids= [(k:Int),(l:Int),(m:Int)]) (h1:Es[k]? =some e) (h2:Es[l]? =some f) (h3:Es[m]? =some g):YH Es i x an nn cn (.ite i e f g)
theorem VW (i:Nat)(op num:Int)(text:ByteArray)(an:Option Addr)(nn b:Nat)(d:Option Addr)(f g:Nat)(a:Option Addr)(m c:Nat)(w:World)(h:op=1):
  Calls Tryz.prog 131 #[.agg #[.int .i64 op,.int .i64 num,.string text,.slice an nn b,.slice d f g],.int .i64 i,.slice a m c] w fun r w'=>r= .returned (.iface 230 (.agg #[.int .i64 i,.int .i64 num]))∧Below w.heap.size w w':=by
 subst h;have j:=(Below.refl w.heap.size w).alloc NLN (.cells #[.int .i64 1,.int .i64 num,.string text,.slice an nn b,.slice d f g] 68);go_enter Tryz.func131,Tryz.ntmps131
 go_wp2
 go_ret
 exact ⟨rfl,j⟩
theorem Ug (i:Nat)(op num:Int)(text:ByteArray)(an:Option Addr)(nn b:Nat)(d:Option Addr)(f g:Nat)(a:Option Addr)(m c:Nat)(w:World)(h:op=2):
  Calls Tryz.prog 131 #[.agg #[.int .i64 op,.int .i64 num,.string text,.slice an nn b,.slice d f g],.int .i64 i,.slice a m c] w fun r w'=>r= .returned (.iface 232 (.agg #[.int .i64 i,.string text]))∧Below w.heap.size w w':=by
 subst h;have j:=(Below.refl w.heap.size w).alloc NLN (.cells #[.int .i64 2,.int .i64 num,.string text,.slice an nn b,.slice d f g] 68);go_enter Tryz.func131,Tryz.ntmps131
 go_wp2
 go_ret
 exact ⟨rfl,j⟩
theorem Uh (i:Nat)(op num:Int)(text:ByteArray)(an:Option Addr)(nn d:Nat)(f:Option Addr)(g h:Nat)(a:Option Addr)(m c:Nat)(w:World)(k:op=3):
  Calls Tryz.prog 131 #[.agg #[.int .i64 op,.int .i64 num,.string text,.slice an nn d,.slice f g h],.int .i64 i,.slice a m c] w fun r w'=>r= .returned (.iface 234 (.agg #[.int .i64 i,.bool (decide (num=1))]))∧Below w.heap.size w w':=by
 subst k;have j:=(Below.refl w.heap.size w).alloc NLN (.cells #[.int .i64 3,.int .i64 num,.string text,.slice an nn d,.slice f g h] 68);by_cases b:num=1
 ·have l:(num== 1)=true:=zN.2 b;rw[zW b];clear b;go_enter Tryz.func131,Tryz.ntmps131
  go_wp2
  go_ret
  exact ⟨rfl,j⟩
 ·have l:(num== 1)=false:=zB.2 b;rw[zR b];clear b;go_enter Tryz.func131,Tryz.ntmps131
  go_wp2
  go_ret
  exact ⟨rfl,j⟩
theorem VX (i:Nat)(op num:Int)(text:ByteArray)(an:Option Addr)(nn b:Nat)(d:Option Addr)(f g:Nat)(a:Option Addr)(m c:Nat)(w:World)(h:op=4):
  Calls Tryz.prog 131 #[.agg #[.int .i64 op,.int .i64 num,.string text,.slice an nn b,.slice d f g],.int .i64 i,.slice a m c] w fun r w'=>r= .returned (.iface 236 (.agg #[.int .i64 i,.slice an nn b]))∧Below w.heap.size w w':=by
 subst h;have j:=(Below.refl w.heap.size w).alloc NLN (.cells #[.int .i64 4,.int .i64 num,.string text,.slice an nn b,.slice d f g] 68);go_enter Tryz.func131,Tryz.ntmps131
 go_wp2
 go_ret
 exact ⟨rfl,j⟩
theorem Ui (i:Nat)(op num:Int)(text:ByteArray)(an:Option Addr)(nn b:Nat)(d:Option Addr)(f g:Nat)(a:Option Addr)(m c:Nat)(w:World)(h:op=5):
  Calls Tryz.prog 131 #[.agg #[.int .i64 op,.int .i64 num,.string text,.slice an nn b,.slice d f g],.int .i64 i,.slice a m c] w fun r w'=>r= .returned (.iface 176 (.agg #[.int .i64 i,.string text]))∧Below w.heap.size w w':=by
 subst h;have j:=(Below.refl w.heap.size w).alloc NLN (.cells #[.int .i64 5,.int .i64 num,.string text,.slice an nn b,.slice d f g] 68);go_enter Tryz.func131,Tryz.ntmps131
 go_wp2
 go_ret
 exact ⟨rfl,j⟩
theorem Uj (i:Nat)(op num:Int)(text:ByteArray)(an:Option Addr)(nn b:Nat)(d:Option Addr)(f g:Nat)(a:Option Addr)(m c:Nat)(w:World)(h:op=6):
  Calls Tryz.prog 131 #[.agg #[.int .i64 op,.int .i64 num,.string text,.slice an nn b,.slice d f g],.int .i64 i,.slice a m c] w fun r w'=>r= .returned (.iface 180 (.agg #[.int .i64 i,.int .i64 num]))∧Below w.heap.size w w':=by
 subst h;have j:=(Below.refl w.heap.size w).alloc NLN (.cells #[.int .i64 6,.int .i64 num,.string text,.slice an nn b,.slice d f g] 68);go_enter Tryz.func131,Tryz.ntmps131
 go_wp2
 go_ret
 exact ⟨rfl,j⟩
theorem Uk (i:Nat)(op num:Int)(text:ByteArray)(an:Option Addr)(nn b:Nat)(d:Option Addr)(f g:Nat)(a:Option Addr)(m c:Nat)(w:World)(h:op=7):
  Calls Tryz.prog 131 #[.agg #[.int .i64 op,.int .i64 num,.string text,.slice an nn b,.slice d f g],.int .i64 i,.slice a m c] w fun r w'=>r= .returned (.iface 179 (.agg #[.int .i64 i,.int .i64 num]))∧Below w.heap.size w w':=by
 subst h;have j:=(Below.refl w.heap.size w).alloc NLN (.cells #[.int .i64 7,.int .i64 num,.string text,.slice an nn b,.slice d f g] 68);go_enter Tryz.func131,Tryz.ntmps131
 go_wp2
 go_ret
 exact ⟨rfl,j⟩
theorem YI (i:Nat)(k:Nat)(tk:TypeId)(n:Value)(op num:Int)(text:ByteArray)(an:Option Addr)(nn f:Nat)(o:Option Addr)(g b:Nat)(a:Option Addr)(m c:Nat)(w:World)(q: 8≤op∧op≤10)(h:BT w o g b [(k:Int)])(j p:Nat)(s:a=some ⟨j,p,none⟩)(v:j < w.heap.size)(x:w.cell? ⟨j,p+k,none⟩=some (.iface tk n))(hk:k < m):
  Calls Tryz.prog 131 #[.agg #[.int .i64 op,.int .i64 num,.string text,.slice an nn f,.slice o g b],.int .i64 i,.slice a m c] w fun r w'=>r= .returned (.iface 216 (.agg #[.int .i64 i,.int .i64 op,.iface tk n]))∧Below w.heap.size w w':=by
 obtain ⟨l,ok,rfl,y,t⟩:=h.cells 0 (by simp);obtain rfl:g=1:=h.len.symm;simp only[yF,zZ] at t;subst s;have z:(k:Int) < (m:Int):=by omega
 clear h;have u:op=8∨op=9∨op=10:=by omega
 clear q;rcases u with rfl | rfl | rfl
 ·have d:=(Below.refl w.heap.size w).alloc NLN (.cells #[.int .i64 8,.int .i64 num,.string text,.slice an nn f,.slice (some ⟨l,ok,none⟩) 1 b] 68);go_enter Tryz.func131,Tryz.ntmps131
  go_wp2
  go_region
  all_goals (go_wp2;go_ret;exact ⟨rfl,d.drew⟩)
 ·have d:=(Below.refl w.heap.size w).alloc NLN (.cells #[.int .i64 9,.int .i64 num,.string text,.slice an nn f,.slice (some ⟨l,ok,none⟩) 1 b] 68);go_enter Tryz.func131,Tryz.ntmps131
  go_wp2
  go_region
  all_goals (go_wp2;go_ret;exact ⟨rfl,d.drew⟩)
 ·have d:=(Below.refl w.heap.size w).alloc NLN (.cells #[.int .i64 10,.int .i64 num,.string text,.slice an nn f,.slice (some ⟨l,ok,none⟩) 1 b] 68);go_enter Tryz.func131,Tryz.ntmps131
  go_wp2
  go_region
  all_goals (go_wp2;go_ret;exact ⟨rfl,d.drew⟩)
theorem VY (i:Nat)(k:Nat)(tk:TypeId)(n:Value)(l:Nat)(o:TypeId)(p:Value)(op num:Int)(text:ByteArray)(an:Option Addr)(nn q:Nat)(s:Option Addr)(f g:Nat)(a:Option Addr)(m c:Nat)(w:World)(t: 11≤op∧op≤26)(b:BT w s f g [(k:Int),(l:Int)])(d h:Nat)(u:a=some ⟨d,h,none⟩)(v:d < w.heap.size)(A:w.cell? ⟨d,h+k,none⟩=some (.iface tk n))(hk:k < m)(B:w.cell? ⟨d,h+l,none⟩=some (.iface o p))(v:l < m):
  Calls Tryz.prog 131 #[.agg #[.int .i64 op,.int .i64 num,.string text,.slice an nn q,.slice s f g],.int .i64 i,.slice a m c] w fun r w'=>r= .returned (.iface 218 (.agg #[.int .i64 i,.int .i64 op,.iface tk n,.iface o p]))∧Below w.heap.size w w':=by
 obtain ⟨j,ok,rfl,C,x⟩:=b.cells 0 (by simp);have E:w.cell? ⟨j,ok+1,none⟩=some (.int .i64 l):=by
  obtain ⟨b2,y,e2,_,c2⟩:=b.cells 1 (by simp);obtain ⟨rfl,rfl⟩:j=b2∧ok=y:=by simpa using e2
  simpa using c2
 obtain rfl:f=2:=b.len.symm;simp only[yF,zZ] at x;subst u;have F:(k:Int) < (m:Int):=by omega
 have H:(l:Int) < (m:Int):=by omega
 clear b;have I:(op== 1)=false:=zB.2 (by omega);have J:(op== 2)=false:=zB.2 (by omega);have K:(op== 3)=false:=zB.2 (by omega);have L:(op== 4)=false:=zB.2 (by omega);have M:(op== 5)=false:=zB.2 (by omega);have s6:(op== 6)=false:=zB.2 (by omega);have N:(op== 7)=false:=zB.2 (by omega);have O:(op== 8)=false:=zB.2 (by omega);have P:(op== 9)=false:=zB.2 (by omega);have Q:(op== 10)=false:=zB.2 (by omega);have R:(op== 27)=false:=zB.2 (by omega);clear t;have z:=(Below.refl w.heap.size w).alloc NLN (.cells #[.int .i64 op,.int .i64 num,.string text,.slice an nn q,.slice (some ⟨j,ok,none⟩) 2 g] 68);go_enter Tryz.func131,Tryz.ntmps131
 go_wp2
 go_region
 all_goals (go_wp2;go_ret;exact ⟨rfl,z.drew⟩)
theorem VZ (i:Nat)(k:Nat)(tk:TypeId)(o:Value)(l:Nat)(p:TypeId)(s:Value)(q:Nat)(t:TypeId)(u:Value)(op num:Int)(text:ByteArray)(an:Option Addr)(nn v:Nat)(x:Option Addr)(h j:Nat)(a:Option Addr)(m c:Nat)(w:World)(y:op=27)(b:BT w x h j [(k:Int),(l:Int),(q:Int)])(d g:Nat)(z:a=some ⟨d,g,none⟩)(A:d < w.heap.size)(E:w.cell? ⟨d,g+k,none⟩=some (.iface tk o))(hk:k < m)(F:w.cell? ⟨d,g+l,none⟩=some (.iface p s))(A:l < m)(H:w.cell? ⟨d,g+q,none⟩=some (.iface t u))(hq:q < m):
  Calls Tryz.prog 131 #[.agg #[.int .i64 op,.int .i64 num,.string text,.slice an nn v,.slice x h j],.int .i64 i,.slice a m c] w fun r w'=>r= .returned (.iface 220 (.agg #[.int .i64 i,.iface tk o,.iface p s,.iface t u]))∧Below w.heap.size w w':=by
 obtain ⟨f,ok,rfl,I,B⟩:=b.cells 0 (by simp);have J:w.cell? ⟨f,ok+1,none⟩=some (.int .i64 l):=by
  obtain ⟨b2,n,e2,_,c2⟩:=b.cells 1 (by simp);obtain ⟨rfl,rfl⟩:f=b2∧ok=n:=by simpa using e2
  simpa using c2
 have K:w.cell? ⟨f,ok+2,none⟩=some (.int .i64 q):=by
  obtain ⟨b2,n,e2,_,c2⟩:=b.cells 2 (by simp);obtain ⟨rfl,rfl⟩:f=b2∧ok=n:=by simpa using e2
  simpa using c2
 obtain rfl:h=3:=b.len.symm;simp only[yF,zZ] at B;subst z;have L:(k:Int) < (m:Int):=by omega
 have M:(l:Int) < (m:Int):=by omega
 have N:(q:Int) < (m:Int):=by omega
 clear b;subst y;have C:=(Below.refl w.heap.size w).alloc NLN (.cells #[.int .i64 27,.int .i64 num,.string text,.slice an nn v,.slice (some ⟨f,ok,none⟩) 3 j] 68);go_enter Tryz.func131,Tryz.ntmps131
 go_wp2
 go_region
 all_goals (go_wp2;go_ret;exact ⟨rfl,C.drew⟩)
theorem V4 {Es:List Ex}{i:Nat}{x:Nd}{an:Option Addr}{nn C:Nat}{E:Option Addr}{F H:Nat}{a:Option Addr}{m c:Nat}{w:World}{e:Ex}(I:YH Es i x an nn C e)(n:BT w E F H x.kids)(o:Trs w a m c Es):
  Calls Tryz.prog 131 #[.agg #[.int .i64 x.op,.int .i64 x.num,.string x.text,.slice an nn C,.slice E F H],.int .i64 i,.slice a m c] w fun r w'=>r= .returned e.val∧Below w.heap.size w w':=by
 cases I with
 |int b=>exact VW i _ _ _ _ _ _ _ _ _ _ _ _ w b
 |text b=>exact Ug i _ _ _ _ _ _ _ _ _ _ _ _ w b
 |bool b=>exact Uh i _ _ _ _ _ _ _ _ _ _ _ _ w b
 |set b=>exact VX i _ _ _ _ _ _ _ _ _ _ _ _ w b
 |name b=>exact Ui i _ _ _ _ _ _ _ _ _ _ _ _ w b
 |attr b=>exact Uj i _ _ _ _ _ _ _ _ _ _ _ _ w b
 |lett b=>exact Uk i _ _ _ _ _ _ _ _ _ _ _ _ w b
 |@un k e b hk h1=>
  rw[hk] at n;obtain ⟨d,h,j,p,c1,s⟩:=o.get h1;obtain ⟨t,u,e1⟩:=e.form;rw[e1] at c1;simp only[Ex.val,e1];exact YI i k t u _ _ _ _ _ _ _ _ _ _ _ _ w b n d h j p c1 s
 |@bin k l e f b hk h1 h2=>
  rw[hk] at n;obtain ⟨d,h,j,p,c1,s⟩:=o.get h1;obtain ⟨b1,v,y,J,c2,z⟩:=o.get h2;obtain ⟨rfl,rfl⟩:d=b1∧h=v:=by have:=j.symm.trans y;simpa using this
  obtain ⟨t,u,e1⟩:=e.form;obtain ⟨A,B,e2⟩:=f.form;rw[e1] at c1;rw[e2] at c2;simp only[Ex.val,e1,e2];exact VY i k t u l A B _ _ _ _ _ _ _ _ _ _ _ _ w b n d h j p c1 s c2 z
 |@ite k l q e f g b hk h1 h2 h3=>
  rw[hk] at n;obtain ⟨d,h,j,p,c1,s⟩:=o.get h1;obtain ⟨b1,v,y,J,c2,z⟩:=o.get h2;obtain ⟨rfl,rfl⟩:d=b1∧h=v:=by have:=j.symm.trans y;simpa using this
  obtain ⟨b1,v,K,O,c3,L⟩:=o.get h3;obtain ⟨rfl,rfl⟩:d=b1∧h=v:=by have:=j.symm.trans K;simpa using this
  obtain ⟨t,u,e1⟩:=e.form;obtain ⟨A,B,e2⟩:=f.form;obtain ⟨M,N,e3⟩:=g.form;rw[e1] at c1;rw[e2] at c2;rw[e3] at c3;simp only[Ex.val,e1,e2,e3];exact VZ i k t u l A B q M N _ _ _ _ _ _ _ _ _ _ _ _ w b n d h j p c1 s c2 z c3 L
set_option maxHeartbeats 1600000
structure Xh (w:World) (lo:Nat) (v:Value) (N:List Nd) (P:Ex→Prop) (Es:List Ex):Prop where
 own:w.ownsRow lo 117 1 v Es.length (Es.map Ex.val)
 tree:∀ j,(h:j < Es.length)→Ds N j Es[j]
 fit:∀ e∈Es,P e
theorem Xh.trs {w:World}{lo:Nat}{v:Value}{N:List Nd}{P:Ex→Prop}{Es:List Ex}(h:Xh w lo v N P Es)(hs:Es.length≤1048576):∃ a c,v= .slice a Es.length c∧Trs w a Es.length c Es:=by
 obtain ⟨a,c,rfl,b⟩:=Ad h.own;refine ⟨a,c,rfl,rfl,hs,fun j d=>?_⟩;obtain ⟨g,rfl,i,f⟩:=b (by omega);refine ⟨g,0,rfl,(h.own.lt g rfl).2, ?_⟩;have:=f j Es[j].val (by simp[d]);simpa using this
theorem AdI:(Tryz.prog.info? 117).map (fun i=>(i.zero,i.size,i.bytes))=some (some .nilIface,1,16):=by kernel_rfl
def Aa2 (w0:World) (N:List Nd) (P:Ex→Prop):Prop:=
 ∀ (k:Nat) (x:Nd) (an:Option Addr) (nn cn:Nat) (Es:List Ex),N[k]? =some x→Es.length=k→(∀ j,(h:j < Es.length)→Ds N j Es[j])→(∀ e∈Es,P e)→Bg w0 an nn cn x.names→∃ e,YH Es k x an nn cn e∧Ds N k e∧P e
theorem Ul (a:Option Addr)(n c:Nat)(N:List Nd)(C w:World)(h:GQ C a n c N)(M:Below C.heap.size C w)(P:Ex→Prop)(O:Aa2 C N P):
  Calls Tryz.prog 96 #[.slice a n c] w fun r w'=>(∃ v Es,r= .returned v∧Es.length=n∧Xh w' w.heap.size v N P Es)∧Below w.heap.size w w':=by
 have aA:=h.small;have ag:=Ab h.len;have ah:=Ab O;clear O;obtain ⟨ai,aj,ak,al,ao⟩:=info_parts AdI;go_enter Tryz.func96,Tryz.ntmps96
 go_wp2_with fail
 go_loopw [3,8] (fun v i wr=>∃ (k:Nat) (Es:List Ex),k≤n∧i= .int .i64 k∧Hid (Es.length=k)∧Xh wr w.heap.size v N P Es∧Below w.heap.size w wr) (fun _ i _=>n - (intOf i).toNat)
 case atStart=>exact ⟨0, [],by omega,rfl,rfl,⟨World.ownsRow_nil _ _ _ _,fun j E=>absurd E (by simp),fun e he=>(by cases he)⟩,BRN⟩
 case round=>
  obtain ⟨k,Es,hk,rfl,m,d,s⟩:=hrel;by_cases F:k < n
  ·have aB:(k:Int) < (n:Int):=by omega
   have H:k < N.length:=by rw[Aa ag];exact F
   have g:=M.trans (s.mono M.size);obtain ⟨b,y,rfl,l,an,nn,o,z,A,B,Q,d1,d2,d3,d4,R,S⟩:=h.cells k H;have c0:=(g.cell (p:=⟨b,y+k * 5,none⟩) l).trans Q;have c1:=(g.cell (p:=⟨b,y+k * 5+1,none⟩) l).trans d1;have c2:=(g.cell (p:=⟨b,y+k * 5+2,none⟩) l).trans d2;have c3:=(g.cell (p:=⟨b,y+k * 5+3,none⟩) l).trans d3;have c4:=(g.cell (p:=⟨b,y+k * 5+4,none⟩) l).trans d4;have I:=S.below g NLN;have aC:b < wr.heap.size:=zM l g.size;clear Q d1 d2 d3 d4 S g;have hx:N[k]? =some N[k]:=zH H;obtain ⟨e,J,ht,T⟩:=Aa ah k _ an nn o Es hx (Aa m) d.tree d.fit R;have U:=Ab F;have ap:Es.length≤1048576:=by rw[Aa m];omega
   obtain ⟨aq,ar,rfl,T1⟩:=d.trs ap;have au:=Ab (fun j (E:j < (Es ++ [e]).length)=>show Ds N j (Es ++ [e])[j] by
    by_cases V:j < Es.length
    ·rw[zx V];exact d.tree j V
    ·have:j=Es.length:=by simp at E;omega
     subst this;simp only[List.getElem_concat_length];rw[Aa m];exact ht)
   have av:=Ab (fun f (hf:f∈Es ++ [e])=>show P f by
    rcases zK.1 hf with hf | hf
    ·exact d.fit f hf
    ·simp at hf;subst hf;exact T)
   have W:=d.own;generalize N[k]=x at c0 c1 c2 c3 c4 I J;have aD:=Al.new wr #[.int .i64 x.op,.int .i64 x.num,.string x.text,.slice an nn o,.slice z A B] 68;have X:=s.alloc s.size (.cells #[.int .i64 x.op,.int .i64 x.num,.string x.text,.slice an nn o,.slice z A B] 68);have Y:=(Below.refl wr.heap.size wr).alloc NLN (.cells #[.int .i64 x.op,.int .i64 x.num,.string x.text,.slice an nn o,.slice z A B] 68);have Z:=W.alloc (.cells #[.int .i64 x.op,.int .i64 x.num,.string x.text,.slice an nn o,.slice z A B] 68);have aa:=Ab (V4 J (I.below Y NLN) (T1.below Y NLN));obtain ⟨t,u,K⟩:=e.form;rw[K] at aa;have aw:=Ab K;have aE:=s.size;have ax:=m;clear I R J ht T T1 W d hx H F K l m;go_wp2_with fail
   have aF:(wr.alloc (.cells #[.int .i64 x.op,.int .i64 x.num,.string x.text,.slice an nn o,.slice z A B] 68)).heap.size=wr.heap.size+1:=by simp
   refine (Aa aa).mono ?_;rintro r ab ⟨rfl,ac⟩;have ad:ab.ownsRow w.heap.size 117 1 (.slice aq Es.length ar) Es.length (Es.map Ex.val):=At Z (fun q hq=>ac.block q (Z.lt q hq).2);have L:=X.trans (ac.mono X.size);have aG:=L.size;dsimp only;go_wp2_with (at_builtin;refine wpList_append_own _ rfl _ _ 165 rfl w.heap.size 117 ai .nilIface 1 16 Tryz.underlying165 aj ak al ao rfl (by decide) _ _ _ rfl (World.ownsRow.alloc ad _) ⟨ab.heap.size,0,none⟩ 1 1 [.iface t u] rfl rfl ?d1 ?d2 ?d3 ?d4 ?d5 ?_)
   case d1=>exact Bj _ _ _ _ (by simp)
   case d2=>intro u ae;simp at ae;subst ae;rfl
   case d3=>unfold maxLen;omega
   case d4=>omega
   case d5=>simp;omega
   intro v' aH ay af _;have az:=(L.alloc L.size (.cells #[.iface t u] 117)).grown af (by simp;omega) (fun q hq=>(ad.lt q hq).1);clear af;go_wp2_with fail
   go_roundw
   case rel=>exact ⟨k+1,Es ++ [e],Aa U,by go_num,Ab (by simp[Aa ax]),⟨by rw[zU,zA];simp only[List.map_cons,z8,Aa aw];exact ay,Aa au,Aa av⟩,az⟩
   case measure=>have:=Aa U;simp[intOf];omega
  ·have e:k=n:=by omega
   subst e;go_wp2_with fail
   go_ret
   exact ⟨⟨_,Es,rfl,Aa m,d⟩,s⟩
structure Ck (B cb:Nat) (ts tt:List Int) (mv lv tv:Value) (w:World):Prop where
 row:Al w cb #[mv,lv,tv] 125
 lets:w.ownsRow B 3 1 lv ts.length (Ar ts)
 types:w.ownsRow B 3 1 tv tt.length (Ar tt)
 low:B≤cb
 apart:∀ q,lv.ownBlock=some q→tv.ownBlock≠some q
structure Kt (B cb:Nat) (tv:Value) (w:World) (tv':Value) (w':World):Prop where
 low:Below B w w'
 keep:∀ k,k < w.heap.size→k≠cb→some k≠tv.ownBlock→w'.heap[k]? =w.heap[k]?
 new:∀ q,tv'.ownBlock=some q→tv.ownBlock=some q∨w.heap.size≤q
theorem Kt.trans {B a:Nat}{c b d:Value}{w f w2:World}(h:Kt B a c w b f)(k:Kt B a b f d w2):Kt B a c w d w2:=
 ⟨h.low.trans k.low,fun q h1 h2 h3=>by
  have g:some q≠b.ownBlock:=fun e=>by
   rcases h.new q e.symm with e2 | e2
   ·exact h3 e2.symm
   ·omega
  exact (k.keep q (zM h1 h.low.size) h2 g).trans (h.keep q h1 h2 h3),fun q hq=>by
  rcases k.new q hq with e | e
  ·exact h.new q e
  ·exact .inr (zD h.low.size e)⟩
theorem Kt.of_all {B b:Nat}{a:Value}{w w':World}(h:Below w.heap.size w w')(hB:B≤w.heap.size):Kt B b a w a w':=
 ⟨h.mono hB,fun k hk _ _=>h.block k hk,fun q hq=> .inl hq⟩
theorem Ck.below {B b:Nat}{ts c:List Int}{d lv f:Value}{w w':World}(h:Ck B b ts c d lv f w)(a:Below w.heap.size w w'):Ck B b ts c d lv f w':=
 ⟨h.row.after a NLN,At h.lets (fun q hq=>a.block q (h.lets.lt q hq).2),At h.types (fun q hq=>a.block q (h.types.lt q hq).2),h.low,h.apart⟩
theorem Kt.row {B a:Nat}{b c:Value}{w w':World}(h:Kt B a b w c w'){g:Nat}{cs:Array Value}{t:TypeId}(R:Al w g cs t)(d:g≠a)(f:b.ownBlock≠some g):Al w' g cs t:=
 ⟨(h.keep g R.lt d (fun e=>f e.symm)).trans R.out⟩
theorem Ck.push {B a:Nat}{ts b:List Int}{f lv d:Value}{w c:World}{o:Obj}{t:Int}{g cap:Nat}(h:Ck B a ts b f lv d w)(hB:B≤w.heap.size)
  (l:c.ownsRow B 3 1 (.slice (some ⟨g,0,none⟩) (b.length+1) cap) (b.length+1) (Ar b ++ [.int .i64 t]))(i:(w.alloc o).grownBy c d.ownBlock)(hat:d.ownBlock=some g∨g=w.heap.size+1):
  Al c a #[f,lv,d] 125∧Ck B a ts (b ++ [t]) f lv (.slice (some ⟨g,0,none⟩) (b.length+1) cap) (c.setCell ⟨a,2,none⟩ (.slice (some ⟨g,0,none⟩) (b.length+1) cap))∧Kt B a d w (.slice (some ⟨g,0,none⟩) (b.length+1) cap) (c.setCell ⟨a,2,none⟩ (.slice (some ⟨g,0,none⟩) (b.length+1) cap)):=by
 have r:=Ae h.row h.lets (by decide);have s:=Ae h.row h.types (by decide);have j:=(h.row.alloc o).grown i (fun e=>s e.symm);have u:=Ae j l (by decide);have v:g≠a:=fun e=>u (by rw[e];rfl);have m:(w.alloc o).heap.size=w.heap.size+1:=by simp
 have n:∀ k,k < w.heap.size→k≠a→some k≠d.ownBlock→(c.setCell ⟨a,2,none⟩ (.slice (some ⟨g,0,none⟩) (b.length+1) cap)).heap[k]? =w.heap[k]? :=fun k h1 h2 h3=>
  (heap_setCell_other c ⟨a,2,none⟩ k _ h2).trans ((i.block k (by rw[m];omega) h3).trans (Below.heap_alloc w o k h1))
 refine ⟨j,⟨j.set 2 (.slice (some ⟨g,0,none⟩) (b.length+1) cap),At h.lets (fun q hq=>n q (h.lets.lt q hq).2 (fun e=>r (e ▸ hq)) (fun e=>h.apart q hq e.symm)), ?_,h.low,fun q hq e=>?_⟩,⟨?_,n,fun q hq=>?_⟩⟩
 ·rw[Ar,zU,zA];refine AA l ⟨a,2,none⟩ _ (fun q hq=>?_);have:g=q:=by simpa[Value.ownBlock] using hq
  subst this;exact v
 ·have:g=q:=by simpa[Value.ownBlock] using e
  subst this;rcases hat with hat | hat
  ·exact h.apart g hq hat
  ·have:=(h.lets.lt g hq).2;omega
 ·exact (((Below.refl B w).alloc hB o).grown i (by rw[m];omega) (fun q hq=>(h.types.lt q hq).1)).setCell (p:=⟨a,2,none⟩) h.low _
 ·have:g=q:=by simpa[Value.ownBlock] using hq
  subst this;rcases hat with hat | hat
  ·exact .inl hat
  ·right;omega
end Go.Proofs.YtchakjeegneeoaaGreatDoor
