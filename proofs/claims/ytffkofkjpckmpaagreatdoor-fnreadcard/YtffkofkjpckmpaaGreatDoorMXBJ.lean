/-
  QH, QJ, QK, QJ1, VPV, VPW, VPN, VPO. Own work.
-/
import Derived.Test.YtffkofkjpckmpaaGreatDoorMXAP
import Derived.Test.YtffkofkjpckmpaaGreatDoorMXAB
import Derived.Test.YtffkofkjpckmpaaGreatDoorMXAW
import Derived.Test.YtffkofkjpckmpaaGreatDoorMXAM
import Derived.Test.YtffkofkjpckmpaaGreatDoorMXBA
import Derived.Deep.AppendLies
namespace Go.Proofs.YtffkofkjpckmpaaGreatDoor
set_option maxRecDepth 100000
set_option maxHeartbeats 3200000
open Go.RowKit
set_option linter.unusedVariables false
structure Trs (w:World) (a:Option Addr) (n c:Nat) (Es:List Ex):Prop where
 len:Es.length=n
 small:n≤1048576
 cells:∀ j,(h:j < Es.length)→∃ b off,a=some ⟨b,off,none⟩∧b < w.heap.size∧w.cell? ⟨b,off+j,none⟩=some Es[j].val
theorem Trs.below {w w':World}{B:Nat}{a:Option Addr}{n c:Nat}{L:List Ex}(h:Trs w a n c L)(d:Below B w w')(l:w.heap.size≤B):Trs w' a n c L:=
 ⟨h.len,h.small,fun j g=>by
  obtain ⟨b,f,i,hl,k⟩:=h.cells j g;exact ⟨b,f,i,zY hl d.size,(d.cell (p:=⟨b,f+j,none⟩) (by show b < B;omega)).trans k⟩⟩
theorem Trs.get {w:World}{a:Option Addr}{n c:Nat}{L:List Ex}(h:Trs w a n c L){k:Nat}{e:Ex}(hk:L[k]? =some e):∃ b d,a=some ⟨b,d,none⟩∧b < w.heap.size∧w.cell? ⟨b,d+k,none⟩=some e.val∧k < n:=by
 obtain ⟨h1,h2⟩:=zX.1 hk;obtain ⟨b,d,f,hl,g⟩:=h.cells k h1;exact ⟨b,d,f,hl,by rw[g,h2],by rw[← h.len];exact h1⟩
inductive Xw (Es:List Ex) (i:Nat) (x:Nd) (an:Option Addr) (nn cn:Nat):Ex→Prop
 |int (ho:x.op=1):Xw Es i x an nn cn (.int i x.num)
 |text (ho:x.op=2):Xw Es i x an nn cn (.text i x.text)
 |bool (ho:x.op=3):Xw Es i x an nn cn (.bool i (decide (x.num=1)))
 |set (ho:x.op=4):Xw Es i x an nn cn (.set i an nn cn x.names)
 |name (ho:x.op=5):Xw Es i x an nn cn (.name i x.text)
 |attr (ho:x.op=6):Xw Es i x an nn cn (.attr i x.num)
 |lett (ho:x.op=7):Xw Es i x an nn cn (.lett i x.num)
 |un {k:Nat} {e:Ex} (ho: 8≤x.op∧x.op≤10) (hk:x.kids= [(k:Int)]) (h1:Es[k]? =some e):Xw Es i x an nn cn (.un i x.op e)
 |bin {k l:Nat} {e f:Ex} (ho: 11≤x.op∧x.op≤26) (hk:x.kids= [(k:Int),(l:Int)]) (h1:Es[k]? =some e) (h2:Es[l]? =some f):Xw Es i x an nn cn (.bin i x.op e f)
 |ite {k l m:Nat} {e f g:Ex} (ho:x.op=27) (hk:x.kids= [(k:Int),(l:Int),(m:Int)]) (h1:Es[k]? =some e) (h2:Es[l]? =some f) (h3:Es[m]? =some g):Xw Es i x an nn cn (.ite i e f g)
theorem UQ (i:Nat)(op num:Int)(text:ByteArray)(an:Option Addr)(nn b:Nat)(d:Option Addr)(f g:Nat)(a:Option Addr)(m c:Nat)(w:World)(h:op=1):
  Calls Tryz.prog 93 #[.agg #[.int .i64 op,.int .i64 num,.string text,.slice an nn b,.slice d f g],.int .i64 i,.slice a m c] w fun r w'=>r= .returned (.iface 175 (.agg #[.int .i64 i,.int .i64 num]))∧Below w.heap.size w w':=by
 subst h;have j:=(Below.refl w.heap.size w).alloc NLN (.cells #[.int .i64 1,.int .i64 num,.string text,.slice an nn b,.slice d f g] 124);go_enter Tryz.func93,Tryz.ntmps93
 go_wp2
 go_ret
 exact ⟨rfl,j⟩
theorem SI (i:Nat)(op num:Int)(text:ByteArray)(an:Option Addr)(nn b:Nat)(d:Option Addr)(f g:Nat)(a:Option Addr)(m c:Nat)(w:World)(h:op=2):
  Calls Tryz.prog 93 #[.agg #[.int .i64 op,.int .i64 num,.string text,.slice an nn b,.slice d f g],.int .i64 i,.slice a m c] w fun r w'=>r= .returned (.iface 178 (.agg #[.int .i64 i,.string text]))∧Below w.heap.size w w':=by
 subst h;have j:=(Below.refl w.heap.size w).alloc NLN (.cells #[.int .i64 2,.int .i64 num,.string text,.slice an nn b,.slice d f g] 124);go_enter Tryz.func93,Tryz.ntmps93
 go_wp2
 go_ret
 exact ⟨rfl,j⟩
theorem SJ (i:Nat)(op num:Int)(text:ByteArray)(an:Option Addr)(nn d:Nat)(f:Option Addr)(g h:Nat)(a:Option Addr)(m c:Nat)(w:World)(k:op=3):
  Calls Tryz.prog 93 #[.agg #[.int .i64 op,.int .i64 num,.string text,.slice an nn d,.slice f g h],.int .i64 i,.slice a m c] w fun r w'=>r= .returned (.iface 180 (.agg #[.int .i64 i,.bool (decide (num=1))]))∧Below w.heap.size w w':=by
 subst k;have j:=(Below.refl w.heap.size w).alloc NLN (.cells #[.int .i64 3,.int .i64 num,.string text,.slice an nn d,.slice f g h] 124);by_cases b:num=1
 ·have l:(num== 1)=true:=zI.2 b;rw[zR b];clear b;go_enter Tryz.func93,Tryz.ntmps93
  go_wp2
  go_ret
  exact ⟨rfl,j⟩
 ·have l:(num== 1)=false:=zA.2 b;rw[zK b];clear b;go_enter Tryz.func93,Tryz.ntmps93
  go_wp2
  go_ret
  exact ⟨rfl,j⟩
theorem UR (i:Nat)(op num:Int)(text:ByteArray)(an:Option Addr)(nn b:Nat)(d:Option Addr)(f g:Nat)(a:Option Addr)(m c:Nat)(w:World)(h:op=4):
  Calls Tryz.prog 93 #[.agg #[.int .i64 op,.int .i64 num,.string text,.slice an nn b,.slice d f g],.int .i64 i,.slice a m c] w fun r w'=>r= .returned (.iface 183 (.agg #[.int .i64 i,.slice an nn b]))∧Below w.heap.size w w':=by
 subst h;have j:=(Below.refl w.heap.size w).alloc NLN (.cells #[.int .i64 4,.int .i64 num,.string text,.slice an nn b,.slice d f g] 124);go_enter Tryz.func93,Tryz.ntmps93
 go_wp2
 go_ret
 exact ⟨rfl,j⟩
theorem SK (i:Nat)(op num:Int)(text:ByteArray)(an:Option Addr)(nn b:Nat)(d:Option Addr)(f g:Nat)(a:Option Addr)(m c:Nat)(w:World)(h:op=5):
  Calls Tryz.prog 93 #[.agg #[.int .i64 op,.int .i64 num,.string text,.slice an nn b,.slice d f g],.int .i64 i,.slice a m c] w fun r w'=>r= .returned (.iface 186 (.agg #[.int .i64 i,.string text]))∧Below w.heap.size w w':=by
 subst h;have j:=(Below.refl w.heap.size w).alloc NLN (.cells #[.int .i64 5,.int .i64 num,.string text,.slice an nn b,.slice d f g] 124);go_enter Tryz.func93,Tryz.ntmps93
 go_wp2
 go_ret
 exact ⟨rfl,j⟩
theorem SL (i:Nat)(op num:Int)(text:ByteArray)(an:Option Addr)(nn b:Nat)(d:Option Addr)(f g:Nat)(a:Option Addr)(m c:Nat)(w:World)(h:op=6):
  Calls Tryz.prog 93 #[.agg #[.int .i64 op,.int .i64 num,.string text,.slice an nn b,.slice d f g],.int .i64 i,.slice a m c] w fun r w'=>r= .returned (.iface 224 (.agg #[.int .i64 i,.int .i64 num]))∧Below w.heap.size w w':=by
 subst h;have j:=(Below.refl w.heap.size w).alloc NLN (.cells #[.int .i64 6,.int .i64 num,.string text,.slice an nn b,.slice d f g] 124);go_enter Tryz.func93,Tryz.ntmps93
 go_wp2
 go_ret
 exact ⟨rfl,j⟩
theorem SM (i:Nat)(op num:Int)(text:ByteArray)(an:Option Addr)(nn b:Nat)(d:Option Addr)(f g:Nat)(a:Option Addr)(m c:Nat)(w:World)(h:op=7):
  Calls Tryz.prog 93 #[.agg #[.int .i64 op,.int .i64 num,.string text,.slice an nn b,.slice d f g],.int .i64 i,.slice a m c] w fun r w'=>r= .returned (.iface 225 (.agg #[.int .i64 i,.int .i64 num]))∧Below w.heap.size w w':=by
 subst h;have j:=(Below.refl w.heap.size w).alloc NLN (.cells #[.int .i64 7,.int .i64 num,.string text,.slice an nn b,.slice d f g] 124);go_enter Tryz.func93,Tryz.ntmps93
 go_wp2
 go_ret
 exact ⟨rfl,j⟩
theorem Xx (i:Nat)(k:Nat)(tk:TypeId)(n:Value)(op num:Int)(text:ByteArray)(an:Option Addr)(nn f:Nat)(o:Option Addr)(g b:Nat)(a:Option Addr)(m c:Nat)(w:World)(q: 8≤op∧op≤10)(h:IP w o g b [(k:Int)])(j p:Nat)(s:a=some ⟨j,p,none⟩)(hl:j < w.heap.size)(v:w.cell? ⟨j,p+k,none⟩=some (.iface tk n))(hk:k < m):
  Calls Tryz.prog 93 #[.agg #[.int .i64 op,.int .i64 num,.string text,.slice an nn f,.slice o g b],.int .i64 i,.slice a m c] w fun r w'=>r= .returned (.iface 188 (.agg #[.int .i64 i,.int .i64 op,.iface tk n]))∧Below w.heap.size w w':=by
 obtain ⟨l,ok,rfl,x,t⟩:=h.cells 0 (by simp);obtain rfl:g=1:=h.len.symm;simp only[List.getElem_cons_zero,zr] at t;subst s;have y:(k:Int) < (m:Int):=by omega
 clear h;have u:op=8∨op=9∨op=10:=by omega
 clear q;rcases u with rfl | rfl | rfl
 ·have d:=(Below.refl w.heap.size w).alloc NLN (.cells #[.int .i64 8,.int .i64 num,.string text,.slice an nn f,.slice (some ⟨l,ok,none⟩) 1 b] 124);go_enter Tryz.func93,Tryz.ntmps93
  go_wp2
  go_region
  all_goals (go_wp2;go_ret;exact ⟨rfl,d.drew⟩)
 ·have d:=(Below.refl w.heap.size w).alloc NLN (.cells #[.int .i64 9,.int .i64 num,.string text,.slice an nn f,.slice (some ⟨l,ok,none⟩) 1 b] 124);go_enter Tryz.func93,Tryz.ntmps93
  go_wp2
  go_region
  all_goals (go_wp2;go_ret;exact ⟨rfl,d.drew⟩)
 ·have d:=(Below.refl w.heap.size w).alloc NLN (.cells #[.int .i64 10,.int .i64 num,.string text,.slice an nn f,.slice (some ⟨l,ok,none⟩) 1 b] 124);go_enter Tryz.func93,Tryz.ntmps93
  go_wp2
  go_region
  all_goals (go_wp2;go_ret;exact ⟨rfl,d.drew⟩)
theorem US (i:Nat)(k:Nat)(tk:TypeId)(n:Value)(l:Nat)(o:TypeId)(p:Value)(op num:Int)(text:ByteArray)(an:Option Addr)(nn q:Nat)(s:Option Addr)(f g:Nat)(a:Option Addr)(m c:Nat)(w:World)(t: 11≤op∧op≤26)(b:IP w s f g [(k:Int),(l:Int)])(d h:Nat)(u:a=some ⟨d,h,none⟩)(hl:d < w.heap.size)(z:w.cell? ⟨d,h+k,none⟩=some (.iface tk n))(hk:k < m)(A:w.cell? ⟨d,h+l,none⟩=some (.iface o p))(hl:l < m):
  Calls Tryz.prog 93 #[.agg #[.int .i64 op,.int .i64 num,.string text,.slice an nn q,.slice s f g],.int .i64 i,.slice a m c] w fun r w'=>r= .returned (.iface 191 (.agg #[.int .i64 i,.int .i64 op,.iface tk n,.iface o p]))∧Below w.heap.size w w':=by
 obtain ⟨j,ok,rfl,B,v⟩:=b.cells 0 (by simp);have C:w.cell? ⟨j,ok+1,none⟩=some (.int .i64 l):=by
  obtain ⟨b2,x,e2,_,c2⟩:=b.cells 1 (by simp);obtain ⟨rfl,rfl⟩:j=b2∧ok=x:=by simpa using e2
  simpa using c2
 obtain rfl:f=2:=b.len.symm;simp only[List.getElem_cons_zero,zr] at v;subst u;have E:(k:Int) < (m:Int):=by omega
 have F:(l:Int) < (m:Int):=by omega
 clear b;have H:(op== 1)=false:=zA.2 (by omega);have I:(op== 2)=false:=zA.2 (by omega);have J:(op== 3)=false:=zA.2 (by omega);have K:(op== 4)=false:=zA.2 (by omega);have L:(op== 5)=false:=zA.2 (by omega);have s6:(op== 6)=false:=zA.2 (by omega);have M:(op== 7)=false:=zA.2 (by omega);have N:(op== 8)=false:=zA.2 (by omega);have O:(op== 9)=false:=zA.2 (by omega);have P:(op== 10)=false:=zA.2 (by omega);have Q:(op== 27)=false:=zA.2 (by omega);clear t;have y:=(Below.refl w.heap.size w).alloc NLN (.cells #[.int .i64 op,.int .i64 num,.string text,.slice an nn q,.slice (some ⟨j,ok,none⟩) 2 g] 124);go_enter Tryz.func93,Tryz.ntmps93
 go_wp2
 go_region
 all_goals (go_wp2;go_ret;exact ⟨rfl,y.drew⟩)
theorem UT (i:Nat)(k:Nat)(tk:TypeId)(o:Value)(l:Nat)(p:TypeId)(s:Value)(q:Nat)(t:TypeId)(u:Value)(op num:Int)(text:ByteArray)(an:Option Addr)(nn v:Nat)(x:Option Addr)(h j:Nat)(a:Option Addr)(m c:Nat)(w:World)(y:op=27)(b:IP w x h j [(k:Int),(l:Int),(q:Int)])(d g:Nat)(z:a=some ⟨d,g,none⟩)(hl:d < w.heap.size)(C:w.cell? ⟨d,g+k,none⟩=some (.iface tk o))(hk:k < m)(E:w.cell? ⟨d,g+l,none⟩=some (.iface p s))(hl:l < m)(F:w.cell? ⟨d,g+q,none⟩=some (.iface t u))(hq:q < m):
  Calls Tryz.prog 93 #[.agg #[.int .i64 op,.int .i64 num,.string text,.slice an nn v,.slice x h j],.int .i64 i,.slice a m c] w fun r w'=>r= .returned (.iface 194 (.agg #[.int .i64 i,.iface tk o,.iface p s,.iface t u]))∧Below w.heap.size w w':=by
 obtain ⟨f,ok,rfl,H,A⟩:=b.cells 0 (by simp);have I:w.cell? ⟨f,ok+1,none⟩=some (.int .i64 l):=by
  obtain ⟨b2,n,e2,_,c2⟩:=b.cells 1 (by simp);obtain ⟨rfl,rfl⟩:f=b2∧ok=n:=by simpa using e2
  simpa using c2
 have J:w.cell? ⟨f,ok+2,none⟩=some (.int .i64 q):=by
  obtain ⟨b2,n,e2,_,c2⟩:=b.cells 2 (by simp);obtain ⟨rfl,rfl⟩:f=b2∧ok=n:=by simpa using e2
  simpa using c2
 obtain rfl:h=3:=b.len.symm;simp only[List.getElem_cons_zero,zr] at A;subst z;have K:(k:Int) < (m:Int):=by omega
 have L:(l:Int) < (m:Int):=by omega
 have M:(q:Int) < (m:Int):=by omega
 clear b;subst y;have B:=(Below.refl w.heap.size w).alloc NLN (.cells #[.int .i64 27,.int .i64 num,.string text,.slice an nn v,.slice (some ⟨f,ok,none⟩) 3 j] 124);go_enter Tryz.func93,Tryz.ntmps93
 go_wp2
 go_region
 all_goals (go_wp2;go_ret;exact ⟨rfl,B.drew⟩)
theorem UU {Es:List Ex}{i:Nat}{x:Nd}{an:Option Addr}{nn B:Nat}{C:Option Addr}{E F:Nat}{a:Option Addr}{m c:Nat}{w:World}{e:Ex}(hm:Xw Es i x an nn B e)(n:IP w C E F x.kids)(o:Trs w a m c Es):
  Calls Tryz.prog 93 #[.agg #[.int .i64 x.op,.int .i64 x.num,.string x.text,.slice an nn B,.slice C E F],.int .i64 i,.slice a m c] w fun r w'=>r= .returned e.val∧Below w.heap.size w w':=by
 cases hm with
 |int b=>exact UQ i _ _ _ _ _ _ _ _ _ _ _ _ w b
 |text b=>exact SI i _ _ _ _ _ _ _ _ _ _ _ _ w b
 |bool b=>exact SJ i _ _ _ _ _ _ _ _ _ _ _ _ w b
 |set b=>exact UR i _ _ _ _ _ _ _ _ _ _ _ _ w b
 |name b=>exact SK i _ _ _ _ _ _ _ _ _ _ _ _ w b
 |attr b=>exact SL i _ _ _ _ _ _ _ _ _ _ _ _ w b
 |lett b=>exact SM i _ _ _ _ _ _ _ _ _ _ _ _ w b
 |@un k e b hk h1=>
  rw[hk] at n;obtain ⟨d,h,j,hl,c1,p⟩:=o.get h1;obtain ⟨s,t,e1⟩:=e.form;rw[e1] at c1;simp only[Ex.val,e1];exact Xx i k s t _ _ _ _ _ _ _ _ _ _ _ _ w b n d h j hl c1 p
 |@bin k l e f b hk h1 h2=>
  rw[hk] at n;obtain ⟨d,h,j,hl,c1,p⟩:=o.get h1;obtain ⟨b1,u,v,H,c2,y⟩:=o.get h2;obtain ⟨rfl,rfl⟩:d=b1∧h=u:=by have:=j.symm.trans v;simpa using this
  obtain ⟨s,t,e1⟩:=e.form;obtain ⟨z,A,e2⟩:=f.form;rw[e1] at c1;rw[e2] at c2;simp only[Ex.val,e1,e2];exact US i k s t l z A _ _ _ _ _ _ _ _ _ _ _ _ w b n d h j hl c1 p c2 y
 |@ite k l q e f g b hk h1 h2 h3=>
  rw[hk] at n;obtain ⟨d,h,j,hl,c1,p⟩:=o.get h1;obtain ⟨b1,u,v,H,c2,y⟩:=o.get h2;obtain ⟨rfl,rfl⟩:d=b1∧h=u:=by have:=j.symm.trans v;simpa using this
  obtain ⟨b1,u,I,M,c3,J⟩:=o.get h3;obtain ⟨rfl,rfl⟩:d=b1∧h=u:=by have:=j.symm.trans I;simpa using this
  obtain ⟨s,t,e1⟩:=e.form;obtain ⟨z,A,e2⟩:=f.form;obtain ⟨K,L,e3⟩:=g.form;rw[e1] at c1;rw[e2] at c2;rw[e3] at c3;simp only[Ex.val,e1,e2,e3];exact UT i k s t l z A q K L _ _ _ _ _ _ _ _ _ _ _ _ w b n d h j hl c1 p c2 y c3 J
set_option maxHeartbeats 1600000
structure Wc (w:World) (lo:Nat) (v:Value) (N:List Nd) (P:Ex→Prop) (Es:List Ex):Prop where
 own:w.ownsRow lo 67 1 v Es.length (Es.map Ex.val)
 tree:∀ j,(h:j < Es.length)→DK N j Es[j]
 fit:∀ e∈Es,P e
theorem Wc.trs {w:World}{lo:Nat}{v:Value}{N:List Nd}{P:Ex→Prop}{Es:List Ex}(h:Wc w lo v N P Es)(hs:Es.length≤1048576):∃ a c,v= .slice a Es.length c∧Trs w a Es.length c Es:=by
 obtain ⟨a,c,rfl,b⟩:=Af h.own;refine ⟨a,c,rfl,rfl,hs,fun j d=>?_⟩;obtain ⟨g,rfl,i,f⟩:=b (by omega);refine ⟨g,0,rfl,(h.own.lt g rfl).2, ?_⟩;have:=f j Es[j].val (by simp[d]);simpa using this
theorem Aco:(Tryz.prog.info? 67).map (fun i=>(i.zero,i.size,i.bytes))=some (some .nilIface,1,16):=by kernel_rfl
def ZB (w0:World) (N:List Nd) (P:Ex→Prop):Prop:=
 ∀ (k:Nat) (x:Nd) (an:Option Addr) (nn cn:Nat) (Es:List Ex),N[k]? =some x→Es.length=k→(∀ j,(h:j < Es.length)→DK N j Es[j])→(∀ e∈Es,P e)→BL w0 an nn cn x.names→∃ e,Xw Es k x an nn cn e∧DK N k e∧P e
theorem SN (a:Option Addr)(n c:Nat)(N:List Nd)(C w:World)(h:IZ C a n c N)(L:Below C.heap.size C w)(P:Ex→Prop)(M:ZB C N P):
  Calls Tryz.prog 47 #[.slice a n c] w fun r w'=>(∃ v Es,r= .returned v∧Es.length=n∧Wc w' w.heap.size v N P Es)∧Below w.heap.size w w':=by
 have aA:=h.small;have af:=Ab h.len;have ag:=Ab M;clear M;obtain ⟨ah,ai,aj,ak,al⟩:=info_parts Aco;go_enter Tryz.func47,Tryz.ntmps47
 go_wp2_with fail
 go_loopw [3,8] (fun v i wr=>∃ (k:Nat) (Es:List Ex),k≤n∧i= .int .i64 k∧Hid (Es.length=k)∧Wc wr w.heap.size v N P Es∧Below w.heap.size w wr) (fun _ i _=>n - (intOf i).toNat)
 case atStart=>exact ⟨0, [],by omega,rfl,rfl,⟨World.ownsRow_nil _ _ _ _,fun j E=>absurd E (by simp),fun e he=>(by cases he)⟩,BRN⟩
 case round=>
  obtain ⟨k,Es,hk,rfl,m,d,s⟩:=hrel;by_cases F:k < n
  ·have aB:(k:Int) < (n:Int):=by omega
   have H:k < N.length:=by rw[Aa af];exact F
   have g:=L.trans (s.mono L.size);obtain ⟨b,y,rfl,l,an,nn,o,z,A,B,O,d1,d2,d3,d4,Q,R⟩:=h.cells k H;have ao:=(g.cell (p:=⟨b,y+k * 5,none⟩) l).trans O;have c1:=(g.cell (p:=⟨b,y+k * 5+1,none⟩) l).trans d1;have c2:=(g.cell (p:=⟨b,y+k * 5+2,none⟩) l).trans d2;have c3:=(g.cell (p:=⟨b,y+k * 5+3,none⟩) l).trans d3;have c4:=(g.cell (p:=⟨b,y+k * 5+4,none⟩) l).trans d4;have I:=R.below g NLN;have aC:b < wr.heap.size:=zY l g.size;clear O d1 d2 d3 d4 R g;have hx:N[k]? =some N[k]:=zM H;obtain ⟨e,hm,ht,S⟩:=Aa ag k _ an nn o Es hx (Aa m) d.tree d.fit Q;have T:=Ab F;have ap:Es.length≤1048576:=by rw[Aa m];omega
   obtain ⟨aq,ar,rfl,U⟩:=d.trs ap;have au:=Ab (fun j (E:j < (Es ++ [e]).length)=>show DK N j (Es ++ [e])[j] by
    by_cases V:j < Es.length
    ·rw[zu V];exact d.tree j V
    ·have:j=Es.length:=by simp at E;omega
     subst this;simp only[List.getElem_concat_length];rw[Aa m];exact ht)
   have av:=Ab (fun f (hf:f∈Es ++ [e])=>show P f by
    rcases zH.1 hf with hf | hf
    ·exact d.fit f hf
    ·simp at hf;subst hf;exact S)
   have W:=d.own;generalize N[k]=x at ao c1 c2 c3 c4 I hm;have aD:=Am.new wr #[.int .i64 x.op,.int .i64 x.num,.string x.text,.slice an nn o,.slice z A B] 124;have X:=s.alloc s.size (.cells #[.int .i64 x.op,.int .i64 x.num,.string x.text,.slice an nn o,.slice z A B] 124);have Y:=(Below.refl wr.heap.size wr).alloc NLN (.cells #[.int .i64 x.op,.int .i64 x.num,.string x.text,.slice an nn o,.slice z A B] 124);have Z:=W.alloc (.cells #[.int .i64 x.op,.int .i64 x.num,.string x.text,.slice an nn o,.slice z A B] 124);have aa:=Ab (UU hm (I.below Y NLN) (U.below Y NLN));obtain ⟨t,u,J⟩:=e.form;rw[J] at aa;have aw:=Ab J;have aE:=s.size;have ax:=m;clear I Q hm ht S U W d hx H F J l m;go_wp2_with fail
   have aF:(wr.alloc (.cells #[.int .i64 x.op,.int .i64 x.num,.string x.text,.slice an nn o,.slice z A B] 124)).heap.size=wr.heap.size+1:=by simp
   refine (Aa aa).mono ?_;rintro r ab ⟨rfl,ac⟩;have ad:ab.ownsRow w.heap.size 67 1 (.slice aq Es.length ar) Es.length (Es.map Ex.val):=Gz Z (fun q hq=>ac.block q (Z.lt q hq).2);have K:=X.trans (ac.mono X.size);have aG:=K.size;dsimp only;go_wp2_with (at_builtin;refine wpList_append_own _ rfl _ _ 110 rfl w.heap.size 67 ah .nilIface 1 16 Tryz.underlying110 ai aj ak al rfl (by decide) _ _ _ rfl (World.ownsRow.alloc ad _) ⟨ab.heap.size,0,none⟩ 1 1 [.iface t u] rfl rfl ?d1 ?d2 ?d3 ?d4 ?d5 ?_)
   case d1=>exact BD _ _ _ _ (by simp)
   case d2=>intro u hu;simp at hu;subst hu;rfl
   case d3=>unfold maxLen;omega
   case d4=>omega
   case d5=>simp;omega
   intro aH aI ay ae _;have az:=(K.alloc K.size (.cells #[.iface t u] 67)).grown ae (by simp;omega) (fun q hq=>(ad.lt q hq).1);clear ae;go_wp2_with fail
   go_roundw
   case rel=>exact ⟨k+1,Es ++ [e],Aa T,by go_num,Ab (by simp[Aa ax]),⟨by rw[zl,zB];simp only[List.map_cons,Z1,Aa aw];exact ay,Aa au,Aa av⟩,az⟩
   case measure=>have:=Aa T;simp[intOf];omega
  ·have e:k=n:=by omega
   subst e;go_wp2_with fail
   go_ret
   exact ⟨⟨_,Es,rfl,Aa m,d⟩,s⟩
def EG (Es:List Ex) (k:Int):Value:=if k= -1 then .nilIface else match Es[k.toNat]? with
 |some e=>e.val
 |none=> .nilIface
def Nj (Es:List Ex) (j:Nat) (s:St):List Value:= [.int .i64 j,.int .i64 s.kind,.string s.name,EG Es s.cond,EG Es s.grant]
def TH (Es:List Ex):Nat→List St→List Value
 |_, []=> []
 |i,s ::L=>Nj Es i s ++TH Es (i+1) L
theorem Aa6 (Es:List Ex):∀ (L:List St) (i:Nat),(TH Es i L).length=L.length * 5
 | [],i=>rfl
 |s ::L,i=>by rw[TH,zB,Aa6 Es L (i+1)];simp[Nj];omega
theorem SP (Es:List Ex)(s:St):∀ (L:List St) (i:Nat),TH Es i (L ++ [s])=TH Es i L ++Nj Es (i+L.length) s
 | [],i=>by simp[TH]
 |x ::L,i=>by
  rw[List.cons_append,TH,TH,SP Es s L (i+1),zC]
  congr 3
  simp;omega
theorem ZD (Es:List Ex):∀ (L:List St) (i j:Nat) (h:j < L.length) (r:Nat),r < 5→(TH Es i L)[j * 5+r]? =(Nj Es (i+j) L[j])[r]?
 |x ::L,i,0,h,r,hr=>by
  rw[TH,Nat.zero_mul,zW,yJ (by simp[Nj];omega)];simp
 |x ::L,i,j+1,h,r,hr=>by
  rw[TH,yC (by simp[Nj];omega)];have e:(j+1) * 5+r - (Nj Es i x).length=j * 5+r:=by simp[Nj];omega
  rw[e,ZD Es L (i+1) j (by simpa using h) r hr];simp only[List.getElem_cons_succ]
  congr 2
  omega
 | [],_,_,h,_,_=>absurd h (by simp)
theorem Aa7:(Tryz.prog.info? 69).map (fun i=>(i.zero,i.size,i.bytes))=some (some (.agg #[.int .i64 0,.int .i64 0,.string ByteArray.empty,.nilIface,.nilIface]),5,64):=by kernel_rfl
theorem Gm (Es:List Ex):EG Es (-1)= .nilIface:=rfl
theorem KT {Es:List Ex}{k:Int}(h0: 0≤k)(h:k < Es.length):EG Es k=(Es[k.toNat]'(by omega)).val:=by
 rw[EG,if_neg (by omega),zM (by omega)]
theorem IG (w:World)(a c d f g:Value)(t:TypeId)(b:Nat)(i:b=w.heap.size):∀ j u,([a,c,d,f,g]:List Value)[j]? =some u→(w.alloc (.cells #[a,c,d,f,g] t)).cell? ((⟨b,0,none⟩:Addr).add j)=some u:=fun j u h=>by
 subst i;have k:(⟨w.heap.size,0,none⟩:Addr).add j=⟨w.heap.size,j,none⟩:=by by_cases e:j=0 <;> simp[Addr.add,e]
 rw[k,(Am.new w #[a,c,d,f,g] t).cell j,← h];simp
theorem Adc {w:World}{a:Nat}{e:TypeId}{size n:Nat}{v:Value}{b:List Value}(h:w.ownsRow a e size v n b)(p:Addr)(u:Value)(hp:∀ q,v.ownBlock=some q→q≠p.block):(w.setCell p u).ownsRow a e size v n b:=
 Gz h (fun q hq=>heap_setCell_other w p q u (hp q hq))
theorem KU (a b:Option Addr)(n c m d:Nat)(N:List Nd)(L:List St)(Q w:World)(h:IZ Q a n c N)(ao:Below Q.heap.size Q w)(ab:PO w b m d L)(P:Ex→Prop)(ap:ZB Q N P)
  (aq:∀ s∈L,(s.cond= -1∨(0≤s.cond∧s.cond < n))∧(s.grant= -1∨(0≤s.grant∧s.grant < n))):
  Calls Tryz.prog 19 #[.agg #[.slice a n c,.slice b m d]] w fun r w'=>(∃ v Es,r= .returned v∧Es.length=n∧(∀ j,(h:j < Es.length)→DK N j Es[j])∧(∀ e∈Es,P e)∧w'.ownsRow w.heap.size 69 5 v m (TH Es 0 L))∧Below w.heap.size w w':=by
 have hm:=ab.small;have aS:=h.small;have ar:=Ab ab.len;have aC:=Ab aq;have aD:=Am.new w #[.slice a n c,.slice b m d] 27;have ac:=(Below.refl w.heap.size w).alloc NLN (.cells #[.slice a n c,.slice b m d] 27);have aE:=Ab (SN a n c N Q _ h (ao.trans (ac.mono ao.size)) P ap);clear aq ap h;obtain ⟨T,U,V,W,X⟩:=info_parts Aa7;go_enter Tryz.func19,Tryz.ntmps19
 go_wp2_with fail
 refine (Aa aE).mono ?_;rintro r E ⟨⟨v,Es,rfl,aF,ad⟩,au⟩;subst aF;have R:=ac.trans (au.mono ac.size);have av:=aD.after au NLN;have aT:E.cell? ⟨w.heap.size,0,none⟩=some (.slice a Es.length c):=av.cell 0;have aU:E.cell? ⟨w.heap.size,1,none⟩=some (.slice b m d):=av.cell 1;obtain ⟨aV,aW,rfl,aw⟩:=ad.trs (by omega);have aG:=R.size;dsimp only;go_wp2_with fail
 go_loopw [4,14] (fun v i wr=>∃ (k:Nat),k≤m∧i= .int .i64 k∧wr.ownsRow E.heap.size 69 5 v k (TH Es 0 (L.take k))∧Below E.heap.size E wr) (fun _ i _=>m - (intOf i).toNat)
 case atStart=>exact ⟨0,by omega,rfl,World.ownsRow_nil _ _ _ _,BRN⟩
 case round=>
  obtain ⟨k,hk,rfl,F,p⟩:=hrel;have aX:=p.size;by_cases ae:k < m
  ·have aY:(k:Int) < (m:Int):=by omega
   have Y:k < L.length:=by rw[Aa ar];exact ae
   obtain ⟨b1,aZ,rfl,a0,ax,c1,c2,c3⟩:=(ab.below (R.trans (p.mono R.size)) NLN).cells k Y;obtain ⟨hr1,hr2⟩:=Aa aC L[k] (zP Y);have o:=Ab (show TH Es 0 (L.take (k+1))=TH Es 0 (L.take k) ++Nj Es k L[k] by
    rw[zx Y,SP,zg,zW,show min k L.length=k by omega])
   have H:=Ab ae;generalize L[k]=s at ax c1 c2 c3 hr1 hr2 o;generalize TH Es 0 (L.take k)=a1 at F o;obtain ⟨aH,aI,rfl,_⟩:=Af F;have af:=aw.below p NLN;clear Y ae aw;obtain ⟨S,ag⟩:∃ S,S=s.cond:=⟨_,rfl⟩
   obtain ⟨I,ah⟩:∃ I,I=s.grant:=⟨_,rfl⟩
   rw[← ag] at c2 hr1;rw[← ah] at c3 hr2;have ay:=Ab (show Nj Es k s= [.int .i64 k,.int .i64 s.kind,.string s.name,EG Es S,EG Es I] by rw[ag,ah];rfl);rw[Aa ay] at o;clear ag ah ay;generalize s.kind=f at ax o;generalize s.name=nm at c1 o;rcases hr1 with rfl | hr1
   ·rcases hr2 with rfl | hr2
    ·have t:=(F.alloc (.cells #[.int .i64 f,.string nm,.int .i64 (-1),.int .i64 (-1)] 51)).alloc (.cells #[.int .i64 k,.int .i64 f,.string nm,.nilIface,.nilIface] 69);have x:=(p.alloc p.size (.cells #[.int .i64 f,.string nm,.int .i64 (-1),.int .i64 (-1)] 51)).alloc (by simp;omega) (.cells #[.int .i64 k,.int .i64 f,.string nm,.nilIface,.nilIface] 69);have J:=Ab (show [Value.int .i64 k,.int .i64 f,.string nm,EG Es (-1),EG Es (-1)]= [.int .i64 k,.int .i64 f,.string nm,.nilIface,.nilIface] by rw[Gm]);rw[Aa J] at o;go_wp2_with (at_builtin;refine wpList_append_own _ rfl _ _ 64 rfl E.heap.size 69 T (.agg #[.int .i64 0,.int .i64 0,.string ByteArray.empty,.nilIface,.nilIface]) 5 64 Tryz.underlying64 U V W X rfl (by decide) _ _ _ rfl (World.ownsRow.alloc t _) ⟨wr.heap.size+2,0,none⟩ 1 1 [.int .i64 k,.int .i64 f,.string nm,.nilIface,.nilIface] rfl rfl ?d1 ?d2 ?d3 ?d4 ?d5 ?_)
     case d1=>exact IG _ _ _ _ _ _ _ _ (by simp)
     case d2=>intro u hu;simp at hu;rcases hu with rfl | rfl | rfl | rfl <;> rfl
     case d3=>unfold maxLen;omega
     case d4=>omega
     case d5=>simp;omega
     intro ai aj K y _;have M:=(x.alloc x.size (.cells #[.int .i64 k,.int .i64 f,.string nm,.nilIface,.nilIface] 69)).grown y (by simp;omega) (fun q hq=>(t.lt q hq).1);clear y;go_wp2_with fail
     go_roundw
     case rel=>exact ⟨k+1,Aa H,by go_num,by rw[Aa o];exact K,M⟩
     case measure=>have:=Aa H;simp[intOf];omega
    ·obtain ⟨g,rfl⟩:∃ g:Nat,I=(g:Int):=⟨I.toNat,by omega⟩
     have O:=Ab (KT (Es:=Es) (k:=(g:Int)) (by omega) (by omega));obtain ⟨az,aA,Z,aJ,ak,aK⟩:=af.get (k:=g) (zM (by omega));simp only[z0] at O;obtain ⟨z,A,al⟩:=(Es[g]'(by omega)).form;rw[al] at O ak;have aL:((g:Int)== -1)=false:=zA.2 (by omega);have aM:((g:Int) != -1)=true:=zw.2 (by omega);have aN:(g:Int) < (Es.length:Int):=by omega
     subst Z;have t:=(F.alloc (.cells #[.int .i64 f,.string nm,.int .i64 (-1),.int .i64 g] 51)).alloc (.cells #[.int .i64 k,.int .i64 f,.string nm,.nilIface,.iface z A] 69);have x:=(p.alloc p.size (.cells #[.int .i64 f,.string nm,.int .i64 (-1),.int .i64 g] 51)).alloc (by simp;omega) (.cells #[.int .i64 k,.int .i64 f,.string nm,.nilIface,.iface z A] 69);have J:=Ab (show [Value.int .i64 k,.int .i64 f,.string nm,EG Es (-1),EG Es g]= [.int .i64 k,.int .i64 f,.string nm,.nilIface,.iface z A] by rw[Aa O,Gm]);rw[Aa J] at o;go_wp2_with (at_builtin;refine wpList_append_own _ rfl _ _ 64 rfl E.heap.size 69 T (.agg #[.int .i64 0,.int .i64 0,.string ByteArray.empty,.nilIface,.nilIface]) 5 64 Tryz.underlying64 U V W X rfl (by decide) _ _ _ rfl (World.ownsRow.alloc t _) ⟨wr.heap.size+2,0,none⟩ 1 1 [.int .i64 k,.int .i64 f,.string nm,.nilIface,.iface z A] rfl rfl ?d1 ?d2 ?d3 ?d4 ?d5 ?_)
     case d1=>exact IG _ _ _ _ _ _ _ _ (by simp)
     case d2=>intro u hu;simp at hu;rcases hu with rfl | rfl | rfl | rfl | rfl <;> rfl
     case d3=>unfold maxLen;omega
     case d4=>omega
     case d5=>simp;omega
     intro ai aj K y _;have M:=(x.alloc x.size (.cells #[.int .i64 k,.int .i64 f,.string nm,.nilIface,.iface z A] 69)).grown y (by simp;omega) (fun q hq=>(t.lt q hq).1);clear y;go_wp2_with fail
     go_roundw
     case rel=>exact ⟨k+1,Aa H,by go_num,by rw[Aa o];exact K,M⟩
     case measure=>have:=Aa H;simp[intOf];omega
   ·obtain ⟨l,rfl⟩:∃ l:Nat,S=(l:Int):=⟨S.toNat,by omega⟩
    have aa:=Ab (KT (Es:=Es) (k:=(l:Int)) (by omega) (by omega));obtain ⟨aO,aP,aB,a2,aQ,a3⟩:=af.get (k:=l) (zM (by omega));simp only[z0] at aa;obtain ⟨B,C,aR⟩:=(Es[l]'(by omega)).form;rw[aR] at aa aQ;have a4:((l:Int)== -1)=false:=zA.2 (by omega);have a5:((l:Int) != -1)=true:=zw.2 (by omega);have a6:(l:Int) < (Es.length:Int):=by omega
    rcases hr2 with rfl | hr2
    ·subst aB;have t:=(F.alloc (.cells #[.int .i64 f,.string nm,.int .i64 l,.int .i64 (-1)] 51)).alloc (.cells #[.int .i64 k,.int .i64 f,.string nm,.iface B C,.nilIface] 69);have x:=(p.alloc p.size (.cells #[.int .i64 f,.string nm,.int .i64 l,.int .i64 (-1)] 51)).alloc (by simp;omega) (.cells #[.int .i64 k,.int .i64 f,.string nm,.iface B C,.nilIface] 69);have J:=Ab (show [Value.int .i64 k,.int .i64 f,.string nm,EG Es l,EG Es (-1)]= [.int .i64 k,.int .i64 f,.string nm,.iface B C,.nilIface] by rw[Aa aa,Gm]);rw[Aa J] at o;go_wp2_with (at_builtin;refine wpList_append_own _ rfl _ _ 64 rfl E.heap.size 69 T (.agg #[.int .i64 0,.int .i64 0,.string ByteArray.empty,.nilIface,.nilIface]) 5 64 Tryz.underlying64 U V W X rfl (by decide) _ _ _ rfl (World.ownsRow.alloc t _) ⟨wr.heap.size+2,0,none⟩ 1 1 [.int .i64 k,.int .i64 f,.string nm,.iface B C,.nilIface] rfl rfl ?d1 ?d2 ?d3 ?d4 ?d5 ?_)
     case d1=>exact IG _ _ _ _ _ _ _ _ (by simp)
     case d2=>intro u hu;simp at hu;rcases hu with rfl | rfl | rfl | rfl | rfl <;> rfl
     case d3=>unfold maxLen;omega
     case d4=>omega
     case d5=>simp;omega
     intro ai aj K y _;have M:=(x.alloc x.size (.cells #[.int .i64 k,.int .i64 f,.string nm,.iface B C,.nilIface] 69)).grown y (by simp;omega) (fun q hq=>(t.lt q hq).1);clear y;go_wp2_with fail
     go_roundw
     case rel=>exact ⟨k+1,Aa H,by go_num,by rw[Aa o];exact K,M⟩
     case measure=>have:=Aa H;simp[intOf];omega
    ·obtain ⟨g,rfl⟩:∃ g:Nat,I=(g:Int):=⟨I.toNat,by omega⟩
     have O:=Ab (KT (Es:=Es) (k:=(g:Int)) (by omega) (by omega));obtain ⟨az,aA,Z,aJ,ak,aK⟩:=af.get (k:=g) (zM (by omega));simp only[z0] at O;obtain ⟨z,A,al⟩:=(Es[g]'(by omega)).form;rw[al] at O ak;have aL:((g:Int)== -1)=false:=zA.2 (by omega);have aM:((g:Int) != -1)=true:=zw.2 (by omega);have aN:(g:Int) < (Es.length:Int):=by omega
     subst aB;obtain ⟨rfl,rfl⟩:aO=az∧aP=aA:=by simpa using Z
     clear Z;have t:=(F.alloc (.cells #[.int .i64 f,.string nm,.int .i64 l,.int .i64 g] 51)).alloc (.cells #[.int .i64 k,.int .i64 f,.string nm,.iface B C,.iface z A] 69);have x:=(p.alloc p.size (.cells #[.int .i64 f,.string nm,.int .i64 l,.int .i64 g] 51)).alloc (by simp;omega) (.cells #[.int .i64 k,.int .i64 f,.string nm,.iface B C,.iface z A] 69);have J:=Ab (show [Value.int .i64 k,.int .i64 f,.string nm,EG Es l,EG Es g]= [.int .i64 k,.int .i64 f,.string nm,.iface B C,.iface z A] by rw[Aa aa,Aa O]);rw[Aa J] at o;go_wp2_with (at_builtin;refine wpList_append_own _ rfl _ _ 64 rfl E.heap.size 69 T (.agg #[.int .i64 0,.int .i64 0,.string ByteArray.empty,.nilIface,.nilIface]) 5 64 Tryz.underlying64 U V W X rfl (by decide) _ _ _ rfl (World.ownsRow.alloc t _) ⟨wr.heap.size+2,0,none⟩ 1 1 [.int .i64 k,.int .i64 f,.string nm,.iface B C,.iface z A] rfl rfl ?d1 ?d2 ?d3 ?d4 ?d5 ?_)
     case d1=>exact IG _ _ _ _ _ _ _ _ (by simp)
     case d2=>intro u hu;simp at hu;rcases hu with rfl | rfl | rfl | rfl | rfl <;> rfl
     case d3=>unfold maxLen;omega
     case d4=>omega
     case d5=>simp;omega
     intro ai aj K y _;have M:=(x.alloc x.size (.cells #[.int .i64 k,.int .i64 f,.string nm,.iface B C,.iface z A] 69)).grown y (by simp;omega) (fun q hq=>(t.lt q hq).1);clear y;go_wp2_with fail
     go_roundw
     case rel=>exact ⟨k+1,Aa H,by go_num,by rw[Aa o];exact K,M⟩
     case measure=>have:=Aa H;simp[intOf];omega
  ·have e:k=m:=by omega
   subst e;rw[show L.take k=L by rw[← Aa ar,List.take_length]] at F;obtain ⟨aH,aI,rfl,_⟩:=Af F;go_wp2_with fail
   go_ret
   exact ⟨⟨_,Es,rfl,rfl,ad.tree,ad.fit,LE F aG⟩,R.trans (p.mono R.size)⟩
theorem LD {s:ByteArray}(h:Bh s=true):s.size≤32:=by
 unfold Bh at h;have e:(Aj s).length=s.size:=by simp[Aj]
 cases hs:Aj s with
 |nil=>rw[hs] at e;simp at e;omega
 |cons c r=>
  rw[hs] at h;simp only[zE,zF] at h;rw[← e,hs];exact h.1.1.1
theorem QF {s:ByteArray}(h:Bk s=true):s.size≤32:=by
 unfold Bk at h;simp only[zE,zF] at h;exact h.1
theorem SO {a:List ByteArray}(h:EK a=true):a.length≤64∧∀ x∈a,x.size≤32:=by
 unfold EK at h;simp only[zE,zF] at h;refine ⟨h.1,fun x hx=>?_⟩;have:=z1.1 h.2.1 x hx;simp only[vnB,zE,zF] at this;omega
theorem IF {N:List Nd}{i:Nat}{Es:List Ex}(hl:Es.length=i)(a:∀ j,(h:j < Es.length)→DK N j Es[j]){k:Int}(hk: 0≤k∧k < i):∃ (m:Nat) (e:Ex),k=m∧m < i∧Es[m]? =some e∧DK N m e:=by
 refine ⟨k.toNat,Es[k.toNat]'(by omega),by omega,by omega,zM _,a _ _⟩
theorem ZC {N:List Nd}{w:World}{i:Nat}{x:Nd}{an:Option Addr}{nn u:Nat}(hx:N[i]? =some x)(hf:Aw x=true)(hk:∀ k∈x.kids,0≤k∧k < i)(B:x.num≤9223372036854775807){Es:List Ex}(hl:Es.length=i)
  (b:∀ j,(h:j < Es.length)→DK N j Es[j])(C:∀ e∈Es,e.fit w)(z:BL w an nn u x.names):∃ e,Xw Es i x an nn u e∧DK N i e∧e.fit w:=by
 unfold Aw at hf;rw[zE,zF] at hf;obtain ⟨E,hf⟩:=hf;have s:∀ n:Nat,Eg x.op=n→x.kids.length=n:=fun n e=>by omega
 have d:(1≤x.op∧x.op≤7)→x.kids= []:=fun h=>z7 (s 0 (by rw[Eg,if_pos h];rfl));have c:∀ {m:Nat} {e:Ex},Es[m]? =some e→e.fit w:=fun h=>C _ (Z7 h);by_cases h1:x.op=1
 ·rw[if_pos h1] at hf;simp only[zE,zF] at hf;exact ⟨_,.int h1,.int hx h1 (d (by omega)),hf.1.1,B⟩
 rw[if_neg h1] at hf;by_cases h2:x.op=2
 ·rw[if_pos h2] at hf;simp only[zE,zF] at hf;exact ⟨_,.text h2,.text hx h2 (d (by omega)),QF hf.1.1⟩
 rw[if_neg h2] at hf;by_cases h3:x.op=3
 ·exact ⟨_,.bool h3,.bool hx h3 (d (by omega)),trivial⟩
 rw[if_neg h3] at hf;by_cases h4:x.op=4
 ·rw[if_pos h4] at hf;simp only[zE,zF] at hf;obtain ⟨H,F⟩:=SO hf.1.1;exact ⟨_,.set h4,.set hx h4 (d (by omega)) an nn u,z,by have:=z.len;omega,F⟩
 rw[if_neg h4] at hf;by_cases h5:x.op=5
 ·rw[if_pos h5] at hf;simp only[zE,zF] at hf;exact ⟨_,.name h5,.name hx h5 (d (by omega)),LD hf.1.1⟩
 rw[if_neg h5] at hf;by_cases h6:x.op=6∨x.op=7
 ·rw[if_pos h6] at hf;cases hf
 by_cases h8: 8≤x.op∧x.op≤10
 ·have q:=s 1 (by rw[Eg,if_neg (by omega),if_pos h8];rfl)
  match a:x.kids,q with
  | [k],_=>
   obtain ⟨m,e,rfl,hm,g1,g2⟩:=IF hl b (hk k (by rw[a];simp));exact ⟨_,.un h8 a g1,.un hx h8 a hm g2,h8,c g1⟩
 by_cases h11: 11≤x.op∧x.op≤26
 ·have q:=s 2 (by rw[Eg,if_neg (by omega),if_neg h8,if_pos h11];rfl)
  match a:x.kids,q with
  | [k,l],_=>
   obtain ⟨m,e,rfl,hm,g1,g2⟩:=IF hl b (hk k (by rw[a];simp));obtain ⟨n,f,rfl,v,r,y⟩:=IF hl b (hk l (by rw[a];simp));exact ⟨_,.bin h11 a g1 r,.bin hx h11 a ⟨hm,v⟩ g2 y,h11,c g1,c r⟩
 by_cases t:x.op=27
 ·have q:=s 3 (by rw[Eg,if_neg (by omega),if_neg h8,if_neg h11,if_pos t];rfl)
  match a:x.kids,q with
  | [k,l,o],_=>
   obtain ⟨m,e,rfl,hm,g1,g2⟩:=IF hl b (hk k (by rw[a];simp));obtain ⟨n,f,rfl,v,r,y⟩:=IF hl b (hk l (by rw[a];simp));obtain ⟨p,g,rfl,hp,A,q2⟩:=IF hl b (hk o (by rw[a];simp));exact ⟨_,.ite t a g1 r A,.ite hx t a ⟨hm,v,hp⟩ g2 y q2,c g1,c r,c A⟩
 ·rw[Eg,if_neg (by omega),if_neg h8,if_neg h11,if_neg t] at E;omega
theorem On {a:World}{N:List Nd}(b:∀ x∈N,Aw x=true)(c:∀ x∈N,x.num≤9223372036854775807)(d:∀ (i:Nat) (x:Nd),N[i]? =some x→∀ k∈x.kids,0≤k∧k < (i:Int)):ZB a N (fun e=>e.fit a):=
 fun k x an nn h Es hx hl f hf g=>ZC (w:=a) hx (b _ (Z7 hx)) (d k _ hx) (c _ (Z7 hx)) hl f hf g
theorem SY {w:World}{d:Nat}{e:TypeId}{size g n c:Nat}{f:List Value}(h:w.ownsRow d e size (.slice (some ⟨g,0,none⟩) n c) n f):∃ a,Am w g a e∧a.size=c * size:=by
 rcases h.2 with ⟨b,_⟩ | ⟨i,cap,a,b,h1,h2,h3,h4,h5,h6⟩
 ·cases b
 ·cases b;exact ⟨a,⟨h2⟩,h5⟩
def AbX (W:World) (b p:Nat) (v0 v1 v2 v3 v4:Value):World:=((((W.setCell ⟨b,p,none⟩ v0).setCell ⟨b,p+1,none⟩ v1).setCell ⟨b,p+2,none⟩ v2).setCell ⟨b,p+3,none⟩ v3).setCell ⟨b,p+4,none⟩ v4
set_option maxHeartbeats 6400000
theorem PI {f:Int→List Int→List Int}{M:Nat}(hf:∀ k O,(f k O).length≤max O.length M+1)(top:Int):∀ (ks O:List Int),(CV f top ks O).length≤max O.length M+ks.length+1
 | [],O=>by rw[CV,zB,z9,List.length_nil];omega
 |k ::ks,O=>by
  rw[CV];split
  ·rw[zB,z9,List.length_cons];omega
  ·have h1:=PI hf top ks (f k O);have h2:=hf k O;rw[List.length_cons];omega
theorem Le {K:List (List Int)}(h3:∀ ks∈K,ks.length≤3):∀ (n:Nat) (top:Int) (O:List Int),(Bg K n top O).length≤max O.length (K.length+3 * n)+1
 | 0,top,O=>by rw[Bg,zB,z9];omega
 |n+1,top,O=>by
  rw[Bg];dsimp only;split
  ·rw[zB,z9];omega
  ·rename_i hc;have h1:=PI (M:=K.length+3 * n) (Le h3 n) top (K.getD top.toNat []) O;have h2:(K.getD top.toNat []).length≤3:=by
    rw[yI];cases e:K[top.toNat]? with
    |none=>simp
    |some ks=>exact h3 ks (Z7 e)
   omega
def NL (w:World) (v:Value) (w':World) (v':Value):Prop:=(∀ k,k < w.heap.size→some k≠v.ownBlock→w'.heap[k]? =w.heap[k]?)∧(∀ q,v'.ownBlock=some q→v.ownBlock=some q∨w.heap.size≤q)∧w.heap.size≤w'.heap.size
theorem NL.refl (w:World)(v:Value):NL w v w v:=⟨fun _ _ _=>rfl,fun q h=> .inl h,NLN⟩
theorem NL.trans {w a b:World}{v c d:Value}(h:NL w v a c)(k:NL a c b d):NL w v b d:=
 ⟨fun j f g=>(k.1 j (zY f h.2.2) (fun e=>by
  rcases h.2.1 j e.symm with e' | e'
  ·exact g e'.symm
  ·omega)).trans (h.1 j f g),fun q hq=>by
  rcases k.2.1 q hq with e | e
  ·exact h.2.1 q e
  ·exact .inr (zL h.2.2 e),zL h.2.2 k.2.2⟩
theorem EC {w w':World}{a:Obj}{v:Value}{g n c:Nat}(b:(w.alloc a).grownBy w' v.ownBlock)(d:v.ownBlock=some g∨g=w.heap.size+1):NL w v w' (.slice (some ⟨g,0,none⟩) n c):=
 ⟨fun k hk f=>(b.block k (by simp;omega) f).trans (Below.heap_alloc w a k hk),fun q hq=>by
  have:g=q:=by simpa[Value.ownBlock] using hq
  subst this;rcases d with e | e
  ·exact .inl e
  ·right;omega,by have:=b.size;simp at this;omega⟩
theorem Am.keep {w w':World}{v a:Value}{b:Nat}{cs:Array Value}{t:TypeId}(R:Am w b cs t)(h:NL w v w' a)(c:v.ownBlock≠some b):Am w' b cs t:=⟨(h.1 b R.lt (fun e=>c e.symm)).trans R.out⟩
def Wj (B:Nat) (w:World) (v:Value) (R:List Int) (e:Ending) (w':World):Prop:=∃ v',e= .returned v'∧w'.ownsRow B 3 1 v' R.length (AF R)∧Below B w w'∧NL w v w' v'
theorem Gr {w:World}{B:Nat}{v:Value}{O:List Int}{x:Int}(h:w.ownsRow B 3 1 v (O.length+1) (AF O ++ [.int .i64 x])):w.ownsRow B 3 1 v (O ++ [x]).length (AF (O ++ [x])):=by
 rw[zB,z9,AF,zl];exact h
theorem NM {K:List (List Int)}{n:Nat}{top:Int}{O:List Int}(h:top < 0∨(K.length:Int)≤top∨K.length < O.length):∀ fuel,Bg K fuel top O=O ++ [-1]
 | 0=>rfl
 |n+1=>by rw[Bg];exact if_pos h
theorem Kj (a:Option Addr)(n c:Nat)(B:Nat)(top:Int)(O:List Int)(v:Value)(w:World)(A:n≤4000)(h:top < 0∨(n:Int)≤top∨n < O.length)(C:O.length≤100000)(o:B≤w.heap.size)(j:w.ownsRow B 3 1 v O.length (AF O)):
  Calls Tryz.prog 145 #[.slice a n c,.int .i64 top,v] w fun e w'=>Wj B w v (O ++ [-1]) e w':=by
 obtain ⟨i,hi,p,r,s⟩:=info_parts Wi;obtain ⟨E,F,rfl,_⟩:=Af j;rcases (show top < 0∨(0≤top∧(n:Int)≤top)∨(0≤top∧top < n∧n < O.length) by omega) with h1 | ⟨h0,h2⟩ | ⟨h0,h2,h3⟩
 ·have t:top < 0:=h1;go_enter Tryz.func145,Tryz.ntmps145
  go_wp2_with (at_builtin;refine wpList_append_lies _ rfl _ _ 28 rfl B 3 i (.int .i64 0) 1 8 Tryz.underlying28 hi p r s rfl (by decide) _ _ _ rfl (World.ownsRow.alloc j _) ⟨w.heap.size,0,none⟩ 1 1 [.int .i64 (-1)] rfl rfl ?a1 ?a2 (by decide) ?a3 ?a4 ?a5 _ rfl ?_)
  first | (case a1=>exact BD _ _ _ _ (by simp)) | skip
  case a2=>first | (intro u hu;simp at hu;subst hu;rfl) | rfl
  case a3=>unfold maxLen;omega
  case a4=>omega
  case a5=>first | (simp;omega) | omega
  intro g cap x d b f y;have k:=EC (n:=O.length+1) (c:=cap) b f;have l:=((Below.refl B w).alloc o (.cells #[.int .i64 (-1)] 3)).grown b (by simp;omega) (fun q hq=>(j.lt q hq).1);have m:=Gr d;clear b f d;go_wp2_with fail
  go_ret
  exact ⟨_,rfl,m,l,k⟩
 ·have t: ¬ top < 0:=by omega
  have z:(n:Int)≤top:=h2;go_enter Tryz.func145,Tryz.ntmps145
  go_wp2_with (at_builtin;refine wpList_append_lies _ rfl _ _ 28 rfl B 3 i (.int .i64 0) 1 8 Tryz.underlying28 hi p r s rfl (by decide) _ _ _ rfl (World.ownsRow.alloc j _) ⟨w.heap.size,0,none⟩ 1 1 [.int .i64 (-1)] rfl rfl ?b1 ?b2 (by decide) ?b3 ?b4 ?b5 _ rfl ?_)
  first | (case b1=>exact BD _ _ _ _ (by simp)) | skip
  case b2=>first | (intro u hu;simp at hu;subst hu;rfl) | rfl
  case b3=>unfold maxLen;omega
  case b4=>omega
  case b5=>first | (simp;omega) | omega
  intro g cap x d b f y;have k:=EC (n:=O.length+1) (c:=cap) b f;have l:=((Below.refl B w).alloc o (.cells #[.int .i64 (-1)] 3)).grown b (by simp;omega) (fun q hq=>(j.lt q hq).1);have m:=Gr d;clear b f d;go_wp2_with fail
  go_ret
  exact ⟨_,rfl,m,l,k⟩
 ·have t: ¬ top < 0:=by omega
  have z: ¬ ((n:Int)≤top):=by omega
  have H:(n:Int) < (O.length:Int):=by omega
  go_enter Tryz.func145,Tryz.ntmps145
  go_wp2_with (at_builtin;refine wpList_append_lies _ rfl _ _ 28 rfl B 3 i (.int .i64 0) 1 8 Tryz.underlying28 hi p r s rfl (by decide) _ _ _ rfl (World.ownsRow.alloc j _) ⟨w.heap.size,0,none⟩ 1 1 [.int .i64 (-1)] rfl rfl ?c1 ?c2 (by decide) ?c3 ?c4 ?c5 _ rfl ?_)
  first | (case c1=>exact BD _ _ _ _ (by simp)) | skip
  case c2=>first | (intro u hu;simp at hu;subst hu;rfl) | rfl
  case c3=>unfold maxLen;omega
  case c4=>omega
  case c5=>first | (simp;omega) | omega
  intro g cap x d b f y;have k:=EC (n:=O.length+1) (c:=cap) b f;have l:=((Below.refl B w).alloc o (.cells #[.int .i64 (-1)] 3)).grown b (by simp;omega) (fun q hq=>(j.lt q hq).1);have m:=Gr d;clear b f d;go_wp2_with fail
  go_ret
  exact ⟨_,rfl,m,l,k⟩
theorem Vf {f:Int→List Int→List Int}{top:Int}{ks:List Int}{j:Nat}(a:j < ks.length)(O:List Int):CV f top (ks.drop j) O=if top≤ks[j] then O ++ [-1] else CV f top (ks.drop (j+1)) (f ks[j] O):=by
 rw[zq a,CV]
theorem Fw (a:Option Addr)(n c:Nat)(N:List Nd)(E:World)(B:Nat)(J:IZ E a n c N)(ar:E.heap.size≤B)(aa:n≤4000)(h3:∀ ks∈N.map Nd.kids,ks.length≤3):
  ∀ (fuel:Nat) (top:Int) (O:List Int) (v:Value) (w:World),fuel≤4000→(N.length≤fuel∨top < fuel)→O.length≤100000→Below E.heap.size E w→B≤w.heap.size→w.ownsRow B 3 1 v O.length (AF O)→
  Calls Tryz.prog 145 #[.slice a n c,.int .i64 top,v] w fun e w'=>Wj B w v (Bg (N.map Nd.kids) fuel top O) e w':=by
 have L:=Ab J.len;have M:=Ab (show (N.map Nd.kids).length=n by rw[zv,J.len]);have ab:=Ab h3;obtain ⟨i,hi,ac,ad,ae⟩:=info_parts Wi;intro fuel
 induction fuel with
 |zero=>
  intro top O v w _ hf P Q H o;have hl:=Aa L;rw[NM (K:=N.map Nd.kids) (n:=n) (by rw[zv];omega) 0];exact Kj a n c B top O v w aa (by omega) P H o
 |succ fuel af=>
  intro top O v w aG hf P Q H o;by_cases hu:top < 0∨(n:Int)≤top∨n < O.length
  ·rw[NM (K:=N.map Nd.kids) (n:=n) (by rw[Aa M];exact hu) (fuel+1)];exact Kj a n c B top O v w aa hu P H o
  ·obtain ⟨t,rfl⟩:∃ t:Nat,top=(t:Int):=⟨top.toNat,by omega⟩
   have au:t < n:=by omega
   have aH:O.length≤n:=by omega
   have S:t < N.length:=by rw[Aa L];exact au
   have aI: ¬ ((t:Int) < 0):=by omega
   have aJ: ¬ ((n:Int)≤(t:Int)):=by omega
   have aK:(t:Int) < (n:Int):=by omega
   have aL: ¬ ((n:Int) < (O.length:Int)):=by omega
   have aM:t≤fuel:=by have:=Aa L;omega
   have ag:=Ab (show Bg (N.map Nd.kids) (fuel+1) (t:Int) O=CV (Bg (N.map Nd.kids) fuel) (t:Int) (N[t].kids) O by
    rw[Bg];dsimp only;rw[if_neg (by rw[Aa M];exact hu),z0,yI,zd,zM S];rfl)
   have T:N[t].kids.length≤3:=Aa ab _ (List.mem_map_of_mem (zP S));rw[Aa ag];clear ag hu;obtain ⟨b,av,rfl,aw,an,nn,aN,aO,l,aP,ah,c1,c2,c3,c4,ax,I⟩:=J.cells t S;have c4:=(Q.cell (p:=⟨b,av+t * 5+4,none⟩) aw).trans c4;have U:=Ab (fun k O=>Le (K:=N.map Nd.kids) (Aa ab) fuel k O);rw[Aa M] at U;generalize N[t]=x at ah c1 c2 c3 c4 ax I T ⊢;generalize Bg (N.map Nd.kids) fuel=F at af U ⊢;have ai:=Ab I.len;have aQ:l≤3:=by rw[← I.len];exact T
   obtain ⟨ay,az,rfl,_⟩:=Af o;have aj:=Ab (show CV F (t:Int) (x.kids.drop 0) O=CV F (t:Int) x.kids O by rw[zm]);generalize CV F (t:Int) x.kids O=R at aj ⊢;clear ah c1 c2 c3 T;go_enter Tryz.func145,Tryz.ntmps145
   go_wp2_with fail
   go_loopw [2,33] (fun u i wr=>∃ (j:Nat) (d:List Int),j≤l∧i= .int .i64 j∧Hid (CV F (t:Int) (x.kids.drop j) d=R)∧d.length≤n+3 * fuel+j∧wr.ownsRow B 3 1 u d.length (AF d)∧Below B w wr∧NL w (.slice ay O.length az) wr u) (fun _ i _=>l - (intOf i).toNat)
   case atStart=>exact ⟨0,O,by omega,rfl,aj,by omega,o,BRN,NL.refl _ _⟩
   case round=>
    obtain ⟨j,d,aR,rfl,ak,aS,m,r,V⟩:=hrel;obtain ⟨aT,aU,rfl,_⟩:=Af m;have W:=zL H r.size;have al:=Q.trans (r.mono ar);by_cases ao:j < l
    ·have aV:(j:Int) < (l:Int):=by omega
     have ap:j < x.kids.length:=by rw[Aa ai];exact ao
     obtain ⟨aW,ok,rfl,aX,aA⟩:=(I.below al NLN).cells j ap;have s:=Ab (Vf (f:=F) (top:=(t:Int)) ap d);rw[Aa ak] at s;have aq:=Ab ao;generalize x.kids[j]=y at aA s;by_cases hy:(t:Int)≤y
     ·have z:=Ab (show R=d ++ [-1] by rw[Aa s,if_pos hy]);go_wp2_with (at_builtin;refine wpList_append_lies _ rfl _ _ 28 rfl B 3 i (.int .i64 0) 1 8 Tryz.underlying28 hi ac ad ae rfl (by decide) _ _ _ rfl (World.ownsRow.alloc m _) ⟨wr.heap.size,0,none⟩ 1 1 [.int .i64 (-1)] rfl rfl ?d1 ?d2 (by decide) ?d3 ?d4 ?d5 _ rfl ?_)
      first | (case d1=>exact BD _ _ _ _ (by simp)) | skip
      case d2=>first | (intro u hu;simp at hu;subst hu;rfl) | rfl
      case d3=>unfold maxLen;omega
      case d4=>omega
      case d5=>first | (simp;omega) | omega
      intro g cap aB A h C aC;have X:=EC (n:=d.length+1) (c:=cap) h C;have Y:=(r.alloc W (.cells #[.int .i64 (-1)] 3)).grown h (by simp;omega) (fun q hq=>(m.lt q hq).1);have Z:=Gr A;clear h C A;go_wp2_with fail
      go_ret
      exact ⟨_,rfl,by rw[Aa z];exact Z,Y,V.trans X⟩
     ·have z:=Ab (show CV F (t:Int) (x.kids.drop (j+1)) (F y d)=R by rw[Aa s,if_neg hy]);have aY:=Aa U y d;clear s;go_wp2_with (go_at_call 145;refine (af y d _ wr (by omega) (by omega) (by omega) al W m).mono ?_;rintro e aZ ⟨a0,rfl,aD,aE,aF⟩)
      go_roundw
      case rel=>exact ⟨j+1,F y d,Aa aq,by go_num,z,by omega,aD,r.trans aE,V.trans aF⟩
      case measure=>have:=Aa aq;simp[intOf];omega
    ·have e:j=l:=by omega
     subst e;have z:=Ab (show R=d ++ [(t:Int)] by
      rw[← Aa ak,List.drop_of_length_le (by rw[Aa ai];exact NLN),CV])
     go_wp2_with (at_builtin;refine wpList_append_lies _ rfl _ _ 28 rfl B 3 i (.int .i64 0) 1 8 Tryz.underlying28 hi ac ad ae rfl (by decide) _ _ _ rfl (World.ownsRow.alloc m _) ⟨wr.heap.size,0,none⟩ 1 1 [.int .i64 (t:Int)] rfl rfl ?e1 ?e2 (by decide) ?e3 ?e4 ?e5 _ rfl ?_)
     first | (case e1=>exact BD _ _ _ _ (by simp)) | skip
     case e2=>first | (intro u hu;simp at hu;subst hu;rfl) | rfl
     case e3=>unfold maxLen;omega
     case e4=>omega
     case e5=>first | (simp;omega) | omega
     intro g cap aB A h C aC;have X:=EC (n:=d.length+1) (c:=cap) h C;have Y:=(r.alloc W (.cells #[.int .i64 (t:Int)] 3)).grown h (by simp;omega) (fun q hq=>(m.lt q hq).1);have Z:=Gr A;clear h C A;go_wp2_with fail
     go_ret
     exact ⟨_,rfl,by rw[Aa z];exact Z,Y,V.trans X⟩
set_option maxHeartbeats 3200000
def Gs (F:Int→Nat) (ks:List Int):Nat:=ks.foldl (fun d k=>max d (F k)) 0
theorem Vg (F:Int→Nat)(ks:List Int)(k:Int):Gs F (ks ++ [k])=max (Gs F ks) (F k):=by
 rw[Gs,zo];rfl
theorem Tu {F:Int→Nat}{M:Nat}(h:∀ k,F k≤M):∀ (ks:List Int) (d:Nat),d≤M→ks.foldl (fun d k=>max d (F k)) d≤M
 | [],d,hd=>hd
 |k ::ks,d,hd=>by
  rw[List.foldl_cons];exact Tu h ks _ (by have:=h k;omega)
theorem Lf (K:List (List Int)):∀ (n:Nat) (t:Int),Bm K n t≤n+1
 | 0,t=>by rw[Bm];show 1≤0+1;omega
 |n+1,t=>by
  rw[Bm];dsimp only;have:=Tu (F:=Bm K n) (M:=n+1) (Lf K n) (K.getD t.toNat []) 0 (by omega);omega
theorem CG (a:Option Addr)(n c:Nat)(N:List Nd)(q:World)(E:IZ q a n c N)(H:∀ t,(h:t < N.length)→∀ y∈N[t].kids,0≤y∧y < (t:Int)):
  ∀ (fuel t:Nat) (w:World),fuel≤4001→t < n→t < fuel→Below q.heap.size q w→
  Calls Tryz.prog 39 #[.slice a n c,.int .i64 t] w fun e w'=>e= .returned (.int .i64 (Bm (N.map Nd.kids) fuel (t:Int)))∧Below w.heap.size w w':=by
 have O:=Ab E.len;have P:=Ab H;clear H;intro fuel
 induction fuel with
 |zero=>intro t w _ _ h;omega
 |succ fuel r=>
  intro t w ad Q ae u;have v:t < N.length:=by rw[Aa O];exact Q
  have af:(t:Int) < (n:Int):=by omega
  have hk:=Aa P t v;have I:=Ab (show Bm (N.map Nd.kids) (fuel+1) (t:Int)=Gs (Bm (N.map Nd.kids) fuel) N[t].kids+1 by
   rw[Bm];dsimp only;rw[z0,yI,zd,zM v];rfl)
  have J:=Ab (Lf (N.map Nd.kids) fuel);obtain ⟨b,R,rfl,S,an,nn,ag,ah,g,ai,T,c1,c2,c3,c4,U,l⟩:=E.cells t v;have c4:=(u.cell (p:=⟨b,R+t * 5+4,none⟩) S).trans c4;rw[Aa I];clear I T c1 c2 c3;generalize N[t]=x at c4 U l hk ⊢;generalize Bm (N.map Nd.kids) fuel=F at r J ⊢;have K:=Ab l.len;have aj:=l.small;have V:=Ab hk;clear hk;go_enter Tryz.func39,Tryz.ntmps39
  go_wp2_with fail
  go_loopw [5,15] (fun d i wr=>∃ j:Nat,j≤g∧i= .int .i64 j∧d= .int .i64 (Gs F (x.kids.take j))∧Gs F (x.kids.take j)≤4001∧Below w.heap.size w wr) (fun _ i _=>g - (intOf i).toNat)
  case atStart=>exact ⟨0,by omega,rfl,rfl,by simp[Gs],BRN⟩
  case round=>
   obtain ⟨j,ak,rfl,rfl,z,f⟩:=hrel;have A:=u.trans (f.mono u.size);by_cases L:j < g
   ·have al:(j:Int) < (g:Int):=by omega
    have B:j < x.kids.length:=by rw[Aa K];exact L
    obtain ⟨ao,ok,rfl,ap,W⟩:=(l.below A NLN).cells j B;obtain ⟨X,Y⟩:=Aa V x.kids[j] (zP B);have m:=Ab (show Gs F (x.kids.take (j+1))=max (Gs F (x.kids.take j)) (F x.kids[j]) by rw[zx B,Vg]);have o:=Ab L;generalize x.kids[j]=y at W X Y m;obtain ⟨s,rfl⟩:∃ s:Nat,y=(s:Int):=⟨y.toNat,by omega⟩
    have aq:=Aa J (s:Int);generalize Gs F (x.kids.take j)=D at z m;by_cases ar:D < F (s:Int)
    ·have Z:(D:Int) < (F (s:Int):Int):=by omega
     have k:=Ab (show Gs F (x.kids.take (j+1))=F (s:Int) by rw[Aa m];omega);go_wp2_with (go_at_call 39;refine (r s wr (by omega) (by omega) (by omega) A).mono ?_;rintro e aa ⟨rfl,C⟩)
     go_roundw
     case rel=>exact ⟨j+1,Aa o,by go_num,by rw[Aa k],by rw[Aa k];omega,f.trans (C.mono f.size)⟩
     case measure=>have:=Aa o;simp[intOf];omega
    ·have Z: ¬ ((D:Int) < (F (s:Int):Int)):=by omega
     have k:=Ab (show Gs F (x.kids.take (j+1))=D by rw[Aa m];omega);go_wp2_with (go_at_call 39;refine (r s wr (by omega) (by omega) (by omega) A).mono ?_;rintro e aa ⟨rfl,C⟩)
     go_roundw
     case rel=>exact ⟨j+1,Aa o,by go_num,by rw[Aa k],by rw[Aa k];omega,f.trans (C.mono f.size)⟩
     case measure=>have:=Aa o;simp[intOf];omega
   ·have e:j=g:=by omega
    subst e;have ab:=Ab (show x.kids.take j=x.kids from zk (by rw[Aa K];exact NLN));rw[Aa ab] at z ⊢;generalize M:Gs F x.kids=D at z ⊢;have ac:=Ab M;clear M;go_wp2_with fail
    go_ret
    exact ⟨by rw[Aa ac,zU];rfl,f⟩
end Go.Proofs.YtffkofkjpckmpaaGreatDoor
