/-
  QO, QQ. Own work.
-/
import Derived.Test.YtoplnhndilmlcaaGreatDoorMXAD
import Derived.Test.YtoplnhndilmlcaaGreatDoorMXAG
import Derived.Test.YtoplnhndilmlcaaGreatDoorMXAV
import Derived.Deep.RegionHeld3
namespace Go.Proofs.YtoplnhndilmlcaaGreatDoor
set_option maxRecDepth 100000
set_option maxHeartbeats 1600000
open Go.RowKit
set_option linter.unusedVariables false
theorem Ry (op:Int)(w:World)(a: 1≤op∧op≤27):
  Calls Tryz.prog 31 #[.int .i64 op] w fun e w'=>e= .returned (.int .i64 (Bi op))∧w'=w:=by
 have:op=1∨op=2∨op=3∨op=4∨op=5∨op=6∨op=7∨op=8∨op=9∨op=10∨op=11∨op=12∨op=13∨op=14∨op=15∨op=16∨op=17∨op=18∨op=19∨op=20∨op=21∨op=22∨op=23∨op=24∨op=25∨op=26∨op=27:=by omega
 rcases this with rfl | rfl | rfl | rfl | rfl | rfl | rfl | rfl | rfl | rfl | rfl | rfl | rfl | rfl | rfl | rfl | rfl | rfl | rfl | rfl | rfl | rfl | rfl | rfl | rfl | rfl | rfl
 all_goals
  go_enter Tryz.func31,Tryz.ntmps31
  go_wp2
  go_ret
  exact ⟨rfl,rfl⟩
def sgV:Array Value:=(Rf.map Value.string).toArray
def sg (k:Nat):ByteArray:=Rf.getD k ⟨#[]⟩
theorem Yx {k:Nat}(h:k < 16):sgV[k]? =some (.string (sg k)):=by
 match k,h with
 | 0,_=>rfl
 | 1,_=>rfl
 | 2,_=>rfl
 | 3,_=>rfl
 | 4,_=>rfl
 | 5,_=>rfl
 | 6,_=>rfl
 | 7,_=>rfl
 | 8,_=>rfl
 | 9,_=>rfl
 | 10,_=>rfl
 | 11,_=>rfl
 | 12,_=>rfl
 | 13,_=>rfl
 | 14,_=>rfl
 | 15,_=>rfl
 | k+16,h=>exact absurd h (by omega)
theorem Z8:∀ (j k:Fin 16),((sg k).data.toList==(sg j).data.toList)=decide (j=k):=by decide
theorem Ab3 {j k:Nat}(a:j < 16)(hk:k < 16):((sg k).toList==(sg j).toList)=decide (j=k):=by
 rw[ByteArray.toList_eq,ByteArray.toList_eq];have:=Z8 ⟨j,a⟩ ⟨k,hk⟩;simpa using this
theorem Wb (k:Nat)(hk:k < 16)(w:World):
  Calls Tryz.prog 68 #[.string (sg k)] w fun e w'=>e= .returned (.int .i64 (11+k))∧Below w.heap.size w w':=by
 have R:Aj (w.alloc (.cells #[.string ⟨#[43]⟩,.string ⟨#[45]⟩,.string ⟨#[42]⟩,.string ⟨#[47]⟩,.string ⟨#[37]⟩,.string ⟨#[124]⟩,.string ⟨#[38]⟩,.string ⟨#[92]⟩,.string ⟨#[61,61]⟩,.string ⟨#[33,61]⟩,.string ⟨#[60]⟩,.string ⟨#[60,61]⟩,.string ⟨#[105,110]⟩,.string ⟨#[119,105,116,104,105,110]⟩,.string ⟨#[97,110,100]⟩,.string ⟨#[111,114]⟩] 9)) w.heap.size sgV 9:=Aj.new w sgV 9;have b:=(Below.refl w.heap.size w).alloc NLN (.cells #[.string ⟨#[43]⟩,.string ⟨#[45]⟩,.string ⟨#[42]⟩,.string ⟨#[47]⟩,.string ⟨#[37]⟩,.string ⟨#[124]⟩,.string ⟨#[38]⟩,.string ⟨#[92]⟩,.string ⟨#[61,61]⟩,.string ⟨#[33,61]⟩,.string ⟨#[60]⟩,.string ⟨#[60,61]⟩,.string ⟨#[105,110]⟩,.string ⟨#[119,105,116,104,105,110]⟩,.string ⟨#[97,110,100]⟩,.string ⟨#[111,114]⟩] 9);have c:=Ab (fun j (d:j < 16)=>Ab3 (k:=k) d hk);generalize sg k=s at c ⊢;go_enter Tryz.func68,Tryz.ntmps68
 go_wp2
 generalize w.alloc (.cells #[.string ⟨#[43]⟩,.string ⟨#[45]⟩,.string ⟨#[42]⟩,.string ⟨#[47]⟩,.string ⟨#[37]⟩,.string ⟨#[124]⟩,.string ⟨#[38]⟩,.string ⟨#[92]⟩,.string ⟨#[61,61]⟩,.string ⟨#[33,61]⟩,.string ⟨#[60]⟩,.string ⟨#[60,61]⟩,.string ⟨#[105,110]⟩,.string ⟨#[119,105,116,104,105,110]⟩,.string ⟨#[97,110,100]⟩,.string ⟨#[111,114]⟩] 9)=f at R b ⊢;go_loop [7] (fun i=>∃ j:Nat,j≤k∧i= .int .i64 j) (fun i=>16 - (intOf i).toNat)
 case atStart=>exact ⟨0,by omega,rfl⟩
 case round=>
  obtain ⟨j,d,rfl⟩:=hrel;have g:(j:Int) < 16:=by omega
  have hc:=(R.cell j).trans (Yx (by omega));have h:=Aa c j (by omega);generalize sg j=x at hc h;by_cases e:j=k
  ·rw[decide_eq_true e] at h;have a:=Ab e;clear e;go_wp2
   go_ret
   exact ⟨by rw[← Aa a];rfl,b⟩
  ·rw[decide_eq_false e] at h;have a:=Ab e;clear e;go_wp2
   go_round
   case rel=>exact ⟨j+1,by have:=Aa a;omega,by go_num⟩
   case measure=>simp[intOf];omega
theorem ER (op:Int)(l: 11≤op∧op≤26)(w:World):
  Calls Tryz.prog 34 #[.int .i64 op] w fun e w'=>e= .returned (.string (Bo op))∧Below w.heap.size w w':=by
 obtain ⟨k,hk,rfl⟩:∃ k:Nat,k < 16∧op=11+(k:Int):=⟨(op - 11).toNat,by omega,by omega⟩
 have R:Aj (w.alloc (.cells #[.string ⟨#[43]⟩,.string ⟨#[45]⟩,.string ⟨#[42]⟩,.string ⟨#[47]⟩,.string ⟨#[37]⟩,.string ⟨#[124]⟩,.string ⟨#[38]⟩,.string ⟨#[92]⟩,.string ⟨#[61,61]⟩,.string ⟨#[33,61]⟩,.string ⟨#[60]⟩,.string ⟨#[60,61]⟩,.string ⟨#[105,110]⟩,.string ⟨#[119,105,116,104,105,110]⟩,.string ⟨#[97,110,100]⟩,.string ⟨#[111,114]⟩] 9)) w.heap.size sgV 9:=Aj.new w sgV 9;have a:=(Below.refl w.heap.size w).alloc NLN (.cells #[.string ⟨#[43]⟩,.string ⟨#[45]⟩,.string ⟨#[42]⟩,.string ⟨#[47]⟩,.string ⟨#[37]⟩,.string ⟨#[124]⟩,.string ⟨#[38]⟩,.string ⟨#[92]⟩,.string ⟨#[61,61]⟩,.string ⟨#[33,61]⟩,.string ⟨#[60]⟩,.string ⟨#[60,61]⟩,.string ⟨#[105,110]⟩,.string ⟨#[119,105,116,104,105,110]⟩,.string ⟨#[97,110,100]⟩,.string ⟨#[111,114]⟩] 9);have f:=Ab (show Bo (11+(k:Int))=sg k by rw[Bo,sg];congr 1;omega);rw[Aa f];clear l f;go_enter Tryz.func34,Tryz.ntmps34
 go_wp2_with fail
 have m:w.heap.size < (w.alloc (.cells #[.string ⟨#[43]⟩,.string ⟨#[45]⟩,.string ⟨#[42]⟩,.string ⟨#[47]⟩,.string ⟨#[37]⟩,.string ⟨#[124]⟩,.string ⟨#[38]⟩,.string ⟨#[92]⟩,.string ⟨#[61,61]⟩,.string ⟨#[33,61]⟩,.string ⟨#[60]⟩,.string ⟨#[60,61]⟩,.string ⟨#[105,110]⟩,.string ⟨#[119,105,116,104,105,110]⟩,.string ⟨#[97,110,100]⟩,.string ⟨#[111,114]⟩] 9)).heap.size:=by simp
 generalize w.alloc (.cells #[.string ⟨#[43]⟩,.string ⟨#[45]⟩,.string ⟨#[42]⟩,.string ⟨#[47]⟩,.string ⟨#[37]⟩,.string ⟨#[124]⟩,.string ⟨#[38]⟩,.string ⟨#[92]⟩,.string ⟨#[61,61]⟩,.string ⟨#[33,61]⟩,.string ⟨#[60]⟩,.string ⟨#[60,61]⟩,.string ⟨#[105,110]⟩,.string ⟨#[119,105,116,104,105,110]⟩,.string ⟨#[97,110,100]⟩,.string ⟨#[111,114]⟩] 9)=g at R a m ⊢;go_loopw [7] (fun i wr=>∃ j:Nat,j≤k∧i= .int .i64 j∧Below g.heap.size g wr) (fun i _=>16 - (intOf i).toNat)
 case atStart=>exact ⟨0,by omega,rfl,BRN⟩
 case round=>
  obtain ⟨j,s,rfl,b⟩:=hrel;have t:(j:Int) < 16:=by omega
  have hc:=((R.after b NLN).cell j).trans (Yx (by omega));have c:=Ab (Wb j (by omega));have h:=b.size;have u:=Ab (show sg k=sg k from rfl);by_cases e:j=k
  ·subst e;obtain ⟨x,hx⟩:∃ x,x=sg j:=⟨_,rfl⟩
   rw[← hx] at hc c;have n:=Ab hx;clear hx;go_wp2_with fail
   refine (Aa c _).mono ?_;rintro r o ⟨rfl,d⟩;have p:((11+(j:Int))== 11+(j:Int))=true:=beq_self_eq_true _;dsimp only;go_wp2_with fail
   go_ret
   exact ⟨by rw[← Aa n];rfl,(a.trans (b.mono a.size)).trans (d.mono (Nat.le_trans a.size h))⟩
  ·generalize sg j=x at hc c ⊢;have p:((11+(j:Int))== 11+(k:Int))=false:=beq_eq_false_iff_ne.2 (by omega);have q:=Ab e;clear e;go_wp2_with fail
   refine (Aa c _).mono ?_;rintro r o ⟨rfl,d⟩;dsimp only;go_wp2_with fail
   go_roundw
   case rel=>exact ⟨j+1,by have:=Aa q;omega,by go_num,b.trans (d.mono h)⟩
   case measure=>simp[intOf];omega
def RA (w:World) (a:Option Addr) (n c i:Nat) (op:Int) (pr:ByteArray):Prop:=
 ∀ (want:Int) (W:World),want≤Bi op→Below w.heap.size w W→Calls Tryz.prog 15 #[.slice a n c,.int .i64 i,.int .i64 want] W fun r w'=>r= .returned (.string pr)∧Below W.heap.size W w'
def FM (w:World) (a:Option Addr) (n c i:Nat) (put:Int→ByteArray):Prop:=
 ∀ (want:Int) (W:World),Below w.heap.size w W→Calls Tryz.prog 15 #[.slice a n c,.int .i64 i,.int .i64 want] W fun r w'=>r= .returned (.string (put want))∧Below W.heap.size W w'
theorem BS {a b:ByteArray}(h:a.size+b.size≤9223372036854775807):∀ w,(Op.stringOp .add a b).run Tryz.prog w= .ok (.string (a ++b)) w:=fun w=>run_string_add_sum w a b h
theorem AS {op:Int}(a: 1≤op∧op≤27){lv:Int}(h:Bi op=lv):∀ w:World,Calls Tryz.prog 31 #[.int .i64 op] w fun e w'=>e= .returned (.int .i64 lv)∧w'=w:=fun w=>by
 rw[← h];exact Ry op w a
theorem Aaa (w:World)(a:Option Addr)(n c:Nat)(N:List Nd)(h:Fe w a n c N)(i:Nat)(x:Nd)(hx:N[i]? =some x)(j:x.op=1)(h0: 0≤x.num)(h1:x.num≤9223372036854775807):RA w a n c i 1 (F7 x.num.toNat):=by
 intro B d l m;have o:i < N.length:=(List.getElem?_eq_some_iff.1 hx).1;have p:N[i]=x:=(List.getElem?_eq_some_iff.1 hx).2;obtain ⟨b,I,rfl,J,an,nn,q,s,t,u,v,c1,c2,c3,c4,y,z⟩:=(h.below m NLN).cells i o;rw[p] at v c1 c2 y z;rw[j] at v;have K:(i:Int) < (n:Int):=by have:=h.len;omega
 have L:=h.small;have C:decide (Bi 1 < B)=false:=decide_eq_false (by omega);have f:=Ab (AS (op:=1) (by decide) rfl);generalize Bi 1=lv at C f l;have g:=(Below.refl d.heap.size d).alloc NLN (.cells #[.int .i64 1,.int .i64 x.num,.string x.text,.slice an nn q,.slice s t u] 80);have E:=Aj.new d #[.int .i64 1,.int .i64 x.num,.string x.text,.slice an nn q,.slice s t u] 80;clear h hx o p j l m;obtain ⟨k,hk⟩:∃ k:Nat,x.num=k:=⟨x.num.toNat,by omega⟩
 rw[hk] at c1 g E ⊢;rw[Int.toNat_natCast];have F:=Ab (fun w=>Wc k w (by omega));clear h0 h1 hk y z;go_enter Tryz.func15,Tryz.ntmps15
 go_wp2_with fail
 refine (Aa f _).mono ?_;rintro r M ⟨rfl,A⟩;rw[A];clear A f;dsimp only;go_wp2_with fail
 refine (Aa F _).mono ?_;rintro r O ⟨rfl,H⟩;dsimp only;go_wp2_with fail
 go_ret
 exact ⟨rfl,g.trans (H.mono g.size)⟩
theorem Yz (w:World)(a:Option Addr)(n c:Nat)(N:List Nd)(h:Fe w a n c N)(i:Nat)(x:Nd)(hx:N[i]? =some x)(g:x.op=2)(h0:x.text.size≤32):RA w a n c i 2 (⟨#[34]⟩ ++x.text ++⟨#[34]⟩):=by
 intro z d j k;have l:i < N.length:=(List.getElem?_eq_some_iff.1 hx).1;have m:N[i]=x:=(List.getElem?_eq_some_iff.1 hx).2;obtain ⟨b,C,rfl,E,an,nn,o,p,q,s,t,c1,c2,c3,c4,u,v⟩:=(h.below k NLN).cells i l;rw[m] at t c1 c2 u v;rw[g] at t;have F:(i:Int) < (n:Int):=by have:=h.len;omega
 have H:=h.small;have A:decide (Bi 2 < z)=false:=decide_eq_false (by omega);have f:=Ab (AS (op:=2) (by decide) rfl);generalize Bi 2=lv at A f j;have B:=(Below.refl d.heap.size d).alloc NLN (.cells #[.int .i64 2,.int .i64 x.num,.string x.text,.slice an nn o,.slice p q s] 80);have I:=Aj.new d #[.int .i64 2,.int .i64 x.num,.string x.text,.slice an nn o,.slice p q s] 80;clear h hx l m g j k;clear u v;go_enter Tryz.func15,Tryz.ntmps15
 go_wp2_with fail
 refine (Aa f _).mono ?_;rintro r J ⟨rfl,y⟩;rw[y];clear y f;dsimp only;go_wp2_with fail
 go_ret
 exact ⟨rfl,B⟩
theorem We (w:World)(a:Option Addr)(n c:Nat)(N:List Nd)(h:Fe w a n c N)(i:Nat)(x:Nd)(hx:N[i]? =some x)(g:x.op=3)(h0:x.num=1):RA w a n c i 3 (⟨#[116,114,117,101]⟩):=by
 intro A d j k;have l:i < N.length:=(List.getElem?_eq_some_iff.1 hx).1;have m:N[i]=x:=(List.getElem?_eq_some_iff.1 hx).2;obtain ⟨b,E,rfl,F,an,nn,o,p,q,s,t,c1,c2,c3,c4,u,v⟩:=(h.below k NLN).cells i l;rw[m] at t c1 c2 u v;rw[g] at t;have H:(i:Int) < (n:Int):=by have:=h.len;omega
 have I:=h.small;have B:decide (Bi 3 < A)=false:=decide_eq_false (by omega);have f:=Ab (AS (op:=3) (by decide) rfl);generalize Bi 3=lv at B f j;have y:=(Below.refl d.heap.size d).alloc NLN (.cells #[.int .i64 3,.int .i64 x.num,.string x.text,.slice an nn o,.slice p q s] 80);have C:=Aj.new d #[.int .i64 3,.int .i64 x.num,.string x.text,.slice an nn o,.slice p q s] 80;clear h hx l m g j k;rw[h0] at c1 y C;clear u v h0;go_enter Tryz.func15,Tryz.ntmps15
 go_wp2_with fail
 refine (Aa f _).mono ?_;rintro r J ⟨rfl,z⟩;rw[z];clear z f;dsimp only;go_wp2_with fail
 go_ret
 exact ⟨rfl,y⟩
theorem Wf (w:World)(a:Option Addr)(n c:Nat)(N:List Nd)(h:Fe w a n c N)(i:Nat)(x:Nd)(hx:N[i]? =some x)(g:x.op=3)(h0:x.num≠1):RA w a n c i 3 (⟨#[102,97,108,115,101]⟩):=by
 intro z d j k;have l:i < N.length:=(List.getElem?_eq_some_iff.1 hx).1;have m:N[i]=x:=(List.getElem?_eq_some_iff.1 hx).2;obtain ⟨b,C,rfl,E,an,nn,o,p,q,s,t,c1,c2,c3,c4,u,v⟩:=(h.below k NLN).cells i l;rw[m] at t c1 c2 u v;rw[g] at t;have F:(i:Int) < (n:Int):=by have:=h.len;omega
 have H:=h.small;have A:decide (Bi 3 < z)=false:=decide_eq_false (by omega);have f:=Ab (AS (op:=3) (by decide) rfl);generalize Bi 3=lv at A f j;have B:=(Below.refl d.heap.size d).alloc NLN (.cells #[.int .i64 3,.int .i64 x.num,.string x.text,.slice an nn o,.slice p q s] 80);have I:=Aj.new d #[.int .i64 3,.int .i64 x.num,.string x.text,.slice an nn o,.slice p q s] 80;clear h hx l m g j k;have J:(x.num== 1)=false:=beq_eq_false_iff_ne.2 h0;clear u v h0;go_enter Tryz.func15,Tryz.ntmps15
 go_wp2_with fail
 refine (Aa f _).mono ?_;rintro r K ⟨rfl,y⟩;rw[y];clear y f;dsimp only;go_wp2_with fail
 go_ret
 exact ⟨rfl,B⟩
theorem YA (w:World)(a:Option Addr)(n c:Nat)(N:List Nd)(h:Fe w a n c N)(i:Nat)(x:Nd)(hx:N[i]? =some x)(g:x.op=5):RA w a n c i 5 x.text:=by
 intro z d j k;have l:i < N.length:=(List.getElem?_eq_some_iff.1 hx).1;have m:N[i]=x:=(List.getElem?_eq_some_iff.1 hx).2;obtain ⟨b,C,rfl,E,an,nn,o,p,q,s,t,c1,c2,c3,c4,u,v⟩:=(h.below k NLN).cells i l;rw[m] at t c1 c2 u v;rw[g] at t;have F:(i:Int) < (n:Int):=by have:=h.len;omega
 have H:=h.small;have A:decide (Bi 5 < z)=false:=decide_eq_false (by omega);have f:=Ab (AS (op:=5) (by decide) rfl);generalize Bi 5=lv at A f j;have B:=(Below.refl d.heap.size d).alloc NLN (.cells #[.int .i64 5,.int .i64 x.num,.string x.text,.slice an nn o,.slice p q s] 80);have I:=Aj.new d #[.int .i64 5,.int .i64 x.num,.string x.text,.slice an nn o,.slice p q s] 80;clear h hx l m g j k;clear u v;go_enter Tryz.func15,Tryz.ntmps15
 go_wp2_with fail
 refine (Aa f _).mono ?_;rintro r J ⟨rfl,y⟩;rw[y];clear y f;dsimp only;go_wp2_with fail
 go_ret
 exact ⟨rfl,B⟩
theorem Aab (w:World)(a:Option Addr)(n c:Nat)(N:List Nd)(h:Fe w a n c N)(i:Nat)(x:Nd)(hx:N[i]? =some x)(q:x.op=4)(h0:x.names.length≤64)(h1:∀ y∈x.names,y.size≤32):RA w a n c i 4 (Ng x.names):=by
 intro J k s t;have u:i < N.length:=(List.getElem?_eq_some_iff.1 hx).1;have v:N[i]=x:=(List.getElem?_eq_some_iff.1 hx).2;obtain ⟨b,P,rfl,Q,an,nn,l,z,A,B,C,c1,c2,c3,c4,f,m⟩:=(h.below t NLN).cells i u;rw[v] at C c1 c2 f m;rw[q] at C;have R:(i:Int) < (n:Int):=by have:=h.len;omega
 have S:=h.small;have K:decide (Bi 4 < J)=false:=decide_eq_false (by omega);have g:=Ab (AS (op:=4) (by decide) rfl);generalize Bi 4=lv at K g s;have o:=(Below.refl k.heap.size k).alloc NLN (.cells #[.int .i64 4,.int .i64 x.num,.string x.text,.slice an nn l,.slice z A B] 80);have T:=Aj.new k #[.int .i64 4,.int .i64 x.num,.string x.text,.slice an nn l,.slice z A B] 80;clear h hx u v q s t;have p:=f.len;by_cases d:x.names= []
 ·have L:Ng x.names=⟨#[123,125]⟩:=by rw[d];decide
  obtain rfl:nn=0:=by rw[p,d];rfl
  rw[L];clear f m h0 h1 p d;go_enter Tryz.func15,Tryz.ntmps15
  go_wp2_with fail
  refine (Aa g _).mono ?_;rintro r M ⟨rfl,j⟩;rw[j];clear j g;dsimp only;go_wp2_with fail
  go_ret
  exact ⟨rfl,o⟩
 ·have E:=Ab (TE d);have nz:((nn:Int)== 0)=false:=beq_eq_false_iff_ne.2 (by have:x.names.length≠0:=fun e=>d (List.eq_nil_of_length_eq_zero e);omega);have F:=Ab (TG an nn l x.names _ (f.below o NLN) (by omega) h1);have H:=PG true x.names h1;rw[← Aa E];generalize jn true x.names=O at F H ⊢;have U:O.size≤2304:=by omega
  clear f m h0 h1 p d E H;go_enter Tryz.func15,Tryz.ntmps15
  go_wp2_with fail
  refine (Aa g _).mono ?_;rintro r M ⟨rfl,j⟩;rw[j];clear j g;dsimp only;go_wp2_with fail
  refine (Aa F).mono ?_;rintro r V ⟨rfl,I⟩;rw[I];clear I;have e1:(⟨#[123,34]⟩:ByteArray).size=2:=rfl;have e2:(⟨#[34,125]⟩:ByteArray).size=2:=rfl;dsimp only;go_wp2_with fail
  go_ret
  exact ⟨rfl,o⟩
theorem YB (w:World)(a:Option Addr)(n c:Nat)(N:List Nd)(h:Fe w a n c N)(i:Nat)(x:Nd)(hx:N[i]? =some x)(p: 1≤x.op∧x.op≤27)(f:ByteArray)(L:f.size≤100000000000)(l:RA w a n c i x.op f):FM w a n c i (fun d=>par (decide (Bi x.op < d)) f):=by
 intro d g j;by_cases k:Bi x.op < d
 ·have q:=Ab (show par (decide (Bi x.op < d)) f=⟨#[40]⟩ ++f ++⟨#[41]⟩ by rw[decide_eq_true k];rfl);dsimp only;rw[Aa q];have s:i < N.length:=(List.getElem?_eq_some_iff.1 hx).1;have t:N[i]=x:=(List.getElem?_eq_some_iff.1 hx).2;obtain ⟨b,M,rfl,O,an,nn,z,A,B,C,E,c1,c2,c3,c4,u,v⟩:=(h.below j NLN).cells i s;rw[t] at E c1 c2 u v;have P:(i:Int) < (n:Int):=by have:=h.len;omega
  have Q:=h.small;have F:decide (Bi x.op < d)=true:=decide_eq_true k;have m:=Ab (AS p rfl);have H:=Ab (fun g I=>l 0 g (DU _) I);have o:=(Below.refl g.heap.size g).alloc NLN (.cells #[.int .i64 x.op,.int .i64 x.num,.string x.text,.slice an nn z,.slice A B C] 80);have J:=Ab (j.trans (o.mono j.size));have R:(⟨#[40]⟩:ByteArray).size=1:=rfl;have S:(⟨#[41]⟩:ByteArray).size=1:=rfl;generalize Bi x.op=lv at F m;clear h hx s t k j l u v p q;go_enter Tryz.func15,Tryz.ntmps15
  go_wp2_with fail
  refine (Aa m _).mono ?_;rintro r T ⟨rfl,y⟩;rw[y];clear y m;dsimp only;go_wp2_with fail
  refine (Aa H _ (Aa J)).mono ?_;rintro r U ⟨rfl,K⟩;dsimp only;go_wp2_with fail
  go_ret
  exact ⟨rfl,o.trans (K.mono o.size)⟩
 ·dsimp only;rw[decide_eq_false k];exact l d g (by omega) j
theorem Aac (w:World)(a:Option Addr)(n c:Nat)(N:List Nd)(h:Fe w a n c N)(i:Nat)(x:Nd)(hx:N[i]? =some x)(o:x.op=8)(k:Nat)(hk:x.kids= [(k:Int)])(p:Int→ByteArray)(q:FM w a n c k p)(L:(p 7).size≤50000000000):RA w a n c i 8 (⟨#[45]⟩ ++p 7):=by
 intro E g s f;have t:i < N.length:=(List.getElem?_eq_some_iff.1 hx).1;have u:N[i]=x:=(List.getElem?_eq_some_iff.1 hx).2;obtain ⟨b,M,rfl,O,an,nn,v,y,j,z,A,c1,c2,c3,c4,B,d⟩:=(h.below f NLN).cells i t;rw[u] at A c1 c2 B d;rw[o] at A;have P:(i:Int) < (n:Int):=by have:=h.len;omega
 have Q:=h.small;have F:decide (Bi 8 < E)=false:=decide_eq_false (by omega);have l:=Ab (AS (op:=8) (by decide) rfl);generalize Bi 8=lv at F l s;have m:=(Below.refl g.heap.size g).alloc NLN (.cells #[.int .i64 8,.int .i64 x.num,.string x.text,.slice an nn v,.slice y j z] 80);have R:=Aj.new g #[.int .i64 8,.int .i64 x.num,.string x.text,.slice an nn v,.slice y j z] 80;have H:=Ab (f.trans (m.mono f.size));clear h hx t u o s f;rw[hk] at d;obtain ⟨S,ok,rfl,T,I⟩:=d.cells 0 (by simp);obtain rfl:j=1:=d.len.symm;simp only[List.getElem_cons_zero,Nat.add_zero] at I;have J:=Ab q;have U:(⟨#[45]⟩:ByteArray).size=1:=rfl;have V:(⟨#[41]⟩:ByteArray).size=1:=rfl;clear B d hk q;go_enter Tryz.func15,Tryz.ntmps15
 go_wp2_with fail
 refine (Aa l _).mono ?_;rintro r W ⟨rfl,C⟩;rw[C];clear C l;dsimp only;go_wp2_with fail
 refine (Aa J _ _ (Aa H)).mono ?_;rintro r X ⟨rfl,K⟩;dsimp only;go_wp2_with fail
 go_ret
 exact ⟨rfl,m.trans (K.mono m.size)⟩
theorem Aad (w:World)(a:Option Addr)(n c:Nat)(N:List Nd)(h:Fe w a n c N)(i:Nat)(x:Nd)(hx:N[i]? =some x)(o:x.op=9)(k:Nat)(hk:x.kids= [(k:Int)])(p:Int→ByteArray)(q:FM w a n c k p)(L:(p 3).size≤50000000000):RA w a n c i 9 (⟨#[110,111,116,32]⟩ ++p 3):=by
 intro E g s f;have t:i < N.length:=(List.getElem?_eq_some_iff.1 hx).1;have u:N[i]=x:=(List.getElem?_eq_some_iff.1 hx).2;obtain ⟨b,M,rfl,O,an,nn,v,y,j,z,A,c1,c2,c3,c4,B,d⟩:=(h.below f NLN).cells i t;rw[u] at A c1 c2 B d;rw[o] at A;have P:(i:Int) < (n:Int):=by have:=h.len;omega
 have Q:=h.small;have F:decide (Bi 9 < E)=false:=decide_eq_false (by omega);have l:=Ab (AS (op:=9) (by decide) rfl);generalize Bi 9=lv at F l s;have m:=(Below.refl g.heap.size g).alloc NLN (.cells #[.int .i64 9,.int .i64 x.num,.string x.text,.slice an nn v,.slice y j z] 80);have R:=Aj.new g #[.int .i64 9,.int .i64 x.num,.string x.text,.slice an nn v,.slice y j z] 80;have H:=Ab (f.trans (m.mono f.size));clear h hx t u o s f;rw[hk] at d;obtain ⟨S,ok,rfl,T,I⟩:=d.cells 0 (by simp);obtain rfl:j=1:=d.len.symm;simp only[List.getElem_cons_zero,Nat.add_zero] at I;have J:=Ab q;have U:(⟨#[110,111,116,32]⟩:ByteArray).size=4:=rfl;have V:(⟨#[41]⟩:ByteArray).size=1:=rfl;clear B d hk q;go_enter Tryz.func15,Tryz.ntmps15
 go_wp2_with fail
 refine (Aa l _).mono ?_;rintro r W ⟨rfl,C⟩;rw[C];clear C l;dsimp only;go_wp2_with fail
 refine (Aa J _ _ (Aa H)).mono ?_;rintro r X ⟨rfl,K⟩;dsimp only;go_wp2_with fail
 go_ret
 exact ⟨rfl,m.trans (K.mono m.size)⟩
theorem YC (w:World)(a:Option Addr)(n c:Nat)(N:List Nd)(h:Fe w a n c N)(i:Nat)(x:Nd)(hx:N[i]? =some x)(o:x.op=10)(k:Nat)(hk:x.kids= [(k:Int)])(p:Int→ByteArray)(q:FM w a n c k p)(L:(p 0).size≤50000000000):RA w a n c i 10 (⟨#[115,105,122,101,40]⟩ ++p 0 ++⟨#[41]⟩):=by
 intro E g s f;have t:i < N.length:=(List.getElem?_eq_some_iff.1 hx).1;have u:N[i]=x:=(List.getElem?_eq_some_iff.1 hx).2;obtain ⟨b,M,rfl,O,an,nn,v,y,j,z,A,c1,c2,c3,c4,B,d⟩:=(h.below f NLN).cells i t;rw[u] at A c1 c2 B d;rw[o] at A;have P:(i:Int) < (n:Int):=by have:=h.len;omega
 have Q:=h.small;have F:decide (Bi 10 < E)=false:=decide_eq_false (by omega);have l:=Ab (AS (op:=10) (by decide) rfl);generalize Bi 10=lv at F l s;have m:=(Below.refl g.heap.size g).alloc NLN (.cells #[.int .i64 10,.int .i64 x.num,.string x.text,.slice an nn v,.slice y j z] 80);have R:=Aj.new g #[.int .i64 10,.int .i64 x.num,.string x.text,.slice an nn v,.slice y j z] 80;have H:=Ab (f.trans (m.mono f.size));clear h hx t u o s f;rw[hk] at d;obtain ⟨S,ok,rfl,T,I⟩:=d.cells 0 (by simp);obtain rfl:j=1:=d.len.symm;simp only[List.getElem_cons_zero,Nat.add_zero] at I;have J:=Ab q;have U:(⟨#[115,105,122,101,40]⟩:ByteArray).size=5:=rfl;have V:(⟨#[41]⟩:ByteArray).size=1:=rfl;clear B d hk q;go_enter Tryz.func15,Tryz.ntmps15
 go_wp2_with fail
 refine (Aa l _).mono ?_;rintro r W ⟨rfl,C⟩;rw[C];clear C l;dsimp only;go_wp2_with fail
 refine (Aa J _ _ (Aa H)).mono ?_;rintro r X ⟨rfl,K⟩;dsimp only;go_wp2_with fail
 go_ret
 exact ⟨rfl,m.trans (K.mono m.size)⟩
theorem Aae (w:World)(a:Option Addr)(n c:Nat)(N:List Nd)(h:Fe w a n c N)(i:Nat)(x:Nd)(hx:N[i]? =some x)(W:x.op=27)(k l q:Nat)(hk:x.kids= [(k:Int),(l:Int),(q:Int)])(u v y:Int→ByteArray)(h1:FM w a n c k u)(h2:FM w a n c l v)(h3:FM w a n c q y)(X:(u 0).size≤16000010)(Y:(v 0).size≤16000010)(Z:(y 0).size≤16000010):RA w a n c i 27 (⟨#[105,102,32]⟩ ++u 0 ++⟨#[32,116,104,101,110,32]⟩ ++v 0 ++⟨#[32,101,108,115,101,32]⟩ ++y 0):=by
 intro ay f aa z;have ab:i < N.length:=(List.getElem?_eq_some_iff.1 hx).1;have ac:N[i]=x:=(List.getElem?_eq_some_iff.1 hx).2;obtain ⟨b,aD,rfl,s,an,nn,E,ad,F,o,H,c1,c2,c3,c4,ae,m⟩:=(h.below z NLN).cells i ab;rw[ac] at H c1 c2 ae m;rw[W] at H;have aE:(i:Int) < (n:Int):=by have:=h.len;omega
 have aF:=h.small;have az:decide (Bi 27 < ay)=false:=decide_eq_false (by omega);have I:=Ab (AS (op:=27) (by decide) rfl);generalize Bi 27=lv at az I aa;have j:=(Below.refl f.heap.size f).alloc NLN (.cells #[.int .i64 27,.int .i64 x.num,.string x.text,.slice an nn E,.slice ad F o] 80);have A:=Aj.new f #[.int .i64 27,.int .i64 x.num,.string x.text,.slice an nn E,.slice ad F o] 80;have J:=Ab (z.trans (j.mono z.size));clear h hx ab ac W aa z;rw[hk] at m;obtain ⟨d,ok,rfl,B,K⟩:=m.cells 0 (by simp);have af:f.cell? ⟨d,ok+1,none⟩=some (.int .i64 l):=by
  obtain ⟨b2,L,e2,_,d2⟩:=m.cells 1 (by simp);obtain ⟨rfl,rfl⟩:d=b2∧ok=L:=by simpa using e2
  simpa using d2
 have ag:f.cell? ⟨d,ok+2,none⟩=some (.int .i64 q):=by
  obtain ⟨b2,L,e2,_,d2⟩:=m.cells 2 (by simp);obtain ⟨rfl,rfl⟩:d=b2∧ok=L:=by simpa using e2
  simpa using d2
 obtain rfl:F=3:=m.len.symm;simp only[List.getElem_cons_zero,Nat.add_zero] at K;have ah:=Ab (h1 0);have ai:=Ab (h2 0);have aj:=Ab (h3 0);generalize u 0=t at ah X ⊢;generalize v 0=M at ai Y ⊢;generalize y 0=aA at aj Z ⊢;clear ae m hk h1 h2 h3;go_enter Tryz.func15,Tryz.ntmps15
 go_wp2_with fail
 refine (Aa I _).mono ?_;rintro r aG ⟨rfl,ak⟩;rw[ak];clear ak I;dsimp only;have aB:∃ g,g=f.alloc (.cells #[.int .i64 27,.int .i64 x.num,.string x.text,.slice an nn E,.slice (some ⟨d,ok,none⟩) 3 o] 80):=⟨_,rfl⟩
 go_wp2_with fail
 obtain ⟨g,al⟩:=aB;rw[← al] at j A J ⊢;have ao:=(j.cell (p:=⟨d,ok,none⟩) B).trans K;have ap:=(j.cell (p:=⟨d,ok+1,none⟩) B).trans af;have aq:=(j.cell (p:=⟨d,ok+2,none⟩) B).trans ag;have ar:g.cell? ⟨f.heap.size,4,none⟩=some (.slice (some ⟨d,ok,none⟩) 3 o):=A.cell 4;have aC:=A.lt;have O:d < g.heap.size:=Nat.lt_of_lt_of_le B j.size;clear al A K af ag H c1 c2 c3 c4;have C:Below g.heap.size g g.drew:=BRN.drew;have P:=Ab ((Aa J).trans (C.mono (Aa J).size));have Q:∀ w',Below g.heap.size g w'→w'.cell? ⟨f.heap.size,4,none⟩=some (.slice (some ⟨d,ok,none⟩) 3 o)∧w'.cell? ⟨d,ok,none⟩=some (.int .i64 k)∧w'.cell? ⟨d,ok+1,none⟩=some (.int .i64 l)∧w'.cell? ⟨d,ok+2,none⟩=some (.int .i64 q):=fun w' s=>⟨(s.cell (p:=⟨f.heap.size,4,none⟩) aC).trans ar,(s.cell (p:=⟨d,ok,none⟩) O).trans ao,(s.cell (p:=⟨d,ok+1,none⟩) O).trans ap,(s.cell (p:=⟨d,ok+2,none⟩) O).trans aq⟩
 have R:=Ab Q;have aH:=Q _ C;have e1:(⟨#[105,102,32]⟩:ByteArray).size=3:=rfl;have e2:(⟨#[32,116,104,101,110,32]⟩:ByteArray).size=6:=rfl;have e3:(⟨#[32,101,108,115,101,32]⟩:ByteArray).size=6:=rfl;have aI:=BS (a:=⟨#[105,102,32]⟩) (b:=t) (by rw[e1];omega);have aJ:=BS (a:=⟨#[105,102,32]⟩ ++t) (b:=⟨#[32,116,104,101,110,32]⟩) (by rw[ByteArray.size_append,e1,e2];omega);have aK:=BS (a:=⟨#[105,102,32]⟩ ++t ++⟨#[32,116,104,101,110,32]⟩) (b:=M) (by simp only[ByteArray.size_append,e1,e2];omega);have aL:=BS (a:=⟨#[105,102,32]⟩ ++t ++⟨#[32,116,104,101,110,32]⟩ ++M) (b:=⟨#[32,101,108,115,101,32]⟩) (by simp only[ByteArray.size_append,e1,e2,e3];omega);have aM:=BS (a:=⟨#[105,102,32]⟩ ++t ++⟨#[32,116,104,101,110,32]⟩ ++M ++⟨#[32,101,108,115,101,32]⟩) (b:=aA) (by simp only[ByteArray.size_append,e1,e2,e3];omega);clear Q ao ap aq ar X Y Z;go_region_held3 (fun w'=>w'.cell? ⟨f.heap.size,4,none⟩=some (.slice (some ⟨d,ok,none⟩) 3 o)∧w'.cell? ⟨d,ok,none⟩=some (.int .i64 k)∧w'.cell? ⟨d,ok+1,none⟩=some (.int .i64 l)∧w'.cell? ⟨d,ok+2,none⟩=some (.int .i64 q)) (first | assumption | go_keep)
  (first
   | (go_at_call 15;refine (Aa aj _ (Aa S)).mono ?_;rintro r aN ⟨rfl,au⟩;have av:=T.trans (au.mono T.size);have aO:=Ab ((Aa S).trans (au.mono (Aa S).size));have q4:=Aa R _ av)
   | (go_at_call 15;refine (Aa ai _ (Aa U)).mono ?_;rintro r aP ⟨rfl,aw⟩;have T:=V.trans (aw.mono V.size);have S:=Ab ((Aa U).trans (aw.mono (Aa U).size));have q3:=Aa R _ T)
   | (go_at_call 15;refine (Aa ah _ (Aa P)).mono ?_;rintro r aQ ⟨rfl,ax⟩;have V:=C.trans (ax.mono C.size);have U:=Ab ((Aa P).trans (ax.mono (Aa P).size));have q2:=Aa R _ V))
 go_wp2_with fail
 go_ret
 exact ⟨rfl,j.trans (av.mono j.size)⟩
end Go.Proofs.YtoplnhndilmlcaaGreatDoor
