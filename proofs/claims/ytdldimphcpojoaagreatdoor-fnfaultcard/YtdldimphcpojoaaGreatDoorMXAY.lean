/-
  QQ, QR. Own work.
-/
import Derived.Test.YtdldimphcpojoaaGreatDoorMXAX
import Derived.Deep.RegionHeld3
namespace Go.Proofs.YtdldimphcpojoaaGreatDoor
set_option maxRecDepth 100000
set_option maxHeartbeats 1600000
open Go.RowKit
set_option linter.unusedVariables false
def Pq (w:World) (a:Option Addr) (n c i:Nat) (op:Int) (pr:ByteArray):Prop:=
 ∀ (want:Int) (W:World),want≤Dw op→Below w.heap.size w W→Calls Tryz.prog 45 #[.slice a n c,.int .i64 i,.int .i64 want] W fun r w'=>r= .returned (.string pr)∧Below W.heap.size W w'
def Fv (w:World) (a:Option Addr) (n c i:Nat) (put:Int→ByteArray):Prop:=
 ∀ (want:Int) (W:World),Below w.heap.size w W→Calls Tryz.prog 45 #[.slice a n c,.int .i64 i,.int .i64 want] W fun r w'=>r= .returned (.string (put want))∧Below W.heap.size W w'
theorem Cb {a b:ByteArray}(h:a.size+b.size≤9223372036854775807):∀ w,(Op.stringOp .add a b).run Tryz.prog w= .ok (.string (a ++b)) w:=fun w=>run_string_add_sum w a b h
theorem A7 {op:Int}(a: 1≤op∧op≤27){lv:Int}(h:Dw op=lv):∀ w:World,Calls Tryz.prog 80 #[.int .i64 op] w fun e w'=>e= .returned (.int .i64 lv)∧w'=w:=fun w=>by
 rw[← h];exact Po op w a
theorem W6 (w:World)(a:Option Addr)(n c:Nat)(N:List Nd)(h:Hj w a n c N)(i:Nat)(x:Nd)(hx:N[i]? =some x)(j:x.op=1)(h0: 0≤x.num)(h1:x.num≤9223372036854775807):Pq w a n c i 1 (J3 x.num.toNat):=by
 intro A d hl l;have m:i < N.length:=(List.getElem?_eq_some_iff.1 hx).1;have o:N[i]=x:=(List.getElem?_eq_some_iff.1 hx).2;obtain ⟨b,H,rfl,I,an,nn,p,q,s,t,u,c1,c2,c3,c4,v,y⟩:=(h.below l NLN).cells i m;rw[o] at u c1 c2 v y;rw[j] at u;have J:(i:Int) < (n:Int):=by have:=h.len;omega
 have K:=h.small;have B:decide (Dw 1 < A)=false:=decide_eq_false (by omega);have f:=Ab (A7 (op:=1) (by decide) rfl);generalize Dw 1=lv at B f hl;have g:=(Below.refl d.heap.size d).alloc NLN (.cells #[.int .i64 1,.int .i64 x.num,.string x.text,.slice an nn p,.slice q s t] 114);have C:=An.new d #[.int .i64 1,.int .i64 x.num,.string x.text,.slice an nn p,.slice q s t] 114;clear h hx m o j hl l;obtain ⟨k,hk⟩:∃ k:Nat,x.num=k:=⟨x.num.toNat,by omega⟩
 rw[hk] at c1 g C ⊢;rw[Int.toNat_natCast];have E:=Ab (fun w=>Ud k w (by omega));clear h0 h1 hk v y;go_enter Tryz.func45,Tryz.ntmps45
 go_wp2_with fail
 refine (Aa f _).mono ?_;rintro r L ⟨rfl,z⟩;rw[z];clear z f;dsimp only;go_wp2_with fail
 refine (Aa E _).mono ?_;rintro r M ⟨rfl,F⟩;dsimp only;go_wp2_with fail
 go_ret
 exact ⟨rfl,g.trans (F.mono g.size)⟩
theorem VL (w:World)(a:Option Addr)(n c:Nat)(N:List Nd)(h:Hj w a n c N)(i:Nat)(x:Nd)(hx:N[i]? =some x)(g:x.op=2)(h0:x.text.size≤32):Pq w a n c i 2 (⟨#[34]⟩ ++x.text ++⟨#[34]⟩):=by
 intro y d hl j;have k:i < N.length:=(List.getElem?_eq_some_iff.1 hx).1;have l:N[i]=x:=(List.getElem?_eq_some_iff.1 hx).2;obtain ⟨b,B,rfl,C,an,nn,m,o,p,q,s,c1,c2,c3,c4,t,u⟩:=(h.below j NLN).cells i k;rw[l] at s c1 c2 t u;rw[g] at s;have E:(i:Int) < (n:Int):=by have:=h.len;omega
 have F:=h.small;have z:decide (Dw 2 < y)=false:=decide_eq_false (by omega);have f:=Ab (A7 (op:=2) (by decide) rfl);generalize Dw 2=lv at z f hl;have A:=(Below.refl d.heap.size d).alloc NLN (.cells #[.int .i64 2,.int .i64 x.num,.string x.text,.slice an nn m,.slice o p q] 114);have H:=An.new d #[.int .i64 2,.int .i64 x.num,.string x.text,.slice an nn m,.slice o p q] 114;clear h hx k l g hl j;clear t u;go_enter Tryz.func45,Tryz.ntmps45
 go_wp2_with fail
 refine (Aa f _).mono ?_;rintro r I ⟨rfl,v⟩;rw[v];clear v f;dsimp only;go_wp2_with fail
 go_ret
 exact ⟨rfl,A⟩
theorem Ue (w:World)(a:Option Addr)(n c:Nat)(N:List Nd)(h:Hj w a n c N)(i:Nat)(x:Nd)(hx:N[i]? =some x)(g:x.op=3)(h0:x.num=1):Pq w a n c i 3 (⟨#[116,114,117,101]⟩):=by
 intro z d hl j;have k:i < N.length:=(List.getElem?_eq_some_iff.1 hx).1;have l:N[i]=x:=(List.getElem?_eq_some_iff.1 hx).2;obtain ⟨b,C,rfl,E,an,nn,m,o,p,q,s,c1,c2,c3,c4,t,u⟩:=(h.below j NLN).cells i k;rw[l] at s c1 c2 t u;rw[g] at s;have F:(i:Int) < (n:Int):=by have:=h.len;omega
 have H:=h.small;have A:decide (Dw 3 < z)=false:=decide_eq_false (by omega);have f:=Ab (A7 (op:=3) (by decide) rfl);generalize Dw 3=lv at A f hl;have v:=(Below.refl d.heap.size d).alloc NLN (.cells #[.int .i64 3,.int .i64 x.num,.string x.text,.slice an nn m,.slice o p q] 114);have B:=An.new d #[.int .i64 3,.int .i64 x.num,.string x.text,.slice an nn m,.slice o p q] 114;clear h hx k l g hl j;rw[h0] at c1 v B;clear t u h0;go_enter Tryz.func45,Tryz.ntmps45
 go_wp2_with fail
 refine (Aa f _).mono ?_;rintro r I ⟨rfl,y⟩;rw[y];clear y f;dsimp only;go_wp2_with fail
 go_ret
 exact ⟨rfl,v⟩
theorem Uf (w:World)(a:Option Addr)(n c:Nat)(N:List Nd)(h:Hj w a n c N)(i:Nat)(x:Nd)(hx:N[i]? =some x)(g:x.op=3)(h0:x.num≠1):Pq w a n c i 3 (⟨#[102,97,108,115,101]⟩):=by
 intro y d hl j;have k:i < N.length:=(List.getElem?_eq_some_iff.1 hx).1;have l:N[i]=x:=(List.getElem?_eq_some_iff.1 hx).2;obtain ⟨b,B,rfl,C,an,nn,m,o,p,q,s,c1,c2,c3,c4,t,u⟩:=(h.below j NLN).cells i k;rw[l] at s c1 c2 t u;rw[g] at s;have E:(i:Int) < (n:Int):=by have:=h.len;omega
 have F:=h.small;have z:decide (Dw 3 < y)=false:=decide_eq_false (by omega);have f:=Ab (A7 (op:=3) (by decide) rfl);generalize Dw 3=lv at z f hl;have A:=(Below.refl d.heap.size d).alloc NLN (.cells #[.int .i64 3,.int .i64 x.num,.string x.text,.slice an nn m,.slice o p q] 114);have H:=An.new d #[.int .i64 3,.int .i64 x.num,.string x.text,.slice an nn m,.slice o p q] 114;clear h hx k l g hl j;have I:(x.num== 1)=false:=beq_eq_false_iff_ne.2 h0;clear t u h0;go_enter Tryz.func45,Tryz.ntmps45
 go_wp2_with fail
 refine (Aa f _).mono ?_;rintro r J ⟨rfl,v⟩;rw[v];clear v f;dsimp only;go_wp2_with fail
 go_ret
 exact ⟨rfl,A⟩
theorem VM (w:World)(a:Option Addr)(n c:Nat)(N:List Nd)(h:Hj w a n c N)(i:Nat)(x:Nd)(hx:N[i]? =some x)(g:x.op=5):Pq w a n c i 5 x.text:=by
 intro y d hl j;have k:i < N.length:=(List.getElem?_eq_some_iff.1 hx).1;have l:N[i]=x:=(List.getElem?_eq_some_iff.1 hx).2;obtain ⟨b,B,rfl,C,an,nn,m,o,p,q,s,c1,c2,c3,c4,t,u⟩:=(h.below j NLN).cells i k;rw[l] at s c1 c2 t u;rw[g] at s;have E:(i:Int) < (n:Int):=by have:=h.len;omega
 have F:=h.small;have z:decide (Dw 5 < y)=false:=decide_eq_false (by omega);have f:=Ab (A7 (op:=5) (by decide) rfl);generalize Dw 5=lv at z f hl;have A:=(Below.refl d.heap.size d).alloc NLN (.cells #[.int .i64 5,.int .i64 x.num,.string x.text,.slice an nn m,.slice o p q] 114);have H:=An.new d #[.int .i64 5,.int .i64 x.num,.string x.text,.slice an nn m,.slice o p q] 114;clear h hx k l g hl j;clear t u;go_enter Tryz.func45,Tryz.ntmps45
 go_wp2_with fail
 refine (Aa f _).mono ?_;rintro r I ⟨rfl,v⟩;rw[v];clear v f;dsimp only;go_wp2_with fail
 go_ret
 exact ⟨rfl,A⟩
theorem W8 (w:World)(a:Option Addr)(n c:Nat)(N:List Nd)(h:Hj w a n c N)(i:Nat)(x:Nd)(hx:N[i]? =some x)(q:x.op=4)(h0:x.names.length≤64)(h1:∀ y∈x.names,y.size≤32):Pq w a n c i 4 (Ub x.names):=by
 intro I k hl s;have t:i < N.length:=(List.getElem?_eq_some_iff.1 hx).1;have u:N[i]=x:=(List.getElem?_eq_some_iff.1 hx).2;obtain ⟨b,O,rfl,P,an,nn,l,v,z,A,B,c1,c2,c3,c4,f,m⟩:=(h.below s NLN).cells i t;rw[u] at B c1 c2 f m;rw[q] at B;have Q:(i:Int) < (n:Int):=by have:=h.len;omega
 have R:=h.small;have J:decide (Dw 4 < I)=false:=decide_eq_false (by omega);have g:=Ab (A7 (op:=4) (by decide) rfl);generalize Dw 4=lv at J g hl;have o:=(Below.refl k.heap.size k).alloc NLN (.cells #[.int .i64 4,.int .i64 x.num,.string x.text,.slice an nn l,.slice v z A] 114);have S:=An.new k #[.int .i64 4,.int .i64 x.num,.string x.text,.slice an nn l,.slice v z A] 114;clear h hx t u q hl s;have p:=f.len;by_cases d:x.names= []
 ·have K:Ub x.names=⟨#[123,125]⟩:=by rw[d];decide
  obtain rfl:nn=0:=by rw[p,d];rfl
  rw[K];clear f m h0 h1 p d;go_enter Tryz.func45,Tryz.ntmps45
  go_wp2_with fail
  refine (Aa g _).mono ?_;rintro r L ⟨rfl,j⟩;rw[j];clear j g;dsimp only;go_wp2_with fail
  go_ret
  exact ⟨rfl,o⟩
 ·have C:=Ab (Rg d);have nz:((nn:Int)== 0)=false:=beq_eq_false_iff_ne.2 (by have:x.names.length≠0:=fun e=>d (List.eq_nil_of_length_eq_zero e);omega);have E:=Ab (Rh an nn l x.names _ (f.below o NLN) (by omega) h1);have F:=Nt true x.names h1;rw[← Aa C];generalize jn true x.names=M at E F ⊢;have T:M.size≤2304:=by omega
  clear f m h0 h1 p d C F;go_enter Tryz.func45,Tryz.ntmps45
  go_wp2_with fail
  refine (Aa g _).mono ?_;rintro r L ⟨rfl,j⟩;rw[j];clear j g;dsimp only;go_wp2_with fail
  refine (Aa E).mono ?_;rintro r U ⟨rfl,H⟩;rw[H];clear H;have e1:(⟨#[123,34]⟩:ByteArray).size=2:=rfl;have e2:(⟨#[34,125]⟩:ByteArray).size=2:=rfl;dsimp only;go_wp2_with fail
  go_ret
  exact ⟨rfl,o⟩
theorem VN (w:World)(a:Option Addr)(n c:Nat)(N:List Nd)(h:Hj w a n c N)(i:Nat)(x:Nd)(hx:N[i]? =some x)(o: 1≤x.op∧x.op≤27)(f:ByteArray)(K:f.size≤100000000000)(k:Pq w a n c i x.op f):Fv w a n c i (fun d=>par (decide (Dw x.op < d)) f):=by
 intro d g j;by_cases hl:Dw x.op < d
 ·have p:=Ab (show par (decide (Dw x.op < d)) f=⟨#[40]⟩ ++f ++⟨#[41]⟩ by rw[decide_eq_true hl];rfl);dsimp only;rw[Aa p];have q:i < N.length:=(List.getElem?_eq_some_iff.1 hx).1;have s:N[i]=x:=(List.getElem?_eq_some_iff.1 hx).2;obtain ⟨b,L,rfl,M,an,nn,y,z,A,B,C,c1,c2,c3,c4,t,u⟩:=(h.below j NLN).cells i q;rw[s] at C c1 c2 t u;have O:(i:Int) < (n:Int):=by have:=h.len;omega
  have P:=h.small;have E:decide (Dw x.op < d)=true:=decide_eq_true hl;have l:=Ab (A7 o rfl);have F:=Ab (fun g H=>k 0 g (FG _) H);have m:=(Below.refl g.heap.size g).alloc NLN (.cells #[.int .i64 x.op,.int .i64 x.num,.string x.text,.slice an nn y,.slice z A B] 114);have I:=Ab (j.trans (m.mono j.size));have Q:(⟨#[40]⟩:ByteArray).size=1:=rfl;have R:(⟨#[41]⟩:ByteArray).size=1:=rfl;generalize Dw x.op=lv at E l;clear h hx q s hl j k t u o p;go_enter Tryz.func45,Tryz.ntmps45
  go_wp2_with fail
  refine (Aa l _).mono ?_;rintro r S ⟨rfl,v⟩;rw[v];clear v l;dsimp only;go_wp2_with fail
  refine (Aa F _ (Aa I)).mono ?_;rintro r T ⟨rfl,J⟩;dsimp only;go_wp2_with fail
  go_ret
  exact ⟨rfl,m.trans (J.mono m.size)⟩
 ·dsimp only;rw[decide_eq_false hl];exact k d g (by omega) j
theorem W9 (w:World)(a:Option Addr)(n c:Nat)(N:List Nd)(h:Hj w a n c N)(i:Nat)(x:Nd)(hx:N[i]? =some x)(o:x.op=8)(k:Nat)(hk:x.kids= [(k:Int)])(p:Int→ByteArray)(q:Fv w a n c k p)(K:(p 7).size≤50000000000):Pq w a n c i 8 (⟨#[45]⟩ ++p 7):=by
 intro C g hl f;have s:i < N.length:=(List.getElem?_eq_some_iff.1 hx).1;have t:N[i]=x:=(List.getElem?_eq_some_iff.1 hx).2;obtain ⟨b,L,rfl,M,an,nn,u,v,j,y,z,c1,c2,c3,c4,A,d⟩:=(h.below f NLN).cells i s;rw[t] at z c1 c2 A d;rw[o] at z;have O:(i:Int) < (n:Int):=by have:=h.len;omega
 have P:=h.small;have E:decide (Dw 8 < C)=false:=decide_eq_false (by omega);have l:=Ab (A7 (op:=8) (by decide) rfl);generalize Dw 8=lv at E l hl;have m:=(Below.refl g.heap.size g).alloc NLN (.cells #[.int .i64 8,.int .i64 x.num,.string x.text,.slice an nn u,.slice v j y] 114);have Q:=An.new g #[.int .i64 8,.int .i64 x.num,.string x.text,.slice an nn u,.slice v j y] 114;have F:=Ab (f.trans (m.mono f.size));clear h hx s t o hl f;rw[hk] at d;obtain ⟨R,ok,rfl,S,H⟩:=d.cells 0 (by simp);obtain rfl:j=1:=d.len.symm;simp only[List.getElem_cons_zero,Nat.add_zero] at H;have I:=Ab q;have T:(⟨#[45]⟩:ByteArray).size=1:=rfl;have U:(⟨#[41]⟩:ByteArray).size=1:=rfl;clear A d hk q;go_enter Tryz.func45,Tryz.ntmps45
 go_wp2_with fail
 refine (Aa l _).mono ?_;rintro r V ⟨rfl,B⟩;rw[B];clear B l;dsimp only;go_wp2_with fail
 refine (Aa I _ _ (Aa F)).mono ?_;rintro r W ⟨rfl,J⟩;dsimp only;go_wp2_with fail
 go_ret
 exact ⟨rfl,m.trans (J.mono m.size)⟩
theorem Xa (w:World)(a:Option Addr)(n c:Nat)(N:List Nd)(h:Hj w a n c N)(i:Nat)(x:Nd)(hx:N[i]? =some x)(o:x.op=9)(k:Nat)(hk:x.kids= [(k:Int)])(p:Int→ByteArray)(q:Fv w a n c k p)(K:(p 3).size≤50000000000):Pq w a n c i 9 (⟨#[110,111,116,32]⟩ ++p 3):=by
 intro C g hl f;have s:i < N.length:=(List.getElem?_eq_some_iff.1 hx).1;have t:N[i]=x:=(List.getElem?_eq_some_iff.1 hx).2;obtain ⟨b,L,rfl,M,an,nn,u,v,j,y,z,c1,c2,c3,c4,A,d⟩:=(h.below f NLN).cells i s;rw[t] at z c1 c2 A d;rw[o] at z;have O:(i:Int) < (n:Int):=by have:=h.len;omega
 have P:=h.small;have E:decide (Dw 9 < C)=false:=decide_eq_false (by omega);have l:=Ab (A7 (op:=9) (by decide) rfl);generalize Dw 9=lv at E l hl;have m:=(Below.refl g.heap.size g).alloc NLN (.cells #[.int .i64 9,.int .i64 x.num,.string x.text,.slice an nn u,.slice v j y] 114);have Q:=An.new g #[.int .i64 9,.int .i64 x.num,.string x.text,.slice an nn u,.slice v j y] 114;have F:=Ab (f.trans (m.mono f.size));clear h hx s t o hl f;rw[hk] at d;obtain ⟨R,ok,rfl,S,H⟩:=d.cells 0 (by simp);obtain rfl:j=1:=d.len.symm;simp only[List.getElem_cons_zero,Nat.add_zero] at H;have I:=Ab q;have T:(⟨#[110,111,116,32]⟩:ByteArray).size=4:=rfl;have U:(⟨#[41]⟩:ByteArray).size=1:=rfl;clear A d hk q;go_enter Tryz.func45,Tryz.ntmps45
 go_wp2_with fail
 refine (Aa l _).mono ?_;rintro r V ⟨rfl,B⟩;rw[B];clear B l;dsimp only;go_wp2_with fail
 refine (Aa I _ _ (Aa F)).mono ?_;rintro r W ⟨rfl,J⟩;dsimp only;go_wp2_with fail
 go_ret
 exact ⟨rfl,m.trans (J.mono m.size)⟩
theorem VO (w:World)(a:Option Addr)(n c:Nat)(N:List Nd)(h:Hj w a n c N)(i:Nat)(x:Nd)(hx:N[i]? =some x)(o:x.op=10)(k:Nat)(hk:x.kids= [(k:Int)])(p:Int→ByteArray)(q:Fv w a n c k p)(K:(p 0).size≤50000000000):Pq w a n c i 10 (⟨#[115,105,122,101,40]⟩ ++p 0 ++⟨#[41]⟩):=by
 intro C g hl f;have s:i < N.length:=(List.getElem?_eq_some_iff.1 hx).1;have t:N[i]=x:=(List.getElem?_eq_some_iff.1 hx).2;obtain ⟨b,L,rfl,M,an,nn,u,v,j,y,z,c1,c2,c3,c4,A,d⟩:=(h.below f NLN).cells i s;rw[t] at z c1 c2 A d;rw[o] at z;have O:(i:Int) < (n:Int):=by have:=h.len;omega
 have P:=h.small;have E:decide (Dw 10 < C)=false:=decide_eq_false (by omega);have l:=Ab (A7 (op:=10) (by decide) rfl);generalize Dw 10=lv at E l hl;have m:=(Below.refl g.heap.size g).alloc NLN (.cells #[.int .i64 10,.int .i64 x.num,.string x.text,.slice an nn u,.slice v j y] 114);have Q:=An.new g #[.int .i64 10,.int .i64 x.num,.string x.text,.slice an nn u,.slice v j y] 114;have F:=Ab (f.trans (m.mono f.size));clear h hx s t o hl f;rw[hk] at d;obtain ⟨R,ok,rfl,S,H⟩:=d.cells 0 (by simp);obtain rfl:j=1:=d.len.symm;simp only[List.getElem_cons_zero,Nat.add_zero] at H;have I:=Ab q;have T:(⟨#[115,105,122,101,40]⟩:ByteArray).size=5:=rfl;have U:(⟨#[41]⟩:ByteArray).size=1:=rfl;clear A d hk q;go_enter Tryz.func45,Tryz.ntmps45
 go_wp2_with fail
 refine (Aa l _).mono ?_;rintro r V ⟨rfl,B⟩;rw[B];clear B l;dsimp only;go_wp2_with fail
 refine (Aa I _ _ (Aa F)).mono ?_;rintro r W ⟨rfl,J⟩;dsimp only;go_wp2_with fail
 go_ret
 exact ⟨rfl,m.trans (J.mono m.size)⟩
theorem Xb (w:World)(a:Option Addr)(n c:Nat)(N:List Nd)(h:Hj w a n c N)(i:Nat)(x:Nd)(hx:N[i]? =some x)(W:x.op=27)(k l q:Nat)(hk:x.kids= [(k:Int),(l:Int),(q:Int)])(u v y:Int→ByteArray)(h1:Fv w a n c k u)(h2:Fv w a n c l v)(h3:Fv w a n c q y)(X:(u 0).size≤16000010)(Y:(v 0).size≤16000010)(Z:(y 0).size≤16000010):Pq w a n c i 27 (⟨#[105,102,32]⟩ ++u 0 ++⟨#[32,116,104,101,110,32]⟩ ++v 0 ++⟨#[32,101,108,115,101,32]⟩ ++y 0):=by
 intro ax f hl z;have aa:i < N.length:=(List.getElem?_eq_some_iff.1 hx).1;have ab:N[i]=x:=(List.getElem?_eq_some_iff.1 hx).2;obtain ⟨b,aC,rfl,s,an,nn,E,ac,F,o,H,c1,c2,c3,c4,ad,m⟩:=(h.below z NLN).cells i aa;rw[ab] at H c1 c2 ad m;rw[W] at H;have aD:(i:Int) < (n:Int):=by have:=h.len;omega
 have aE:=h.small;have ay:decide (Dw 27 < ax)=false:=decide_eq_false (by omega);have I:=Ab (A7 (op:=27) (by decide) rfl);generalize Dw 27=lv at ay I hl;have j:=(Below.refl f.heap.size f).alloc NLN (.cells #[.int .i64 27,.int .i64 x.num,.string x.text,.slice an nn E,.slice ac F o] 114);have A:=An.new f #[.int .i64 27,.int .i64 x.num,.string x.text,.slice an nn E,.slice ac F o] 114;have J:=Ab (z.trans (j.mono z.size));clear h hx aa ab W hl z;rw[hk] at m;obtain ⟨d,ok,rfl,B,K⟩:=m.cells 0 (by simp);have ae:f.cell? ⟨d,ok+1,none⟩=some (.int .i64 l):=by
  obtain ⟨b2,L,e2,_,d2⟩:=m.cells 1 (by simp);obtain ⟨rfl,rfl⟩:d=b2∧ok=L:=by simpa using e2
  simpa using d2
 have af:f.cell? ⟨d,ok+2,none⟩=some (.int .i64 q):=by
  obtain ⟨b2,L,e2,_,d2⟩:=m.cells 2 (by simp);obtain ⟨rfl,rfl⟩:d=b2∧ok=L:=by simpa using e2
  simpa using d2
 obtain rfl:F=3:=m.len.symm;simp only[List.getElem_cons_zero,Nat.add_zero] at K;have ag:=Ab (h1 0);have ah:=Ab (h2 0);have ai:=Ab (h3 0);generalize u 0=t at ag X ⊢;generalize v 0=M at ah Y ⊢;generalize y 0=az at ai Z ⊢;clear ad m hk h1 h2 h3;go_enter Tryz.func45,Tryz.ntmps45
 go_wp2_with fail
 refine (Aa I _).mono ?_;rintro r aF ⟨rfl,aj⟩;rw[aj];clear aj I;dsimp only;have aA:∃ g,g=f.alloc (.cells #[.int .i64 27,.int .i64 x.num,.string x.text,.slice an nn E,.slice (some ⟨d,ok,none⟩) 3 o] 114):=⟨_,rfl⟩
 go_wp2_with fail
 obtain ⟨g,ak⟩:=aA;rw[← ak] at j A J ⊢;have al:=(j.cell (p:=⟨d,ok,none⟩) B).trans K;have ao:=(j.cell (p:=⟨d,ok+1,none⟩) B).trans ae;have ap:=(j.cell (p:=⟨d,ok+2,none⟩) B).trans af;have aq:g.cell? ⟨f.heap.size,4,none⟩=some (.slice (some ⟨d,ok,none⟩) 3 o):=A.cell 4;have aB:=A.lt;have O:d < g.heap.size:=Nat.lt_of_lt_of_le B j.size;clear ak A K ae af H c1 c2 c3 c4;have C:Below g.heap.size g g.drew:=BRN.drew;have P:=Ab ((Aa J).trans (C.mono (Aa J).size));have Q:∀ w',Below g.heap.size g w'→w'.cell? ⟨f.heap.size,4,none⟩=some (.slice (some ⟨d,ok,none⟩) 3 o)∧w'.cell? ⟨d,ok,none⟩=some (.int .i64 k)∧w'.cell? ⟨d,ok+1,none⟩=some (.int .i64 l)∧w'.cell? ⟨d,ok+2,none⟩=some (.int .i64 q):=fun w' s=>⟨(s.cell (p:=⟨f.heap.size,4,none⟩) aB).trans aq,(s.cell (p:=⟨d,ok,none⟩) O).trans al,(s.cell (p:=⟨d,ok+1,none⟩) O).trans ao,(s.cell (p:=⟨d,ok+2,none⟩) O).trans ap⟩
 have R:=Ab Q;have aG:=Q _ C;have e1:(⟨#[105,102,32]⟩:ByteArray).size=3:=rfl;have e2:(⟨#[32,116,104,101,110,32]⟩:ByteArray).size=6:=rfl;have e3:(⟨#[32,101,108,115,101,32]⟩:ByteArray).size=6:=rfl;have aH:=Cb (a:=⟨#[105,102,32]⟩) (b:=t) (by rw[e1];omega);have aI:=Cb (a:=⟨#[105,102,32]⟩ ++t) (b:=⟨#[32,116,104,101,110,32]⟩) (by rw[ByteArray.size_append,e1,e2];omega);have aJ:=Cb (a:=⟨#[105,102,32]⟩ ++t ++⟨#[32,116,104,101,110,32]⟩) (b:=M) (by simp only[ByteArray.size_append,e1,e2];omega);have aK:=Cb (a:=⟨#[105,102,32]⟩ ++t ++⟨#[32,116,104,101,110,32]⟩ ++M) (b:=⟨#[32,101,108,115,101,32]⟩) (by simp only[ByteArray.size_append,e1,e2,e3];omega);have aL:=Cb (a:=⟨#[105,102,32]⟩ ++t ++⟨#[32,116,104,101,110,32]⟩ ++M ++⟨#[32,101,108,115,101,32]⟩) (b:=az) (by simp only[ByteArray.size_append,e1,e2,e3];omega);clear Q al ao ap aq X Y Z;go_region_held3 (fun w'=>w'.cell? ⟨f.heap.size,4,none⟩=some (.slice (some ⟨d,ok,none⟩) 3 o)∧w'.cell? ⟨d,ok,none⟩=some (.int .i64 k)∧w'.cell? ⟨d,ok+1,none⟩=some (.int .i64 l)∧w'.cell? ⟨d,ok+2,none⟩=some (.int .i64 q)) (first | assumption | go_keep)
  (first
   | (go_at_call 45;refine (Aa ai _ (Aa S)).mono ?_;rintro r aM ⟨rfl,ar⟩;have au:=T.trans (ar.mono T.size);have aN:=Ab ((Aa S).trans (ar.mono (Aa S).size));have q4:=Aa R _ au)
   | (go_at_call 45;refine (Aa ah _ (Aa U)).mono ?_;rintro r aO ⟨rfl,av⟩;have T:=V.trans (av.mono V.size);have S:=Ab ((Aa U).trans (av.mono (Aa U).size));have q3:=Aa R _ T)
   | (go_at_call 45;refine (Aa ag _ (Aa P)).mono ?_;rintro r aP ⟨rfl,aw⟩;have V:=C.trans (aw.mono C.size);have U:=Ab ((Aa P).trans (aw.mono (Aa P).size));have q2:=Aa R _ V))
 go_wp2_with fail
 go_ret
 exact ⟨rfl,j.trans (au.mono j.size)⟩
theorem Xc (w:World)(a:Option Addr)(n c:Nat)(N:List Nd)(h:Hj w a n c N)(i:Nat)(x:Nd)(hx:N[i]? =some x)(T: 11≤x.op∧x.op≤26)(lv:Int)(v:Dw x.op=lv)(h4:lv=1)(k l:Nat)(hk:x.kids= [(k:Int),(l:Int)])(m o:Int→ByteArray)(h1:Fv w a n c k m)(h2:Fv w a n c l o)(U:(m (1)).size≤16000010)(V:(o (2)).size≤16000010):Pq w a n c i x.op (m (1) ++(⟨#[32]⟩ ++Cp x.op ++⟨#[32]⟩) ++o (2)):=by
 intro aw f hl y;have W:i < N.length:=(List.getElem?_eq_some_iff.1 hx).1;have X:N[i]=x:=(List.getElem?_eq_some_iff.1 hx).2;obtain ⟨b,aD,rfl,u,an,nn,C,Y,E,q,F,c1,c2,c3,c4,Z,s⟩:=(h.below y NLN).cells i W;rw[X] at F c1 c2 Z s;have aE:(i:Int) < (n:Int):=by have:=h.len;omega
 have aF:=h.small;have aG: 0≤lv:=by rw[← v];exact FG _
 have aH:lv≤8:=by rw[← v];exact Iz _
 have aI:decide (lv < aw)=false:=decide_eq_false (by omega);have H:=Ab (A7 (op:=x.op) (by omega) v);have I:=Ab (EL x.op T);have aa:=Ab (show m (1) ++(⟨#[32]⟩ ++Cp x.op ++⟨#[32]⟩) ++o (2)=m (1) ++⟨#[32]⟩ ++Cp x.op ++⟨#[32]⟩ ++o (2) by simp only[ByteArray.append_assoc]);rw[Aa aa];have ab:=DK x.op;generalize Cp x.op=J at I ab ⊢;clear aa;have j:=(Below.refl f.heap.size f).alloc NLN (.cells #[.int .i64 x.op,.int .i64 x.num,.string x.text,.slice an nn C,.slice Y E q] 114);have t:=An.new f #[.int .i64 x.op,.int .i64 x.num,.string x.text,.slice an nn C,.slice Y E q] 114;have z:=Ab (y.trans (j.mono y.size));subst h4;have g1:(x.op== 1)=false:=beq_eq_false_iff_ne.2 (by omega);have g2:(x.op== 2)=false:=beq_eq_false_iff_ne.2 (by omega);have g3:(x.op== 3)=false:=beq_eq_false_iff_ne.2 (by omega);have g4:(x.op== 4)=false:=beq_eq_false_iff_ne.2 (by omega);have g5:(x.op== 5)=false:=beq_eq_false_iff_ne.2 (by omega);have g8:(x.op== 8)=false:=beq_eq_false_iff_ne.2 (by omega);have ax:(x.op== 9)=false:=beq_eq_false_iff_ne.2 (by omega);have ay:(x.op== 10)=false:=beq_eq_false_iff_ne.2 (by omega);have az:(x.op== 27)=false:=beq_eq_false_iff_ne.2 (by omega);generalize x.op=op at F H I j t z g1 g2 g3 g4 g5 g8 ax ay az;rw[hk] at s;obtain ⟨d,ok,rfl,K,L⟩:=s.cells 0 (by simp);have ac:f.cell? ⟨d,ok+1,none⟩=some (.int .i64 l):=by
  obtain ⟨b2,aA,e2,_,d2⟩:=s.cells 1 (by simp);obtain ⟨rfl,rfl⟩:d=b2∧ok=aA:=by simpa using e2
  simpa using d2
 obtain rfl:E=2:=s.len.symm;simp only[List.getElem_cons_zero,Nat.add_zero] at L;have ad:=Ab (h1 (1));have ae:=Ab (h2 (2));generalize m (1)=A at ad U ⊢;generalize o (2)=aB at ae V ⊢;clear Z s hk h1 h2 h hx W X T hl y v;go_enter Tryz.func45,Tryz.ntmps45
 go_wp2_with fail
 refine (Aa H _).mono ?_;rintro r aJ ⟨rfl,af⟩;rw[af];clear af H;dsimp only;have aC:∃ g,g=f.alloc (.cells #[.int .i64 op,.int .i64 x.num,.string x.text,.slice an nn C,.slice (some ⟨d,ok,none⟩) 2 q] 114):=⟨_,rfl⟩
 go_wp2_with fail
 obtain ⟨g,ag⟩:=aC;rw[← ag] at j t z ⊢;have ah:=(j.cell (p:=⟨d,ok,none⟩) K).trans L;have ai:=(j.cell (p:=⟨d,ok+1,none⟩) K).trans ac;have aj:g.cell? ⟨f.heap.size,4,none⟩=some (.slice (some ⟨d,ok,none⟩) 2 q):=t.cell 4;have ak:g.cell? ⟨f.heap.size,0,none⟩=some (.int .i64 op):=t.cell 0;have al:=t.lt;have ao:d < g.heap.size:=Nat.lt_of_lt_of_le K j.size;clear ag t L ac F c1 c2 c3 c4;have B:Below g.heap.size g g.drew:=BRN.drew;have M:=Ab ((Aa z).trans (B.mono (Aa z).size));have O:∀ w',Below g.heap.size g w'→w'.cell? ⟨f.heap.size,4,none⟩=some (.slice (some ⟨d,ok,none⟩) 2 q)∧w'.cell? ⟨f.heap.size,0,none⟩=some (.int .i64 op)∧w'.cell? ⟨d,ok,none⟩=some (.int .i64 k)∧w'.cell? ⟨d,ok+1,none⟩=some (.int .i64 l):=fun w' u=>⟨(u.cell (p:=⟨f.heap.size,4,none⟩) al).trans aj,(u.cell (p:=⟨f.heap.size,0,none⟩) al).trans ak,(u.cell (p:=⟨d,ok,none⟩) ao).trans ah,(u.cell (p:=⟨d,ok+1,none⟩) ao).trans ai⟩
 have P:=Ab O;have aK:=O _ B;have e1:(⟨#[32]⟩:ByteArray).size=1:=rfl;have aL:=Cb (a:=A) (b:=⟨#[32]⟩) (by rw[e1];omega);have aM:=Cb (a:=A ++⟨#[32]⟩) (b:=J) (by rw[ByteArray.size_append,e1];omega);have aN:=Cb (a:=A ++⟨#[32]⟩ ++J) (b:=⟨#[32]⟩) (by simp only[ByteArray.size_append,e1];omega);have aO:=Cb (a:=A ++⟨#[32]⟩ ++J ++⟨#[32]⟩) (b:=aB) (by simp only[ByteArray.size_append,e1];omega);clear O ah ai aj ak U V ab;go_region_held3 (fun w'=>w'.cell? ⟨f.heap.size,4,none⟩=some (.slice (some ⟨d,ok,none⟩) 2 q)∧w'.cell? ⟨f.heap.size,0,none⟩=some (.int .i64 op)∧w'.cell? ⟨d,ok,none⟩=some (.int .i64 k)∧w'.cell? ⟨d,ok+1,none⟩=some (.int .i64 l)) (first | assumption | go_keep)
  (first
   | (go_at_call 45;refine (Aa ae _ (Aa Q)).mono ?_;rintro r aP ⟨rfl,ap⟩;have aq:=R.trans (ap.mono R.size);have aQ:=Ab ((Aa Q).trans (ap.mono (Aa Q).size));have q4:=Aa P _ aq)
   | (go_at_call 81;refine (Aa I _).mono ?_;rintro r aR ⟨rfl,ar⟩;have R:=S.trans (ar.mono S.size);have Q:=Ab ((Aa au).trans (ar.mono (Aa au).size));have q3:=Aa P _ R)
   | (go_at_call 45;refine (Aa ad _ (Aa M)).mono ?_;rintro r aS ⟨rfl,av⟩;have S:=B.trans (av.mono B.size);have au:=Ab ((Aa M).trans (av.mono (Aa M).size));have q2:=Aa P _ S))
 go_wp2_with fail
 go_ret
 exact ⟨rfl,j.trans (aq.mono j.size)⟩
theorem Xd (w:World)(a:Option Addr)(n c:Nat)(N:List Nd)(h:Hj w a n c N)(i:Nat)(x:Nd)(hx:N[i]? =some x)(T: 11≤x.op∧x.op≤26)(lv:Int)(v:Dw x.op=lv)(h4:lv=2)(k l:Nat)(hk:x.kids= [(k:Int),(l:Int)])(m o:Int→ByteArray)(h1:Fv w a n c k m)(h2:Fv w a n c l o)(U:(m (2)).size≤16000010)(V:(o (3)).size≤16000010):Pq w a n c i x.op (m (2) ++(⟨#[32]⟩ ++Cp x.op ++⟨#[32]⟩) ++o (3)):=by
 intro aw f hl y;have W:i < N.length:=(List.getElem?_eq_some_iff.1 hx).1;have X:N[i]=x:=(List.getElem?_eq_some_iff.1 hx).2;obtain ⟨b,aD,rfl,u,an,nn,C,Y,E,q,F,c1,c2,c3,c4,Z,s⟩:=(h.below y NLN).cells i W;rw[X] at F c1 c2 Z s;have aE:(i:Int) < (n:Int):=by have:=h.len;omega
 have aF:=h.small;have aG: 0≤lv:=by rw[← v];exact FG _
 have aH:lv≤8:=by rw[← v];exact Iz _
 have aI:decide (lv < aw)=false:=decide_eq_false (by omega);have H:=Ab (A7 (op:=x.op) (by omega) v);have I:=Ab (EL x.op T);have aa:=Ab (show m (2) ++(⟨#[32]⟩ ++Cp x.op ++⟨#[32]⟩) ++o (3)=m (2) ++⟨#[32]⟩ ++Cp x.op ++⟨#[32]⟩ ++o (3) by simp only[ByteArray.append_assoc]);rw[Aa aa];have ab:=DK x.op;generalize Cp x.op=J at I ab ⊢;clear aa;have j:=(Below.refl f.heap.size f).alloc NLN (.cells #[.int .i64 x.op,.int .i64 x.num,.string x.text,.slice an nn C,.slice Y E q] 114);have t:=An.new f #[.int .i64 x.op,.int .i64 x.num,.string x.text,.slice an nn C,.slice Y E q] 114;have z:=Ab (y.trans (j.mono y.size));subst h4;have g1:(x.op== 1)=false:=beq_eq_false_iff_ne.2 (by omega);have g2:(x.op== 2)=false:=beq_eq_false_iff_ne.2 (by omega);have g3:(x.op== 3)=false:=beq_eq_false_iff_ne.2 (by omega);have g4:(x.op== 4)=false:=beq_eq_false_iff_ne.2 (by omega);have g5:(x.op== 5)=false:=beq_eq_false_iff_ne.2 (by omega);have g8:(x.op== 8)=false:=beq_eq_false_iff_ne.2 (by omega);have ax:(x.op== 9)=false:=beq_eq_false_iff_ne.2 (by omega);have ay:(x.op== 10)=false:=beq_eq_false_iff_ne.2 (by omega);have az:(x.op== 27)=false:=beq_eq_false_iff_ne.2 (by omega);generalize x.op=op at F H I j t z g1 g2 g3 g4 g5 g8 ax ay az;rw[hk] at s;obtain ⟨d,ok,rfl,K,L⟩:=s.cells 0 (by simp);have ac:f.cell? ⟨d,ok+1,none⟩=some (.int .i64 l):=by
  obtain ⟨b2,aA,e2,_,d2⟩:=s.cells 1 (by simp);obtain ⟨rfl,rfl⟩:d=b2∧ok=aA:=by simpa using e2
  simpa using d2
 obtain rfl:E=2:=s.len.symm;simp only[List.getElem_cons_zero,Nat.add_zero] at L;have ad:=Ab (h1 (2));have ae:=Ab (h2 (3));generalize m (2)=A at ad U ⊢;generalize o (3)=aB at ae V ⊢;clear Z s hk h1 h2 h hx W X T hl y v;go_enter Tryz.func45,Tryz.ntmps45
 go_wp2_with fail
 refine (Aa H _).mono ?_;rintro r aJ ⟨rfl,af⟩;rw[af];clear af H;dsimp only;have aC:∃ g,g=f.alloc (.cells #[.int .i64 op,.int .i64 x.num,.string x.text,.slice an nn C,.slice (some ⟨d,ok,none⟩) 2 q] 114):=⟨_,rfl⟩
 go_wp2_with fail
 obtain ⟨g,ag⟩:=aC;rw[← ag] at j t z ⊢;have ah:=(j.cell (p:=⟨d,ok,none⟩) K).trans L;have ai:=(j.cell (p:=⟨d,ok+1,none⟩) K).trans ac;have aj:g.cell? ⟨f.heap.size,4,none⟩=some (.slice (some ⟨d,ok,none⟩) 2 q):=t.cell 4;have ak:g.cell? ⟨f.heap.size,0,none⟩=some (.int .i64 op):=t.cell 0;have al:=t.lt;have ao:d < g.heap.size:=Nat.lt_of_lt_of_le K j.size;clear ag t L ac F c1 c2 c3 c4;have B:Below g.heap.size g g.drew:=BRN.drew;have M:=Ab ((Aa z).trans (B.mono (Aa z).size));have O:∀ w',Below g.heap.size g w'→w'.cell? ⟨f.heap.size,4,none⟩=some (.slice (some ⟨d,ok,none⟩) 2 q)∧w'.cell? ⟨f.heap.size,0,none⟩=some (.int .i64 op)∧w'.cell? ⟨d,ok,none⟩=some (.int .i64 k)∧w'.cell? ⟨d,ok+1,none⟩=some (.int .i64 l):=fun w' u=>⟨(u.cell (p:=⟨f.heap.size,4,none⟩) al).trans aj,(u.cell (p:=⟨f.heap.size,0,none⟩) al).trans ak,(u.cell (p:=⟨d,ok,none⟩) ao).trans ah,(u.cell (p:=⟨d,ok+1,none⟩) ao).trans ai⟩
 have P:=Ab O;have aK:=O _ B;have e1:(⟨#[32]⟩:ByteArray).size=1:=rfl;have aL:=Cb (a:=A) (b:=⟨#[32]⟩) (by rw[e1];omega);have aM:=Cb (a:=A ++⟨#[32]⟩) (b:=J) (by rw[ByteArray.size_append,e1];omega);have aN:=Cb (a:=A ++⟨#[32]⟩ ++J) (b:=⟨#[32]⟩) (by simp only[ByteArray.size_append,e1];omega);have aO:=Cb (a:=A ++⟨#[32]⟩ ++J ++⟨#[32]⟩) (b:=aB) (by simp only[ByteArray.size_append,e1];omega);clear O ah ai aj ak U V ab;go_region_held3 (fun w'=>w'.cell? ⟨f.heap.size,4,none⟩=some (.slice (some ⟨d,ok,none⟩) 2 q)∧w'.cell? ⟨f.heap.size,0,none⟩=some (.int .i64 op)∧w'.cell? ⟨d,ok,none⟩=some (.int .i64 k)∧w'.cell? ⟨d,ok+1,none⟩=some (.int .i64 l)) (first | assumption | go_keep)
  (first
   | (go_at_call 45;refine (Aa ae _ (Aa Q)).mono ?_;rintro r aP ⟨rfl,ap⟩;have aq:=R.trans (ap.mono R.size);have aQ:=Ab ((Aa Q).trans (ap.mono (Aa Q).size));have q4:=Aa P _ aq)
   | (go_at_call 81;refine (Aa I _).mono ?_;rintro r aR ⟨rfl,ar⟩;have R:=S.trans (ar.mono S.size);have Q:=Ab ((Aa au).trans (ar.mono (Aa au).size));have q3:=Aa P _ R)
   | (go_at_call 45;refine (Aa ad _ (Aa M)).mono ?_;rintro r aS ⟨rfl,av⟩;have S:=B.trans (av.mono B.size);have au:=Ab ((Aa M).trans (av.mono (Aa M).size));have q2:=Aa P _ S))
 go_wp2_with fail
 go_ret
 exact ⟨rfl,j.trans (aq.mono j.size)⟩
theorem Xe (w:World)(a:Option Addr)(n c:Nat)(N:List Nd)(h:Hj w a n c N)(i:Nat)(x:Nd)(hx:N[i]? =some x)(T: 11≤x.op∧x.op≤26)(lv:Int)(v:Dw x.op=lv)(h4:lv=4)(k l:Nat)(hk:x.kids= [(k:Int),(l:Int)])(m o:Int→ByteArray)(h1:Fv w a n c k m)(h2:Fv w a n c l o)(U:(m (5)).size≤16000010)(V:(o (5)).size≤16000010):Pq w a n c i x.op (m (5) ++(⟨#[32]⟩ ++Cp x.op ++⟨#[32]⟩) ++o (5)):=by
 intro aw f hl y;have W:i < N.length:=(List.getElem?_eq_some_iff.1 hx).1;have X:N[i]=x:=(List.getElem?_eq_some_iff.1 hx).2;obtain ⟨b,aD,rfl,u,an,nn,C,Y,E,q,F,c1,c2,c3,c4,Z,s⟩:=(h.below y NLN).cells i W;rw[X] at F c1 c2 Z s;have aE:(i:Int) < (n:Int):=by have:=h.len;omega
 have aF:=h.small;have aG: 0≤lv:=by rw[← v];exact FG _
 have aH:lv≤8:=by rw[← v];exact Iz _
 have aI:decide (lv < aw)=false:=decide_eq_false (by omega);have H:=Ab (A7 (op:=x.op) (by omega) v);have I:=Ab (EL x.op T);have aa:=Ab (show m (5) ++(⟨#[32]⟩ ++Cp x.op ++⟨#[32]⟩) ++o (5)=m (5) ++⟨#[32]⟩ ++Cp x.op ++⟨#[32]⟩ ++o (5) by simp only[ByteArray.append_assoc]);rw[Aa aa];have ab:=DK x.op;generalize Cp x.op=J at I ab ⊢;clear aa;have j:=(Below.refl f.heap.size f).alloc NLN (.cells #[.int .i64 x.op,.int .i64 x.num,.string x.text,.slice an nn C,.slice Y E q] 114);have t:=An.new f #[.int .i64 x.op,.int .i64 x.num,.string x.text,.slice an nn C,.slice Y E q] 114;have z:=Ab (y.trans (j.mono y.size));subst h4;have g1:(x.op== 1)=false:=beq_eq_false_iff_ne.2 (by omega);have g2:(x.op== 2)=false:=beq_eq_false_iff_ne.2 (by omega);have g3:(x.op== 3)=false:=beq_eq_false_iff_ne.2 (by omega);have g4:(x.op== 4)=false:=beq_eq_false_iff_ne.2 (by omega);have g5:(x.op== 5)=false:=beq_eq_false_iff_ne.2 (by omega);have g8:(x.op== 8)=false:=beq_eq_false_iff_ne.2 (by omega);have ax:(x.op== 9)=false:=beq_eq_false_iff_ne.2 (by omega);have ay:(x.op== 10)=false:=beq_eq_false_iff_ne.2 (by omega);have az:(x.op== 27)=false:=beq_eq_false_iff_ne.2 (by omega);generalize x.op=op at F H I j t z g1 g2 g3 g4 g5 g8 ax ay az;rw[hk] at s;obtain ⟨d,ok,rfl,K,L⟩:=s.cells 0 (by simp);have ac:f.cell? ⟨d,ok+1,none⟩=some (.int .i64 l):=by
  obtain ⟨b2,aA,e2,_,d2⟩:=s.cells 1 (by simp);obtain ⟨rfl,rfl⟩:d=b2∧ok=aA:=by simpa using e2
  simpa using d2
 obtain rfl:E=2:=s.len.symm;simp only[List.getElem_cons_zero,Nat.add_zero] at L;have ad:=Ab (h1 (5));have ae:=Ab (h2 (5));generalize m (5)=A at ad U ⊢;generalize o (5)=aB at ae V ⊢;clear Z s hk h1 h2 h hx W X T hl y v;go_enter Tryz.func45,Tryz.ntmps45
 go_wp2_with fail
 refine (Aa H _).mono ?_;rintro r aJ ⟨rfl,af⟩;rw[af];clear af H;dsimp only;have aC:∃ g,g=f.alloc (.cells #[.int .i64 op,.int .i64 x.num,.string x.text,.slice an nn C,.slice (some ⟨d,ok,none⟩) 2 q] 114):=⟨_,rfl⟩
 go_wp2_with fail
 obtain ⟨g,ag⟩:=aC;rw[← ag] at j t z ⊢;have ah:=(j.cell (p:=⟨d,ok,none⟩) K).trans L;have ai:=(j.cell (p:=⟨d,ok+1,none⟩) K).trans ac;have aj:g.cell? ⟨f.heap.size,4,none⟩=some (.slice (some ⟨d,ok,none⟩) 2 q):=t.cell 4;have ak:g.cell? ⟨f.heap.size,0,none⟩=some (.int .i64 op):=t.cell 0;have al:=t.lt;have ao:d < g.heap.size:=Nat.lt_of_lt_of_le K j.size;clear ag t L ac F c1 c2 c3 c4;have B:Below g.heap.size g g.drew:=BRN.drew;have M:=Ab ((Aa z).trans (B.mono (Aa z).size));have O:∀ w',Below g.heap.size g w'→w'.cell? ⟨f.heap.size,4,none⟩=some (.slice (some ⟨d,ok,none⟩) 2 q)∧w'.cell? ⟨f.heap.size,0,none⟩=some (.int .i64 op)∧w'.cell? ⟨d,ok,none⟩=some (.int .i64 k)∧w'.cell? ⟨d,ok+1,none⟩=some (.int .i64 l):=fun w' u=>⟨(u.cell (p:=⟨f.heap.size,4,none⟩) al).trans aj,(u.cell (p:=⟨f.heap.size,0,none⟩) al).trans ak,(u.cell (p:=⟨d,ok,none⟩) ao).trans ah,(u.cell (p:=⟨d,ok+1,none⟩) ao).trans ai⟩
 have P:=Ab O;have aK:=O _ B;have e1:(⟨#[32]⟩:ByteArray).size=1:=rfl;have aL:=Cb (a:=A) (b:=⟨#[32]⟩) (by rw[e1];omega);have aM:=Cb (a:=A ++⟨#[32]⟩) (b:=J) (by rw[ByteArray.size_append,e1];omega);have aN:=Cb (a:=A ++⟨#[32]⟩ ++J) (b:=⟨#[32]⟩) (by simp only[ByteArray.size_append,e1];omega);have aO:=Cb (a:=A ++⟨#[32]⟩ ++J ++⟨#[32]⟩) (b:=aB) (by simp only[ByteArray.size_append,e1];omega);clear O ah ai aj ak U V ab;go_region_held3 (fun w'=>w'.cell? ⟨f.heap.size,4,none⟩=some (.slice (some ⟨d,ok,none⟩) 2 q)∧w'.cell? ⟨f.heap.size,0,none⟩=some (.int .i64 op)∧w'.cell? ⟨d,ok,none⟩=some (.int .i64 k)∧w'.cell? ⟨d,ok+1,none⟩=some (.int .i64 l)) (first | assumption | go_keep)
  (first
   | (go_at_call 45;refine (Aa ae _ (Aa Q)).mono ?_;rintro r aP ⟨rfl,ap⟩;have aq:=R.trans (ap.mono R.size);have aQ:=Ab ((Aa Q).trans (ap.mono (Aa Q).size));have q4:=Aa P _ aq)
   | (go_at_call 81;refine (Aa I _).mono ?_;rintro r aR ⟨rfl,ar⟩;have R:=S.trans (ar.mono S.size);have Q:=Ab ((Aa au).trans (ar.mono (Aa au).size));have q3:=Aa P _ R)
   | (go_at_call 45;refine (Aa ad _ (Aa M)).mono ?_;rintro r aS ⟨rfl,av⟩;have S:=B.trans (av.mono B.size);have au:=Ab ((Aa M).trans (av.mono (Aa M).size));have q2:=Aa P _ S))
 go_wp2_with fail
 go_ret
 exact ⟨rfl,j.trans (aq.mono j.size)⟩
theorem Xf (w:World)(a:Option Addr)(n c:Nat)(N:List Nd)(h:Hj w a n c N)(i:Nat)(x:Nd)(hx:N[i]? =some x)(T: 11≤x.op∧x.op≤26)(lv:Int)(v:Dw x.op=lv)(h4:lv=5)(k l:Nat)(hk:x.kids= [(k:Int),(l:Int)])(m o:Int→ByteArray)(h1:Fv w a n c k m)(h2:Fv w a n c l o)(U:(m (5)).size≤16000010)(V:(o (6)).size≤16000010):Pq w a n c i x.op (m (5) ++(⟨#[32]⟩ ++Cp x.op ++⟨#[32]⟩) ++o (6)):=by
 intro aw f hl y;have W:i < N.length:=(List.getElem?_eq_some_iff.1 hx).1;have X:N[i]=x:=(List.getElem?_eq_some_iff.1 hx).2;obtain ⟨b,aD,rfl,u,an,nn,C,Y,E,q,F,c1,c2,c3,c4,Z,s⟩:=(h.below y NLN).cells i W;rw[X] at F c1 c2 Z s;have aE:(i:Int) < (n:Int):=by have:=h.len;omega
 have aF:=h.small;have aG: 0≤lv:=by rw[← v];exact FG _
 have aH:lv≤8:=by rw[← v];exact Iz _
 have aI:decide (lv < aw)=false:=decide_eq_false (by omega);have H:=Ab (A7 (op:=x.op) (by omega) v);have I:=Ab (EL x.op T);have aa:=Ab (show m (5) ++(⟨#[32]⟩ ++Cp x.op ++⟨#[32]⟩) ++o (6)=m (5) ++⟨#[32]⟩ ++Cp x.op ++⟨#[32]⟩ ++o (6) by simp only[ByteArray.append_assoc]);rw[Aa aa];have ab:=DK x.op;generalize Cp x.op=J at I ab ⊢;clear aa;have j:=(Below.refl f.heap.size f).alloc NLN (.cells #[.int .i64 x.op,.int .i64 x.num,.string x.text,.slice an nn C,.slice Y E q] 114);have t:=An.new f #[.int .i64 x.op,.int .i64 x.num,.string x.text,.slice an nn C,.slice Y E q] 114;have z:=Ab (y.trans (j.mono y.size));subst h4;have g1:(x.op== 1)=false:=beq_eq_false_iff_ne.2 (by omega);have g2:(x.op== 2)=false:=beq_eq_false_iff_ne.2 (by omega);have g3:(x.op== 3)=false:=beq_eq_false_iff_ne.2 (by omega);have g4:(x.op== 4)=false:=beq_eq_false_iff_ne.2 (by omega);have g5:(x.op== 5)=false:=beq_eq_false_iff_ne.2 (by omega);have g8:(x.op== 8)=false:=beq_eq_false_iff_ne.2 (by omega);have ax:(x.op== 9)=false:=beq_eq_false_iff_ne.2 (by omega);have ay:(x.op== 10)=false:=beq_eq_false_iff_ne.2 (by omega);have az:(x.op== 27)=false:=beq_eq_false_iff_ne.2 (by omega);generalize x.op=op at F H I j t z g1 g2 g3 g4 g5 g8 ax ay az;rw[hk] at s;obtain ⟨d,ok,rfl,K,L⟩:=s.cells 0 (by simp);have ac:f.cell? ⟨d,ok+1,none⟩=some (.int .i64 l):=by
  obtain ⟨b2,aA,e2,_,d2⟩:=s.cells 1 (by simp);obtain ⟨rfl,rfl⟩:d=b2∧ok=aA:=by simpa using e2
  simpa using d2
 obtain rfl:E=2:=s.len.symm;simp only[List.getElem_cons_zero,Nat.add_zero] at L;have ad:=Ab (h1 (5));have ae:=Ab (h2 (6));generalize m (5)=A at ad U ⊢;generalize o (6)=aB at ae V ⊢;clear Z s hk h1 h2 h hx W X T hl y v;go_enter Tryz.func45,Tryz.ntmps45
 go_wp2_with fail
 refine (Aa H _).mono ?_;rintro r aJ ⟨rfl,af⟩;rw[af];clear af H;dsimp only;have aC:∃ g,g=f.alloc (.cells #[.int .i64 op,.int .i64 x.num,.string x.text,.slice an nn C,.slice (some ⟨d,ok,none⟩) 2 q] 114):=⟨_,rfl⟩
 go_wp2_with fail
 obtain ⟨g,ag⟩:=aC;rw[← ag] at j t z ⊢;have ah:=(j.cell (p:=⟨d,ok,none⟩) K).trans L;have ai:=(j.cell (p:=⟨d,ok+1,none⟩) K).trans ac;have aj:g.cell? ⟨f.heap.size,4,none⟩=some (.slice (some ⟨d,ok,none⟩) 2 q):=t.cell 4;have ak:g.cell? ⟨f.heap.size,0,none⟩=some (.int .i64 op):=t.cell 0;have al:=t.lt;have ao:d < g.heap.size:=Nat.lt_of_lt_of_le K j.size;clear ag t L ac F c1 c2 c3 c4;have B:Below g.heap.size g g.drew:=BRN.drew;have M:=Ab ((Aa z).trans (B.mono (Aa z).size));have O:∀ w',Below g.heap.size g w'→w'.cell? ⟨f.heap.size,4,none⟩=some (.slice (some ⟨d,ok,none⟩) 2 q)∧w'.cell? ⟨f.heap.size,0,none⟩=some (.int .i64 op)∧w'.cell? ⟨d,ok,none⟩=some (.int .i64 k)∧w'.cell? ⟨d,ok+1,none⟩=some (.int .i64 l):=fun w' u=>⟨(u.cell (p:=⟨f.heap.size,4,none⟩) al).trans aj,(u.cell (p:=⟨f.heap.size,0,none⟩) al).trans ak,(u.cell (p:=⟨d,ok,none⟩) ao).trans ah,(u.cell (p:=⟨d,ok+1,none⟩) ao).trans ai⟩
 have P:=Ab O;have aK:=O _ B;have e1:(⟨#[32]⟩:ByteArray).size=1:=rfl;have aL:=Cb (a:=A) (b:=⟨#[32]⟩) (by rw[e1];omega);have aM:=Cb (a:=A ++⟨#[32]⟩) (b:=J) (by rw[ByteArray.size_append,e1];omega);have aN:=Cb (a:=A ++⟨#[32]⟩ ++J) (b:=⟨#[32]⟩) (by simp only[ByteArray.size_append,e1];omega);have aO:=Cb (a:=A ++⟨#[32]⟩ ++J ++⟨#[32]⟩) (b:=aB) (by simp only[ByteArray.size_append,e1];omega);clear O ah ai aj ak U V ab;go_region_held3 (fun w'=>w'.cell? ⟨f.heap.size,4,none⟩=some (.slice (some ⟨d,ok,none⟩) 2 q)∧w'.cell? ⟨f.heap.size,0,none⟩=some (.int .i64 op)∧w'.cell? ⟨d,ok,none⟩=some (.int .i64 k)∧w'.cell? ⟨d,ok+1,none⟩=some (.int .i64 l)) (first | assumption | go_keep)
  (first
   | (go_at_call 45;refine (Aa ae _ (Aa Q)).mono ?_;rintro r aP ⟨rfl,ap⟩;have aq:=R.trans (ap.mono R.size);have aQ:=Ab ((Aa Q).trans (ap.mono (Aa Q).size));have q4:=Aa P _ aq)
   | (go_at_call 81;refine (Aa I _).mono ?_;rintro r aR ⟨rfl,ar⟩;have R:=S.trans (ar.mono S.size);have Q:=Ab ((Aa au).trans (ar.mono (Aa au).size));have q3:=Aa P _ R)
   | (go_at_call 45;refine (Aa ad _ (Aa M)).mono ?_;rintro r aS ⟨rfl,av⟩;have S:=B.trans (av.mono B.size);have au:=Ab ((Aa M).trans (av.mono (Aa M).size));have q2:=Aa P _ S))
 go_wp2_with fail
 go_ret
 exact ⟨rfl,j.trans (aq.mono j.size)⟩
theorem Xg (w:World)(a:Option Addr)(n c:Nat)(N:List Nd)(h:Hj w a n c N)(i:Nat)(x:Nd)(hx:N[i]? =some x)(T: 11≤x.op∧x.op≤26)(lv:Int)(v:Dw x.op=lv)(h4:lv=6)(k l:Nat)(hk:x.kids= [(k:Int),(l:Int)])(m o:Int→ByteArray)(h1:Fv w a n c k m)(h2:Fv w a n c l o)(U:(m (6)).size≤16000010)(V:(o (7)).size≤16000010):Pq w a n c i x.op (m (6) ++(⟨#[32]⟩ ++Cp x.op ++⟨#[32]⟩) ++o (7)):=by
 intro aw f hl y;have W:i < N.length:=(List.getElem?_eq_some_iff.1 hx).1;have X:N[i]=x:=(List.getElem?_eq_some_iff.1 hx).2;obtain ⟨b,aD,rfl,u,an,nn,C,Y,E,q,F,c1,c2,c3,c4,Z,s⟩:=(h.below y NLN).cells i W;rw[X] at F c1 c2 Z s;have aE:(i:Int) < (n:Int):=by have:=h.len;omega
 have aF:=h.small;have aG: 0≤lv:=by rw[← v];exact FG _
 have aH:lv≤8:=by rw[← v];exact Iz _
 have aI:decide (lv < aw)=false:=decide_eq_false (by omega);have H:=Ab (A7 (op:=x.op) (by omega) v);have I:=Ab (EL x.op T);have aa:=Ab (show m (6) ++(⟨#[32]⟩ ++Cp x.op ++⟨#[32]⟩) ++o (7)=m (6) ++⟨#[32]⟩ ++Cp x.op ++⟨#[32]⟩ ++o (7) by simp only[ByteArray.append_assoc]);rw[Aa aa];have ab:=DK x.op;generalize Cp x.op=J at I ab ⊢;clear aa;have j:=(Below.refl f.heap.size f).alloc NLN (.cells #[.int .i64 x.op,.int .i64 x.num,.string x.text,.slice an nn C,.slice Y E q] 114);have t:=An.new f #[.int .i64 x.op,.int .i64 x.num,.string x.text,.slice an nn C,.slice Y E q] 114;have z:=Ab (y.trans (j.mono y.size));subst h4;have g1:(x.op== 1)=false:=beq_eq_false_iff_ne.2 (by omega);have g2:(x.op== 2)=false:=beq_eq_false_iff_ne.2 (by omega);have g3:(x.op== 3)=false:=beq_eq_false_iff_ne.2 (by omega);have g4:(x.op== 4)=false:=beq_eq_false_iff_ne.2 (by omega);have g5:(x.op== 5)=false:=beq_eq_false_iff_ne.2 (by omega);have g8:(x.op== 8)=false:=beq_eq_false_iff_ne.2 (by omega);have ax:(x.op== 9)=false:=beq_eq_false_iff_ne.2 (by omega);have ay:(x.op== 10)=false:=beq_eq_false_iff_ne.2 (by omega);have az:(x.op== 27)=false:=beq_eq_false_iff_ne.2 (by omega);generalize x.op=op at F H I j t z g1 g2 g3 g4 g5 g8 ax ay az;rw[hk] at s;obtain ⟨d,ok,rfl,K,L⟩:=s.cells 0 (by simp);have ac:f.cell? ⟨d,ok+1,none⟩=some (.int .i64 l):=by
  obtain ⟨b2,aA,e2,_,d2⟩:=s.cells 1 (by simp);obtain ⟨rfl,rfl⟩:d=b2∧ok=aA:=by simpa using e2
  simpa using d2
 obtain rfl:E=2:=s.len.symm;simp only[List.getElem_cons_zero,Nat.add_zero] at L;have ad:=Ab (h1 (6));have ae:=Ab (h2 (7));generalize m (6)=A at ad U ⊢;generalize o (7)=aB at ae V ⊢;clear Z s hk h1 h2 h hx W X T hl y v;go_enter Tryz.func45,Tryz.ntmps45
 go_wp2_with fail
 refine (Aa H _).mono ?_;rintro r aJ ⟨rfl,af⟩;rw[af];clear af H;dsimp only;have aC:∃ g,g=f.alloc (.cells #[.int .i64 op,.int .i64 x.num,.string x.text,.slice an nn C,.slice (some ⟨d,ok,none⟩) 2 q] 114):=⟨_,rfl⟩
 go_wp2_with fail
 obtain ⟨g,ag⟩:=aC;rw[← ag] at j t z ⊢;have ah:=(j.cell (p:=⟨d,ok,none⟩) K).trans L;have ai:=(j.cell (p:=⟨d,ok+1,none⟩) K).trans ac;have aj:g.cell? ⟨f.heap.size,4,none⟩=some (.slice (some ⟨d,ok,none⟩) 2 q):=t.cell 4;have ak:g.cell? ⟨f.heap.size,0,none⟩=some (.int .i64 op):=t.cell 0;have al:=t.lt;have ao:d < g.heap.size:=Nat.lt_of_lt_of_le K j.size;clear ag t L ac F c1 c2 c3 c4;have B:Below g.heap.size g g.drew:=BRN.drew;have M:=Ab ((Aa z).trans (B.mono (Aa z).size));have O:∀ w',Below g.heap.size g w'→w'.cell? ⟨f.heap.size,4,none⟩=some (.slice (some ⟨d,ok,none⟩) 2 q)∧w'.cell? ⟨f.heap.size,0,none⟩=some (.int .i64 op)∧w'.cell? ⟨d,ok,none⟩=some (.int .i64 k)∧w'.cell? ⟨d,ok+1,none⟩=some (.int .i64 l):=fun w' u=>⟨(u.cell (p:=⟨f.heap.size,4,none⟩) al).trans aj,(u.cell (p:=⟨f.heap.size,0,none⟩) al).trans ak,(u.cell (p:=⟨d,ok,none⟩) ao).trans ah,(u.cell (p:=⟨d,ok+1,none⟩) ao).trans ai⟩
 have P:=Ab O;have aK:=O _ B;have e1:(⟨#[32]⟩:ByteArray).size=1:=rfl;have aL:=Cb (a:=A) (b:=⟨#[32]⟩) (by rw[e1];omega);have aM:=Cb (a:=A ++⟨#[32]⟩) (b:=J) (by rw[ByteArray.size_append,e1];omega);have aN:=Cb (a:=A ++⟨#[32]⟩ ++J) (b:=⟨#[32]⟩) (by simp only[ByteArray.size_append,e1];omega);have aO:=Cb (a:=A ++⟨#[32]⟩ ++J ++⟨#[32]⟩) (b:=aB) (by simp only[ByteArray.size_append,e1];omega);clear O ah ai aj ak U V ab;go_region_held3 (fun w'=>w'.cell? ⟨f.heap.size,4,none⟩=some (.slice (some ⟨d,ok,none⟩) 2 q)∧w'.cell? ⟨f.heap.size,0,none⟩=some (.int .i64 op)∧w'.cell? ⟨d,ok,none⟩=some (.int .i64 k)∧w'.cell? ⟨d,ok+1,none⟩=some (.int .i64 l)) (first | assumption | go_keep)
  (first
   | (go_at_call 45;refine (Aa ae _ (Aa Q)).mono ?_;rintro r aP ⟨rfl,ap⟩;have aq:=R.trans (ap.mono R.size);have aQ:=Ab ((Aa Q).trans (ap.mono (Aa Q).size));have q4:=Aa P _ aq)
   | (go_at_call 81;refine (Aa I _).mono ?_;rintro r aR ⟨rfl,ar⟩;have R:=S.trans (ar.mono S.size);have Q:=Ab ((Aa au).trans (ar.mono (Aa au).size));have q3:=Aa P _ R)
   | (go_at_call 45;refine (Aa ad _ (Aa M)).mono ?_;rintro r aS ⟨rfl,av⟩;have S:=B.trans (av.mono B.size);have au:=Ab ((Aa M).trans (av.mono (Aa M).size));have q2:=Aa P _ S))
 go_wp2_with fail
 go_ret
 exact ⟨rfl,j.trans (aq.mono j.size)⟩
end Go.Proofs.YtdldimphcpojoaaGreatDoor
