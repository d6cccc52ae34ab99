/-
  PLX, NUA, NUB, NUD, NUC, NUH, NUE, NUF. Own work.
-/
import Derived.Test.YtchakjeegneeoaaGreatDoorMXAO
import Derived.Test.YtchakjeegneeoaaGreatDoorMXAT
import Derived.Test.YtchakjeegneeoaaGreatDoorMXBC
import Derived.Test.YtchakjeegneeoaaGreatDoorMXAE
import Derived.Deep.AppendLies
import Derived.Deep.RegionLaw
import Derived.Test.YtchakjeegneeoaaGreatDoorMXAF
namespace Go.Proofs.YtchakjeegneeoaaGreatDoor
open Go.RowKit
set_option linter.unusedVariables false
def Ex.pos:Ex→Int
 | .int i _ | .text i _ | .bool i _ | .set i .. | .name i _ | .attr i _ | .lett i _ | .un i .. | .bin i .. | .ite i .. =>i
theorem Js {P:Program}{f:FuncId}{a:Func}(hf:P.funcs[f]? =some a)(c:(a.name== "runtime.NumGoroutine")=false)(b:a.body.isNone=false)(args:Array Value)(w:World):(callFunc f args).run P w= .ok (.enter f args) w:=by
 have h1:a.name≠ "runtime.NumGoroutine" :=by simpa using c
 have h3:a.body≠none:=fun e=>by rw[e] at b;cases b
 simp[callFunc,hf,h1,h3]
def MtX (nm:String) (T:TypeId) (v:Value) (Q:World→Ending→World→Prop):Prop:=∃ F x fn,(∀ w,(method 442 T v nm).run Tryz.prog w= .ok (F,x) w)∧(Tryz.prog.funcs[F]? =some fn∧(fn.name== "runtime.NumGoroutine")=false∧fn.body.isNone=false)∧∀ w,Calls Tryz.prog F #[x] w (Q w)
def KdR (lo:Nat) (w:World) (a:Option Addr) (vs:List Value):Prop:=vs= []∨∃ g,a=some ⟨g,0,none⟩∧lo≤g∧Al w g vs.toArray 117
theorem KdR.keep {lo:Nat}{w w':World}{a:Option Addr}{b:List Value}(h:KdR lo w a b)(k:∀ g cs,lo≤g→Al w g cs 117→Al w' g cs 117):KdR lo w' a b:=h.imp id fun ⟨g,e,l,r⟩=>⟨g,e,l,k g _ l r⟩
theorem KdR.at {lo:Nat}{w:World}{a:Option Addr}{b:List Value}(h:KdR lo w a b){k:Nat}(hk:k < b.length):∃ g,a=some ⟨g,0,none⟩∧w.cell? ⟨g,k,none⟩=some b[k]:=by
 rcases h with h | ⟨g,e,_,r⟩
 ·rw[h] at hk;cases hk
 ·refine ⟨g,e,(r.cell k).trans ?_⟩;rw[zu];exact zH hk
def KdA (vs:List Value) (w:World) (r:Ending) (w':World):Prop:=∃ a,r= .returned (.slice a vs.length vs.length)∧KdR w.heap.size w' a vs∧Below w.heap.size w w'
def Ae0 (i:Int) (w:World) (r:Ending) (w':World):Prop:=r= .returned (.int .i64 i)∧Below w.heap.size w w'
abbrev KdX (T:TypeId) (v:Value) (vs:List Value):Prop:=MtX "loop.example/s01308/impl.kids" T v (KdA vs)
abbrev PlX (T:TypeId) (v:Value) (i:Int):Prop:=MtX "loop.example/s01308/impl.place" T v (Ae0 i)
theorem RL {w:World}{a:List Value}{r:Ending}{w':World}(h:Acb w a a.length r w'):KdA a w r w':=by
 obtain ⟨g,h1,h2,h3,h4⟩:=h;exact ⟨_,h1,.inr ⟨g,rfl,h2,h3⟩,h4⟩
theorem Aev {T:TypeId}{v:Value}{i:Int}(h:Mm T 242 243 v (.int .i64 i)):KdX T v []∧PlX T v i:=
 ⟨⟨_,_,_,h.1,⟨Tryz.func242,by kernel_rfl,by kernel_rfl⟩,fun w=>(Yo i w).mono fun r w' h=>⟨none,h.1,.inl rfl,by rw[h.2];exact BRN⟩⟩,⟨_,_,_,h.2,⟨Tryz.func243,by kernel_rfl,by kernel_rfl⟩,fun w=>(VL i w).mono fun r w' h=>⟨h.1,by rw[h.2];exact BRN⟩⟩⟩
theorem Ex.kids_lt (e:Ex):∀ k∈e.kids,k.cnt < e.cnt:=by
 cases e <;> simp[Ex.kids,Ex.cnt] <;> omega
theorem Ex.kids_3 (e:Ex):e.kids.length≤3:=by cases e <;> simp[Ex.kids]
theorem Ex.mth (e:Ex):∃ T v,e.val= .iface T v∧KdX T v (e.kids.map Ex.val)∧PlX T v e.pos:=by
 cases e with
 |int | text | bool | set | attr | lett | name=>exact ⟨_,_,rfl,Aev (Aeo (by decide) _ _)⟩
 |un i op k=>
  obtain ⟨tk,a,b⟩:=k.form;simp only[Ex.val,Ex.kids,List.map,b];exact ⟨_,_,rfl,⟨_,_,_,(Qi _).1.1,⟨Tryz.func255,by kernel_rfl,by kernel_rfl⟩,fun w=>(VM i op tk a w).mono fun r w' h=>RL h⟩,⟨_,_,_,(Qi _).1.2,⟨Tryz.func256,by kernel_rfl,by kernel_rfl⟩,TO i op tk a⟩⟩
 |bin i op k l=>
  obtain ⟨tk,a,b⟩:=k.form;obtain ⟨c,d,f⟩:=l.form;simp only[Ex.val,Ex.kids,List.map,b,f];exact ⟨_,_,rfl,⟨_,_,_,(Qi _).2.1.1,⟨Tryz.func257,by kernel_rfl,by kernel_rfl⟩,fun w=>(TP i op tk a c d w).mono fun r w' h=>RL h⟩,⟨_,_,_,(Qi _).2.1.2,⟨Tryz.func258,by kernel_rfl,by kernel_rfl⟩,Ry i op tk a c d⟩⟩
 |ite i k l m=>
  obtain ⟨tk,a,b⟩:=k.form;obtain ⟨c,d,f⟩:=l.form;obtain ⟨g,j,n⟩:=m.form;simp only[Ex.val,Ex.kids,List.map,b,f,n];exact ⟨_,_,rfl,⟨_,_,_,(Qi _).2.2.1,⟨Tryz.func259,by kernel_rfl,by kernel_rfl⟩,fun w=>(TQ i tk a c d g j w).mono fun r w' h=>RL h⟩,⟨_,_,_,(Qi _).2.2.2,⟨Tryz.func260,by kernel_rfl,by kernel_rfl⟩,RA i tk a c d g j⟩⟩
set_option maxRecDepth 100000
set_option maxHeartbeats 6400000
def exN:Ex→Nd
 | .int _ n=>⟨1,n,⟨#[]⟩, [], []⟩
 | .text _ s=>⟨2,0,s, [], []⟩
 | .bool _ b=>⟨3,if b then 1 else 0,⟨#[]⟩, [], []⟩
 | .set _ _ _ _ ss=>⟨4,0,⟨#[]⟩,ss, []⟩
 | .name _ s=>⟨5,0,s, [], []⟩
 | .attr _ n=>⟨6,n,⟨#[]⟩, [], []⟩
 | .lett _ n=>⟨7,n,⟨#[]⟩, [], []⟩
 | .un _ op _=>⟨op,0,⟨#[]⟩, [], []⟩
 | .bin _ op _ _=>⟨op,0,⟨#[]⟩, [], []⟩
 | .ite .. =>⟨27,0,⟨#[]⟩, [], []⟩
def NdA (x:Nd) (w:World) (r:Ending) (w':World):Prop:=(∃ u cu,r= .returned (.agg #[.int .i64 x.op,.int .i64 x.num,.string x.text,.slice u x.names.length cu,.slice none 0 0])∧w'.ownsRow w.heap.size 9 1 (.slice u x.names.length cu) x.names.length (x.names.map Value.string))∧Below w.heap.size w w'
theorem E9 {w:World}{b:Nat}{a c d f g:Value}{t:TypeId}(R:Al w b #[a,c,d,f,g] t):w.cell? ⟨b,0,none⟩=some a∧w.cell? ⟨b,1,none⟩=some c∧w.cell? ⟨b,2,none⟩=some d∧w.cell? ⟨b,3,none⟩=some f∧w.cell? ⟨b,4,none⟩=some g:=⟨R.cell 0,R.cell 1,R.cell 2,R.cell 3,R.cell 4⟩
theorem Aes {a:Func}{b:Array Value}{w W:World}{x:Nd}(c:x.names= [])(d:Below w.heap.size w W)(f:(results a b).run Tryz.prog W= .ok (.agg #[.int .i64 x.op,.int .i64 x.num,.string x.text,.slice none 0 0,.slice none 0 0]) W):bodyPost Tryz.prog a (NdA x w) Exit.ret { tmps:=b,defers:= [] } W:=
 bodyPost_ret f rfl ⟨⟨none,0,by rw[c];rfl,by rw[c];exact World.ownsRow_nil _ _ _ _⟩,d⟩
theorem Aet (e:Ex)(he:∀ i a n c f,e≠.set i a n c f)(w:World):Calls Tryz.prog 118 #[e.val] w (NdA (exN e) w):=by
 have j:=fun o p:Obj=>((Below.refl w.heap.size w).alloc NLN o).alloc (by simp) p;obtain ⟨S,v,d⟩:=e.form;have ts:=tas S v;cases e
 case' set i a n c f=>exact absurd rfl (he i a n c f)
 case' bool i b=>cases b
 case' un i op k=>
  obtain ⟨t,u,h⟩:=k.form;simp only[Ex.val,h] at d ⊢
 case' bin i op k l=>
  obtain ⟨t,u,h⟩:=k.form;obtain ⟨q,r,g⟩:=l.form;simp only[Ex.val,h,g] at d ⊢
 case' ite i k l m=>
  obtain ⟨t,u,h⟩:=k.form;obtain ⟨q,r,g⟩:=l.form;obtain ⟨s,x,h2⟩:=m.form;simp only[Ex.val,h,g,h2] at d ⊢
 all_goals
  try simp only[Ex.val] at d ⊢
  cases d;simp only[Sl,Nat.reduceEqDiff,reduceIte] at ts;obtain ⟨y,z,A,B,C,E,s6,F,H,I⟩:=ts;go_enter Tryz.func118,Tryz.ntmps118
  go_wp2_with fail
  exact Aes rfl (j _ _) (by simp[results,Tryz.results118,go_sem,exN])
theorem AaU (i:Int)(a:Option Addr)(n c:Nat)(b:List ByteArray)(w:World)(o:Bg w a n c b)(y:b.length≤1048576):Calls Tryz.prog 118 #[.iface 236 (.agg #[.int .i64 i,.slice a n c])] w (NdA (exN (.set i a n c b)) w):=by
 have I:=DU (S:=236) (T:=230) Tryz.underlying230 Tryz.zeroValue230 (by decide) 117;have a1:=DU (S:=236) (T:=232) Tryz.underlying232 Tryz.zeroValue232 (by decide) 117;have a2:=DU (S:=236) (T:=234) Tryz.underlying234 Tryz.zeroValue234 (by decide) 117;have J:=Ib (T:=236) Tryz.underlying236 117;have k:=((Below.refl w.heap.size w).alloc NLN (.cells #[.int .i64 0,.int .i64 0,.string ⟨#[]⟩,.slice none 0 0,.slice none 0 0] 68)).alloc (by simp) (.cells #[.int .i64 i,.slice a n c] 236);have s:=(Al.new w #[.int .i64 0,.int .i64 0,.string ⟨#[]⟩,.slice none 0 0,.slice none 0 0] 68).alloc (.cells #[.int .i64 i,.slice a n c] 236);have t:=Ab (UV a n c b _ (o.below k NLN) y);clear o;go_enter Tryz.func118,Tryz.ntmps118
 go_wp2_with fail
 refine (Aa t).mono ?_;rintro r K ⟨⟨x,d,rfl,l⟩,m⟩;have g:=s.after m NLN;obtain ⟨x0,x1,x2,L,M⟩:=E9 g;have N:=fun j=>g.frozen j;obtain ⟨z,A,B,C,E⟩:=E9 ((((((g).set 0 (.int .i64 4)).set 1 (.int .i64 0)).set 2 (.string ⟨#[]⟩)).set 3 (.slice x b.length d)).set 4 (.slice none 0 0));have u:=k.trans (m.mono (by simp;omega));have f:∀ q,(Value.slice x b.length d).ownBlock=some q→q≠w.heap.size:=fun q hq h=>by have:=(l.lt q hq).1;simp at this;omega
 have F:=Ab ((((((u).setCell (p:=⟨w.heap.size,0,none⟩) NLN (.int .i64 4)).setCell (p:=⟨w.heap.size,1,none⟩) NLN (.int .i64 0)).setCell (p:=⟨w.heap.size,2,none⟩) NLN (.string ⟨#[]⟩)).setCell (p:=⟨w.heap.size,3,none⟩) NLN (.slice x b.length d)).setCell (p:=⟨w.heap.size,4,none⟩) NLN (.slice none 0 0));have H:=Ab ((AA (AA (AA (AA (AA (H6 (base':=w.heap.size) l (by simp;omega)) ⟨w.heap.size,0,none⟩ (.int .i64 4) f) ⟨w.heap.size,1,none⟩ (.int .i64 0) f) ⟨w.heap.size,2,none⟩ (.string ⟨#[]⟩) f) ⟨w.heap.size,3,none⟩ (.slice x b.length d) f) ⟨w.heap.size,4,none⟩ (.slice none 0 0) f));clear s g k u m t l f;dsimp only;go_wp2_with fail
 refine bodyPost_ret (v:= .agg #[.int .i64 4,.int .i64 0,.string ⟨#[]⟩,.slice x b.length d,.slice none 0 0]) (by simp[results,Tryz.results118,go_sem,z,A,B,C,E]) rfl ?_
 exact ⟨⟨x,d,rfl,Aa H⟩,Aa F⟩
theorem Bt.snoc {g w2:World}{lo:Nat}{v v' u k:Value}{N:List Nd}{a b:List Value}{x:Nd}(h:Bt g lo v N a b)
  (z:g.ownsRow lo 9 1 u x.names.length (x.names.map Value.string))(hk:g.ownsRow lo 3 1 k x.kids.length (Ar x.kids))(A:∀ j,(d:j < a.length)→∀ q,a[j].ownBlock=some q→u.ownBlock≠some q)(B:∀ j,(d:j < b.length)→∀ q,b[j].ownBlock=some q→k.ownBlock≠some q)
  (C:w2.ownsRow lo 68 5 v' (N.length+1) (JY N a b ++Lk x u k))(s:g.grownBy w2 v.ownBlock):Bt w2 lo v' (N ++ [x]) (a ++ [u]) (b ++ [k]):=by
 have p:=h.len;have r:=h.lenk;have t:∀ {n:Nat} {y:Value} {l:List Value},g.ownsRow lo 9 1 y n l→w2.ownsRow lo 9 1 y n l:=fun o=>Ac o (fun q hq=>s.block q (o.lt q hq).2 (fun e=>Ai o h.own (by decide) q hq e.symm));have w:∀ {n:Nat} {y:Value} {l:List Value},g.ownsRow lo 3 1 y n l→w2.ownsRow lo 3 1 y n l:=fun o=>Ac o (fun q hq=>s.block q (o.lt q hq).2 (fun e=>Ai o h.own (by decide) q hq e.symm));refine ⟨by simp[p],by simp[r],by rw[zA,z7,TX _ _ _ _ _ _ p r];exact C,fun j d m=>?_,fun j d m=>?_,fun i j f d q hq=>?_,fun i j f d q hq=>?_⟩
 ·by_cases c:j < a.length
  ·have a1:(a ++ [u])[j]=a[j]:=zx c;have a2:(N ++ [x])[j]=N[j]'(by omega):=zx (by omega);rw[a1,a2];exact t (h.names j (by omega) c)
  ·have e:j=a.length:=by simp at m;omega
   subst e;have a1:(a ++ [u])[a.length]'m=u:=by simp
   have a2:(N ++ [x])[a.length]'d=x:=by simp[p]
   rw[a1,a2];exact t z
 ·by_cases c:j < b.length
  ·have a1:(b ++ [k])[j]=b[j]:=zx c;have a2:(N ++ [x])[j]=N[j]'(by omega):=zx (by omega);rw[a1,a2];exact w (h.kids j (by omega) c)
  ·have e:j=b.length:=by simp at m;omega
   subst e;have a1:(b ++ [k])[b.length]'m=k:=by simp
   have a2:(N ++ [x])[b.length]'d=x:=by simp[r]
   rw[a1,a2];exact w hk
 ·by_cases c:j < a.length
  ·rw[zx c];rw[zx (by omega)] at hq;exact h.apart i j f c q hq
  ·have e:j=a.length:=by simp at d;omega
   subst e;rw[zx f] at hq;simp;exact A i f q hq
 ·by_cases c:j < b.length
  ·rw[zx c];rw[zx (by omega)] at hq;exact h.apartk i j f c q hq
  ·have e:j=b.length:=by simp at d;omega
   subst e;rw[zx f] at hq;simp;exact B i f q hq
structure My (w:World) (B nb:Nat) (N:List Nd) (P:List Int) (nd pl:Value) (nv kv:List Value):Prop where
 row:Al w nb #[nd,pl] 147
 nodes:Bt w B nd N nv kv
 places:w.ownsRow B 3 1 pl P.length (Ar P)
 apart:∀ q,pl.ownBlock=some q→∀ j,(hj:j < kv.length)→kv[j].ownBlock≠some q
 low:B≤nb
structure Nk (B nb:Nat) (nd pl:Value) (w:World) (nd' pl':Value) (w':World):Prop where
 low:Below B w w'
 block:∀ k,k < w.heap.size→k≠nb→nd.ownBlock≠some k→pl.ownBlock≠some k→w'.heap[k]? =w.heap[k]?
 newN:∀ q,nd'.ownBlock=some q→nd.ownBlock=some q∨w.heap.size≤q
 newP:∀ q,pl'.ownBlock=some q→pl.ownBlock=some q∨w.heap.size≤q
theorem Nk.refl (B b:Nat)(nd a:Value)(w:World):Nk B b nd a w nd a w:=⟨BRN,fun _ _ _ _ _=>rfl,fun q h=> .inl h,fun q h=> .inl h⟩
theorem Nk.trans {B a:Nat}{nd b c d f g:Value}{w i w2:World}(h:Nk B a nd b w c d i)(k:Nk B a c d i f g w2):Nk B a nd b w f g w2:=by
 have j:=h.low.size;refine ⟨h.low.trans k.low,fun q h1 h2 h3 h4=>?_,fun q hq=>?_,fun q hq=>?_⟩
 ·refine (k.block q (zM h1 j) h2 (fun e=>?_) (fun e=>?_)).trans (h.block q h1 h2 h3 h4)
  ·rcases h.newN q e with e | e
   ·exact h3 e
   ·omega
  ·rcases h.newP q e with e | e
   ·exact h4 e
   ·omega
 ·rcases k.newN q hq with e | e
  ·exact h.newN q e
  ·exact .inr (by omega)
 ·rcases k.newP q hq with e | e
  ·exact h.newP q e
  ·exact .inr (by omega)
theorem Nk.of_all {B b:Nat}{nd a:Value}{w w':World}(h:Below w.heap.size w w')(hB:B≤w.heap.size):Nk B b nd a w nd a w':=
 ⟨h.mono hB,fun k h1 _ _ _=>h.block k h1,fun q hq=> .inl hq,fun q hq=> .inl hq⟩
theorem My.below {w w':World}{B b:Nat}{N:List Nd}{P:List Int}{nd c:Value}{d f:List Value}(h:My w B b N P nd c d f)(a:Below w.heap.size w w'):My w' B b N P nd c d f:=
 ⟨h.row.after a NLN,h.nodes.blocks (fun k _ hk=>a.block k hk),Ac h.places (fun q hq=>a.block q (h.places.lt q hq).2),h.apart,h.low⟩
theorem Nk.row {B b:Nat}{nd c f i:Value}{w w':World}{N:List Nd}{P:List Int}{j k:List Value}(h:Nk B b nd c w f i w')(C:My w B b N P nd c j k){g:Nat}{cs:Array Value}{t:TypeId}(R:Al w g cs t)(h1:t≠147)(h2:t≠68)(h3:t≠3):Al w' g cs t:=
 ⟨(h.block g R.lt (fun e=>by
  have d:=R.out;have a:=C.row.out;rw[e] at d;rw[d] at a;injection a with a;injection a with _ a;exact h1 a) (Ae R C.nodes.own h2) (Ae R C.places h3)).trans R.out⟩
structure Kn (B nb:Nat) (g:Option Addr) (w:World) (nd pl:Value) (N:List Nd) (P:List Int) (nd1 pl1:Value) (nv kv:List Value) (kw:Value) (ks:List Int) (vs:List Value) (w2:World):Prop where
 C:My w2 B nb N P nd1 pl1 nv kv
 K:Nk B nb nd pl w nd1 pl1 w2
 R:KdR w.heap.size w2 g vs
 O:w2.ownsRow w.heap.size 3 1 kw ks.length (Ar ks)
 ap:∀ q,kw.ownBlock=some q→pl1.ownBlock≠some q∧∀ j,(hj:j < kv.length)→kv[j].ownBlock≠some q
theorem Kn.call {B a:Nat}{g:Option Addr}{w w2 b:World}{nd n o p i k l:Value}{N M:List Nd}{P Q:List Int}{m c s d:List Value}{ks:List Int}{t:List Value}(h:Kn B a g w nd n N P o p m c l ks t w2)(x:My b B a (N ++M) (P ++Q) i k (m ++s) (c ++d))(f:Nk B a o p w2 i k b)(y:∀ j,(u:j < d.length)→∀ q,d[j].ownBlock=some q→w2.heap.size≤q):
  Kn B a g w nd n (N ++M) (P ++Q) i k (m ++s) (c ++d) l ks t b:=by
 have A:=h.K.low.size;have z:b.ownsRow w.heap.size 3 1 l ks.length (Ar ks):=Ac h.O (fun q hq=>f.block q (h.O.lt q hq).2 (fun e=>Ae h.C.row h.O (by decide) (by rw[hq,e])) (fun e=>Ai h.O h.C.nodes.own (by decide) q hq e) (h.ap q hq).1);refine ⟨x,h.K.trans f,h.R.keep fun g cs _ r=>f.row h.C r (by decide) (by decide) (by decide),z,fun q hq=>⟨fun e=>?_,fun j u e=>?_⟩⟩
 ·rcases f.newP q e with e | e
  ·exact (h.ap q hq).1 e
  ·have:=(h.O.lt q hq).2;omega
 ·by_cases v:j < c.length
  ·rw[zx v] at e;exact (h.ap q hq).2 j v e
  ·rw[List.getElem_append_right (by omega)] at e;have:=y _ (by simp at u;omega) q e;have:=(h.O.lt q hq).2;omega
theorem Kn.app {B d:Nat}{g:Option Addr}{w w2 f:World}{nd i k l c:Value}{N:List Nd}{P:List Int}{m n:List Value}{ks:List Int}{p:List Value}{o:Obj}{a:Int}{gk cap:Nat}(h:Kn B d g w nd i N P k l m n c ks p w2)(hB:B≤w.heap.size)
  (v:f.ownsRow w.heap.size 3 1 (.slice (some ⟨gk,0,none⟩) (ks.length+1) cap) (ks.length+1) (Ar ks ++ [.int .i64 a]))(s:(w2.alloc o).grownBy f c.ownBlock)(hat:c.ownBlock=some gk∨gk=w2.heap.size+1):
  Kn B d g w nd i N P k l m n (.slice (some ⟨gk,0,none⟩) (ks.length+1) cap) (ks ++ [a]) p f:=by
 have t:=h.K.low.size;have z:=(Below.refl w2.heap.size w2).alloc NLN o;have u:(w2.alloc o).heap.size=w2.heap.size+1:=by simp
 have hk:∀ q,q < w2.heap.size→c.ownBlock≠some q→f.heap[q]? =w2.heap[q]? :=fun q h1 h2=>(s.block q (by rw[u];omega) (fun e=>h2 e.symm)).trans (Below.heap_alloc w2 o q h1);have C:=h.C;have x:c.ownBlock≠some d:=Ae C.row h.O (by decide);refine ⟨⟨⟨(hk d C.row.lt x).trans C.row.out⟩, ?_, ?_,C.apart,C.low⟩,⟨?_,fun q h1 h2 h3 h4=>?_,h.K.newN,h.K.newP⟩,h.R.keep fun g cs _ r=>⟨(hk g r.lt (Ae r h.O (by decide))).trans r.out⟩,by rw[zA];simpa[Ar] using v,fun q hq=>?_⟩
 ·exact C.nodes.upto (fun q hq=>hk q (C.nodes.lts.1 q hq).2 (fun e=>Ai h.O C.nodes.own (by decide) q e hq)) (fun j b q hq=>hk q (C.nodes.lts.2.1 j b q hq).2 (fun e=>Ai h.O (C.nodes.names j (by rw[← C.nodes.len];exact b) b) (by decide) q e hq)) (fun j b q hq=>hk q (C.nodes.lts.2.2 j b q hq).2 (fun e=>(h.ap q e).2 j b hq))
 ·exact Ac C.places (fun q hq=>hk q (C.places.lt q hq).2 (fun e=>(h.ap q e).1 hq))
 ·exact (h.K.low.alloc (zD hB t) o).grown s (by rw[u];omega) (fun q hq=>by have:=(h.O.lt q hq).1;omega)
 ·have y:=zM h1 t;refine (hk q y (fun e=>by have:=(h.O.lt q e).1;omega)).trans (h.K.block q h1 h2 h3 h4)
 ·have e:gk=q:=by simpa[Value.ownBlock] using hq
  subst e;rcases hat with e | e
  ·exact h.ap gk e
  ·refine ⟨fun e'=>?_,fun j b e'=>?_⟩
   ·have:=(C.places.lt gk e').2;omega
   ·have:=(C.nodes.lts.2.2 j b gk e').2;omega
theorem Bd {W a:World}{o:Obj}{row:Option Nat}(b:(W.alloc o).grownBy a row):∀ q,q < W.heap.size→row≠some q→a.heap[q]? =W.heap[q]? :=fun q h1 h2=>(b.block q (by simp;omega) (fun e=>h2 e.symm)).trans (Below.heap_alloc W o q h1)
theorem My.pushN {W b:World}{B a g7 c7:Nat}{N:List Nd}{P:List Int}{nd d u k:Value}{h f:List Value}{x:Nd}(C:My W B a N P nd d h f)(o:Obj)(hB:B≤W.heap.size)(n:W.ownsRow B 9 1 u x.names.length (x.names.map Value.string))(hk:W.ownsRow B 3 1 k x.kids.length (Ar x.kids))
  (t:∀ j,(c:j < h.length)→∀ q,h[j].ownBlock=some q→u.ownBlock≠some q)(v:∀ j,(c:j < f.length)→∀ q,f[j].ownBlock=some q→k.ownBlock≠some q)(w:∀ q,k.ownBlock=some q→d.ownBlock≠some q)
  (i:(W.alloc o).grownBy b nd.ownBlock)(y:b.ownsRow B 68 5 (.slice (some ⟨g7,0,none⟩) (N.length+1) c7) (N.length+1) (JY N h f ++Lk x u k))(hat:nd.ownBlock=some g7∨g7=W.heap.size+1):
  My (b.setCell ⟨a,0,none⟩ (.slice (some ⟨g7,0,none⟩) (N.length+1) c7)) B a (N ++ [x]) P (.slice (some ⟨g7,0,none⟩) (N.length+1) c7) d (h ++ [u]) (f ++ [k])∧Nk B a nd d W (.slice (some ⟨g7,0,none⟩) (N.length+1) c7) d (b.setCell ⟨a,0,none⟩ (.slice (some ⟨g7,0,none⟩) (N.length+1) c7)):=by
 have m:=(Below.refl W.heap.size W).alloc NLN o;have z:=C.below m;have A:=Ac (w':=W.alloc o) n (fun q hq=>m.block q (n.lt q hq).2);have E:=Ac (w':=W.alloc o) hk (fun q hq=>m.block q (hk.lt q hq).2);have F:nd.ownBlock≠some a:=Ae C.row C.nodes.own (by decide);have l:Al b a #[nd,d] 147:=⟨(Bd i a C.row.lt F).trans C.row.out⟩
 have g:=z.nodes.snoc A E t v y i;have r:b.ownsRow B 3 1 d P.length (Ar P):=Ac C.places (fun q hq=>Bd i q (C.places.lt q hq).2 (fun e=>Ai C.places C.nodes.own (by decide) q hq e));have sc:∀ q,q≠a→(b.setCell ⟨a,0,none⟩ (.slice (some ⟨g7,0,none⟩) (N.length+1) c7)).heap[q]? =b.heap[q]? :=fun q hq=>heap_setCell_other b ⟨a,0,none⟩ q _ hq;refine ⟨⟨l.set 0 _,g.upto (fun q hq=>sc q (fun e=>Ae l g.own (by decide) (by rw[hq,e]))) (fun j c q hq=>sc q (fun e=>Ae l (g.names j (by rw[← g.len];exact c) c) (by decide) (by rw[hq,e]))) (fun j c q hq=>sc q (fun e=>Ae l (g.kids j (by rw[← g.lenk];exact c) c) (by decide) (by rw[hq,e]))),Ac r (fun q hq=>sc q (fun e=>Ae l r (by decide) (by rw[hq,e]))),fun q hq j c e=>?_,C.low⟩,⟨?_,fun q h1 h2 h3 h4=>(sc q h2).trans (Bd i q h1 h3),fun q hq=>?_,fun q hq=> .inl hq⟩⟩
 ·by_cases s:j < f.length
  ·rw[zx s] at e;exact C.apart q hq j s e
  ·have H:j=f.length:=by simp at c;omega
   subst H;simp at e;exact w q e hq
 ·exact ((m.mono hB).grown i (by simp;omega) (fun q hq=>(C.nodes.lts.1 q hq).1)).setCell (p:=⟨a,0,none⟩) C.low _
 ·have e:g7=q:=by simpa[Value.ownBlock] using hq
  subst e;exact hat.imp id (fun e=>by omega)
theorem My.pushP {W d:World}{B c g7 c7:Nat}{N:List Nd}{P:List Int}{nd f:Value}{k l:List Value}(C:My W B c N P nd f k l)(o:Obj)(a:Int)(hB:B≤W.heap.size)
  (g:(W.alloc o).grownBy d f.ownBlock)(m:d.ownsRow B 3 1 (.slice (some ⟨g7,0,none⟩) (P.length+1) c7) (P.length+1) (Ar P ++ [.int .i64 a]))(hat:f.ownBlock=some g7∨g7=W.heap.size+1):
  My (d.setCell ⟨c,1,none⟩ (.slice (some ⟨g7,0,none⟩) (P.length+1) c7)) B c N (P ++ [a]) nd (.slice (some ⟨g7,0,none⟩) (P.length+1) c7) k l∧Nk B c nd f W nd (.slice (some ⟨g7,0,none⟩) (P.length+1) c7) (d.setCell ⟨c,1,none⟩ (.slice (some ⟨g7,0,none⟩) (P.length+1) c7)):=by
 have n:=(Below.refl W.heap.size W).alloc NLN o;have r:f.ownBlock≠some c:=Ae C.row C.places (by decide);have i:Al d c #[nd,f] 147:=⟨(Bd g c C.row.lt r).trans C.row.out⟩
 have sc:∀ q,q≠c→(d.setCell ⟨c,1,none⟩ (.slice (some ⟨g7,0,none⟩) (P.length+1) c7)).heap[q]? =d.heap[q]? :=fun q hq=>heap_setCell_other d ⟨c,1,none⟩ q _ hq;have h:Bt d B nd N k l:=C.nodes.upto (fun q hq=>Bd g q (C.nodes.lts.1 q hq).2 (fun e=>Ai C.places C.nodes.own (by decide) q e hq)) (fun j b q hq=>Bd g q (C.nodes.lts.2.1 j b q hq).2 (fun e=>Ai C.places (C.nodes.names j (by rw[← C.nodes.len];exact b) b) (by decide) q e hq)) (fun j b q hq=>Bd g q (C.nodes.lts.2.2 j b q hq).2 (fun e=>C.apart q e j b hq));refine ⟨⟨i.set 1 _,h.upto (fun q hq=>sc q (fun e=>Ae i h.own (by decide) (by rw[hq,e]))) (fun j b q hq=>sc q (fun e=>Ae i (h.names j (by rw[← h.len];exact b) b) (by decide) (by rw[hq,e]))) (fun j b q hq=>sc q (fun e=>Ae i (h.kids j (by rw[← h.lenk];exact b) b) (by decide) (by rw[hq,e]))), ?_,fun q hq j b e=>?_,C.low⟩,⟨?_,fun q h1 h2 h3 h4=>(sc q h2).trans (Bd g q h1 h4),fun q hq=> .inl hq,fun q hq=>?_⟩⟩
 ·have:=Ac (w':=d.setCell ⟨c,1,none⟩ (.slice (some ⟨g7,0,none⟩) (P.length+1) c7)) m (fun q hq=>sc q (fun e=>Ae i m (by decide) (by rw[hq,e])));simpa[Ar] using this
 ·have s:g7=q:=by simpa[Value.ownBlock] using hq
  subst s;rcases hat with h1 | h1
  ·exact C.apart g7 h1 j b e
  ·have:=(C.nodes.lts.2.2 j b g7 e).2;omega
 ·exact ((n.mono hB).grown g (by simp;omega) (fun q hq=>(C.places.lt q hq).1)).setCell (p:=⟨c,1,none⟩) C.low _
 ·have e:g7=q:=by simpa[Value.ownBlock] using hq
  subst e;exact hat.imp id (fun e=>by omega)
def BH:Ex→Nat→List Nd
 | .un i op k,b=>BH k b ++ [⟨op,0,⟨#[]⟩, [], [((b+k.cnt - 1 :Nat):Int)]⟩]
 | .bin i op l r,b=>BH l b ++BH r (b+l.cnt) ++ [⟨op,0,⟨#[]⟩, [], [((b+l.cnt - 1 :Nat):Int),((b+l.cnt+r.cnt - 1 :Nat):Int)]⟩]
 | .ite i c t e,b=>BH c b ++BH t (b+c.cnt) ++BH e (b+c.cnt+t.cnt) ++ [⟨27,0,⟨#[]⟩, [], [((b+c.cnt - 1 :Nat):Int),((b+c.cnt+t.cnt - 1 :Nat):Int),((b+c.cnt+t.cnt+e.cnt - 1 :Nat):Int)]⟩]
 |e,_=> [exN e]
def DG:Ex→List Int
 | .int i _=> [i] | .text i _=> [i] | .bool i _=> [i] | .set i .. => [i] | .name i _=> [i] | .attr i _=> [i] | .lett i _=> [i]
 | .un i _ k=>DG k ++ [i]
 | .bin i _ l r=>DG l ++DG r ++ [i]
 | .ite i c t e=>DG c ++DG t ++DG e ++ [i]
theorem Vo:(Tryz.prog.info? 68).map (fun i=>(i.zero,i.size,i.bytes))=some (some (.agg #[.int .i64 0,.int .i64 0,.string ByteArray.empty,.slice none 0 0,.slice none 0 0]),5,80):=by kernel_rfl
theorem Aax:(Tryz.prog.info? 3).map (fun i=>(i.zero,i.size,i.bytes))=some (some (.int .i64 0),1,8):=by kernel_rfl
theorem Gi (w:World):Below w.heap.size w w.drew:=⟨rfl,rfl,rfl,NLN,fun _ _=>rfl⟩
def AdO (B nb:Nat) (N:List Nd) (P:List Int) (nd pl:Value) (nv kv:List Value) (M:List Nd) (Q:List Int) (w:World) (r:Ending) (w':World):Prop:=
 r= .returned (.int .i64 ((N.length+M.length - 1 :Nat):Int))∧∃ nd' pl' nv' kv',My w' B nb (N ++M) (P ++Q) nd' pl' (nv ++nv') (kv ++kv')∧Nk B nb nd pl w nd' pl' w'∧∀ j,(hj:j < kv'.length)→∀ q,kv'[j].ownBlock=some q→w.heap.size≤q
def AdV (B nb:Nat) (w0:World) (v:Value) (fl:Nat→List Nd) (Q:List Int) (n:Nat):Prop:=
 ∀ (N:List Nd) (P:List Int) (nd pl:Value) (nv kv:List Value) (w:World),Below B w0 w→My w B nb N P nd pl nv kv→N.length+n≤65535→P.length+n≤65535→Calls Tryz.prog 87 #[.pointer (some ⟨nb,0,none⟩),v] w (AdO B nb N P nd pl nv kv (fl N.length) Q w)
structure Kc where
 v:Value
 f:Nat→List Nd
 Q:List Int
 n:Nat
def Yu:List Kc→Nat→List Nd
 | [],_=> []
 |k ::K,b=>k.f b ++Yu K (b+k.n)
def Yv:List Kc→Nat→List Int
 | [],_=> []
 |k ::K,b=>((b+k.n - 1 :Nat):Int) ::Yv K (b+k.n)
def Yw:List Kc→List Int
 | []=> []
 |k ::K=>k.Q ++Yw K
def Ql:List Kc→Nat
 | []=>0
 |k ::K=>k.n+Ql K
theorem Xd (x:Kc):∀ (K:List Kc) (b:Nat),Yu (K ++ [x]) b=Yu K b ++x.f (b+Ql K)∧Yv (K ++ [x]) b=Yv K b ++ [((b+Ql K+x.n - 1 :Nat):Int)]∧Yw (K ++ [x])=Yw K ++x.Q∧Ql (K ++ [x])=Ql K+x.n
 | [],b=>by simp[Yu,Yv,Yw,Ql]
 |k ::K,b=>by
  obtain ⟨h1,h2,h3,h4⟩:=Xd x K (b+k.n);simp only[List.cons_append,Yu,Yv,Yw,Ql,h1,h2,h3,h4,zC,Nat.add_assoc,and_self]
def Kc.ok (B nb:Nat) (w0:World) (k:Kc):Prop:=(∃ t u,k.v= .iface t u)∧AdV B nb w0 k.v k.f k.Q k.n∧(∀ b,(k.f b).length=k.n)∧k.Q.length=k.n
theorem VQ {B a:Nat}{c:World} :∀ (K:List Kc) (b:Nat),(∀ k∈K,k.ok B a c)→(Yu K b).length=Ql K∧(Yw K).length=Ql K∧(Yv K b).length=K.length
 | [],b,_=>⟨rfl,rfl,rfl⟩
 |k ::K,b,h=>by
  obtain ⟨h1,h2,h3⟩:=VQ K (b+k.n) fun x hx=>h x (zY _ hx);obtain ⟨_,_,d,f⟩:=h k zT;simp[Yu,Yv,Yw,Ql,h1,h2,h3,d,f]
theorem Aci {K:List Kc} :∀ (k:Nat),Ql (K.take k)≤Ql K:=by
 induction K with
 |nil=>intro k;simp[Ql]
 |cons x K a=>intro k;cases k with | zero=>simp[Ql] | succ k=>have:=a k;simp[Ql];omega
theorem EW {lo:Nat}{a b:List Value}(d:∀ j,(c:j < a.length)→∀ q,a[j].ownBlock=some q→lo≤q)(f:∀ j,(c:j < b.length)→∀ q,b[j].ownBlock=some q→lo≤q):∀ j,(c:j < (a ++b).length)→∀ q,(a ++b)[j].ownBlock=some q→lo≤q:=fun j c q hq=>by
 by_cases h:j < a.length
 ·rw[zx h] at hq;exact d j h q hq
 ·rw[List.getElem_append_right (by omega)] at hq;exact f _ (by simp at c;omega) q hq
theorem GE {lo:Nat}{v:Value}(h:∀ q,v.ownBlock=some q→lo≤q):∀ j,(a:j < [v].length)→∀ q, [v][j].ownBlock=some q→lo≤q:=fun j a q hq=>by
 have b:j=0:=by simp at a;exact a
 subst b;exact h q hq
theorem Cl {lo hi:Nat}{a:List Value}(c:∀ j,(b:j < a.length)→∀ q,a[j].ownBlock=some q→hi≤q)(h:lo≤hi):∀ j,(b:j < a.length)→∀ q,a[j].ownBlock=some q→lo≤q:=fun j b q hq=>zD h (c j b q hq)
set_option maxHeartbeats 3200000
theorem Acj (B d:Nat)(aw:World)(T:TypeId)(v:Value)(i:Int)(K:List Kc)(ax:List Int→Nd)(a9:∀ ks,(ax ks).kids=ks)(hk:KdX T v (K.map Kc.v))(hp:PlX T v i)(bS:K.length≤3)(bT:Hid (∀ ks w,Below B aw w→Calls Tryz.prog 118 #[.iface T v] w (NdA (ax ks) w)))(aK:Hid (∀ k∈K,k.ok B d aw)):
  AdV B d aw (.iface T v) (fun b=>Yu K b ++ [ax (Yv K b)]) (Yw K ++ [i]) (Ql K+1):=by
 intro N P nd ay M ah w ba aL cK cL;obtain ⟨cM,cN,cO,hk,az,ai⟩:=hk;obtain ⟨cP,cQ,cS,hp,⟨bU,bV,bW⟩,aM⟩:=hp;have bX:=Ab (Js az.1 az.2.1 az.2.2);have ai:=Ab ai;have aM:=Ab aM;have bb:=Ab ba;have cT:=aL.row.lt;have aA:B≤w.heap.size:=by have:=aL.low;omega
 obtain ⟨bY,bZ,b0,b3,b4⟩:=info_parts Vo;obtain ⟨bc,bd,bf,bg,bh⟩:=info_parts Aax;have b5: Tryz.prog.types.size+Made.depth= 442:=by kernel_rfl
 obtain ⟨m,aN⟩:∃ m,m=K.length:=⟨_,rfl⟩
 have cU:m≤3:=by omega
 have bi:=Ab aN;have b6:=Ab a9;have bj:(K.map Kc.v).length=m:=by rw[zV,aN]
 unfold KdA at ai;rw[bj] at ai;clear ba aN az a9 bj bS;go_enter Tryz.func87,Tryz.ntmps87
 go_wp2_with fail
 rw[Aa bX,Oper.upon_enter];refine (Aa ai _).mono ?_;rintro r b7 ⟨a,rfl,bk,aO⟩;have b8:Kn B d a w nd ay N P nd ay (M ++ []) (ah ++ []) (.slice none 0 0) [] (K.map Kc.v) b7:=⟨by rw[zr,zr];exact aL.below aO,Nk.of_all aO aA,bk,World.ownsRow_nil _ _ _ _,fun q hq=>by cases hq⟩
 clear aO bk;dsimp only;go_wp2_with fail
 go_loopw [5,14] (fun b9 j wr=>∃ (k:Nat) (c:List Nd) (l:List Int) (ab aj:Value) (S U:List Value) (ks:List Int),k≤m∧j= .int .i64 k∧Hid (c=N ++Yu (K.take k) N.length∧l=P ++Yw (K.take k)∧ks=Yv (K.take k) N.length∧∀ j,(W:j < U.length)→∀ q,U[j].ownBlock=some q→w.heap.size≤q)∧Kn B d a w nd ay c l ab aj (M ++S) (ah ++U) b9 ks (K.map Kc.v) wr) (fun _ j _=>m - (intOf j).toNat)
 case atStart=>exact ⟨0,N,P,nd,ay, [], [], [],zF _,rfl,Ab ⟨by simp[Yu],by simp[Yw],by simp[Yv],fun j W=>absurd W (by simp)⟩,b8⟩
 case round=>
  obtain ⟨k,c,l,ab,aj,S,U,ks,hk,rfl,aB,o⟩:=hrel;by_cases ac:k < m
  ·have cV:(k:Int) < (m:Int):=by omega
   have aC:k < K.length:=by rw[← Aa bi];exact ac
   obtain ⟨⟨t,u,ev⟩,V,bl,ca⟩:=Aa aK _ (zO aC);obtain ⟨g,rfl,bm⟩:=o.R.at (k:=k) (by rw[zV];exact aC);rw[List.getElem_map,ev] at bm;rw[ev] at V;obtain ⟨e1,e2,e3,e4⟩:=Aa aB;obtain ⟨X,q2,q3⟩:=VQ (K.take k) N.length fun x hx=>Aa aK x (List.mem_of_mem_take hx);obtain ⟨aP,aQ,aR,bn⟩:=Xd K[k] (K.take k) N.length;rw[← zf aC] at aP aQ aR bn;have cb:=Aci (K:=K) (k+1);have aS:c.length=N.length+Ql (K.take k):=by rw[e1,zA,X]
   have cc:l.length=P.length+Ql (K.take k):=by rw[e2,zA,q2]
   have bo:ks.length=k:=by rw[e3,q3,zb];omega
   have b1:c.length+K[k].n≤65535:=by omega
   have b2:l.length+K[k].n≤65535:=by omega
   have cW:k≤65535:=by omega
   have F:=Ab (show c ++K[k].f c.length=N ++Yu (K.take (k+1)) N.length∧l ++K[k].Q=P ++Yw (K.take (k+1))∧ks ++ [((c.length+(K[k].f c.length).length - 1 :Nat):Int)]=Yv (K.take (k+1)) N.length from ⟨by rw[aP,aS,e1,zC],by rw[aR,e2,zC],by rw[aQ,bl,aS,e3]⟩);have cd:=Ab e4;have bp:=Ab ac;have bq:=Ab bo;obtain ⟨cX,cY,ce,_⟩:=Ad o.O;clear e1 e2 e3 e4 X q2 q3 aP aQ aR bn cb aS cc bo aB bl ca ac;generalize K[k].f=br at V F;generalize K[k].Q=cf at V F;generalize K[k].n=nn at V b1 b2;clear aC ev;have cg:=Ab V;clear V;subst ce;go_wp2_with fail
   refine (Aa cg _ _ _ _ _ _ _ ((Aa bb).trans o.K.low) o.C b1 b2).mono ?_;rintro r bs ⟨rfl,ch,ci,cZ,c0,bt,Kz,aT⟩;have Y:=o.call bt Kz aT;have cj:=o.K.low.size;have ck:=Ab (EW (Aa cd) (Cl aT cj));rw[zC,zC] at Y;clear bt Kz aT o bm;generalize ((c.length+(br c.length).length - 1 :Nat):Int)=a1 at F ⊢;generalize c ++br c.length=cl at F Y;generalize l ++cf=cm at F Y;dsimp only;go_wp2_with (at_builtin;refine wpList_append_lies _ rfl _ _ 24 rfl w.heap.size 3 bc (.int .i64 0) 1 8 Tryz.underlying24 bd bf bg bh rfl (by decide) _ _ _ rfl (World.ownsRow.alloc Y.O _) ⟨bs.heap.size,0,none⟩ 1 1 [.int .i64 a1] rfl rfl ?c1 ?c2 (by decide) ?c3 ?c4 ?c5 (bs.heap.size+1) (by simp) ?_)
   case c1=>exact Bj _ _ _ _ (by simp)
   case c2=>intro u H;simp at H;subst H;rfl
   case c3=>unfold maxLen;have:=Aa bq;omega
   case c4=>have:=Aa bq;omega
   case c5=>have:=Y.K.low.size;simp;omega
   intro c6 c8 c9 bu bv bw cn;have co:=Y.app aA bu bv bw;clear Y bu bv bw cn;go_wp2_with fail
   go_roundw
   case rel=>exact ⟨k+1,cl,cm,ch,ci,_,_,_,Aa bp,by go_num,Ab ⟨(Aa F).1,(Aa F).2.1,(Aa F).2.2,Aa ck⟩,co⟩
   case measure=>have:=Aa bp;simp[intOf];omega
  ·obtain rfl:k=m:=by omega
   obtain ⟨e1,e2,e3,e4⟩:=Aa aB;rw[Aa bi,z3] at e1 e2 e3;obtain ⟨X,q2,q3⟩:=VQ K N.length (Aa aK);have da:c.length+1≤65535:=by rw[e1,zA,X];omega
   have db:l.length+1≤65535:=by rw[e2,zA,q2];omega
   have cp:=Ab (And.intro e1 (And.intro e2 (And.intro e3 (And.intro e4 (And.intro X q2)))));obtain ⟨p,s,rfl,_⟩:=Ad o.O;clear e1 e2 e3 e4 X q2 q3 aB ac;go_wp2_with fail
   obtain ⟨x,aD⟩:∃ x:Nd,x=ax ks:=⟨_,rfl⟩
   have cq:=Ab (show ∀ w,Below B aw w→Calls Tryz.prog 118 #[.iface T v] w (NdA x w) from fun w h=>by rw[aD];exact Aa bT _ w h);have hx:x.kids=ks:=by rw[aD];exact Aa b6 _
   have cr:=Ab aD;clear aD;have cs:=Ab ((Aa bb).trans o.K.low);have bx:B≤wr.heap.size:=zD aA o.K.low.size;refine (Aa cq _ (Aa cs)).mono ?_;rintro r w2 ⟨⟨u,y,rfl,aE⟩,ak⟩;have bz:=o.C.below ak;have bA:=o.K.trans (Nk.of_all ak bx);have aU:=Ac (w':=w2) o.O (fun q hq=>ak.block q (o.O.lt q hq).2);have ct:=ak.size;have al:=(Below.refl w2.heap.size w2).alloc NLN (.cells #[.int .i64 x.op,.int .i64 x.num,.string x.text,.slice u x.names.length y,.slice p ks.length s] 68);have aF:=Al.new w2 #[.int .i64 x.op,.int .i64 x.num,.string x.text,.slice u x.names.length y,.slice p ks.length s] 68;have A:=bz.below al;have aV:=bA.trans (Nk.of_all al (zD bx ct));have aW:=Ac (w':=w2.alloc (.cells #[.int .i64 x.op,.int .i64 x.num,.string x.text,.slice u x.names.length y,.slice p ks.length s] 68)) aE (fun q hq=>al.block q (aE.lt q hq).2);have aG:=Ac (w':=w2.alloc (.cells #[.int .i64 x.op,.int .i64 x.num,.string x.text,.slice u x.names.length y,.slice p ks.length s] 68)) aU (fun q hq=>al.block q (aU.lt q hq).2);have cu:w2.heap.size < (w2.alloc (.cells #[.int .i64 x.op,.int .i64 x.num,.string x.text,.slice u x.names.length y,.slice p ks.length s] 68)).heap.size:=by simp
   have cv:=Ab (show ∀ j,(W:j < ((M ++S)).length)→∀ q,((M ++S))[j].ownBlock=some q→(Value.slice u x.names.length y).ownBlock≠some q from fun j W q hq e=>by have:=(aE.lt q e).1;have:=(o.C.nodes.lts.2.1 j W q hq).2;omega);clear aE aU bz bA ak al;dsimp only;go_wp2_with fail
   generalize w2.alloc (.cells #[.int .i64 x.op,.int .i64 x.num,.string x.text,.slice u x.names.length y,.slice p ks.length s] 68)=z at A aV aW aG aF cu ⊢;generalize w2.heap.size=ao at aF ⊢;obtain ⟨aq,ar,I,_⟩:=Ad A.nodes.own;have aX:=Ab I;clear I;apply Adq
   ·intro cw;have I:=Aa aX;obtain ⟨bB,e1,e2,e3,e4⟩:=E9 aF;have u0:z.cell? ⟨d,0,none⟩=some (ab):=A.row.cell 0;rw[I] at u0;have bC:=A.row.frozen 0;have bD:=World.news_of_block (heap_alloc_new z (.cells #[.int .i64 x.op,.int .i64 x.num,.string x.text,.slice u x.names.length y,.slice p ks.length s] 68));have cx:z.drew.cell? ⟨d,0,none⟩=some (.slice aq (c).length ar)∧z.drew.frozen? ⟨d,0,none⟩=false:=⟨u0,bC⟩
    have d1:z.drew.cell? ⟨ao,0,none⟩=some (.int .i64 x.op):=bB;have d2:z.drew.cell? ⟨ao,1,none⟩=some (.int .i64 x.num):=e1;have d3:z.drew.cell? ⟨ao,2,none⟩=some (.string x.text):=e2;have d4:z.drew.cell? ⟨ao,3,none⟩=some (.slice u x.names.length y):=e3;have d5:z.drew.cell? ⟨ao,4,none⟩=some (.slice p ks.length s):=e4;have bE:(z.alloc (.cells #[.int .i64 x.op,.int .i64 x.num,.string x.text,.slice u x.names.length y,.slice p ks.length s] 68)).drew.ownsRow B 68 5 (.slice aq (c).length ar) (c).length (JY (c) ((M ++S)) ((ah ++U))):=by
     have:=A.nodes.own;rw[I] at this;exact (World.ownsRow.alloc this _).drew
    have aH:Al (z.alloc (.cells #[.int .i64 x.op,.int .i64 x.num,.string x.text,.slice u x.names.length y,.slice p ks.length s] 68)).drew d #[ab,aj] 147:=⟨(A.row.alloc (.cells #[.int .i64 x.op,.int .i64 x.num,.string x.text,.slice u x.names.length y,.slice p ks.length s] 68)).out⟩
    have cy:(z.alloc (.cells #[.int .i64 x.op,.int .i64 x.num,.string x.text,.slice u x.names.length y,.slice p ks.length s] 68)).drew.cell? ⟨d,0,none⟩=some (.slice aq (c).length ar):=by
     have:=aH.cell 0;rw[I] at this;exact this
    have bF:(Value.slice aq (c).length ar).ownBlock≠some d:=by rw[← I];exact Ae A.row A.nodes.own (by decide)
    have cz:B≤z.heap.size:=by have:=A.row.lt;have:=A.low;omega
    clear bB e1 e2 e3 e4 u0 bC I;go_region_law (refine step_append_lies _ rfl _ _ 22 rfl B 68 bY (.agg #[.int .i64 0,.int .i64 0,.string ByteArray.empty,.slice none 0 0,.slice none 0 0]) 5 80 Tryz.underlying22 bZ b0 b3 b4 rfl (by decide) (.slice aq (c).length ar) (c).length (JY (c) ((M ++S)) ((ah ++U))) rfl bE ⟨z.heap.size,0,none⟩ 1 1 [.int .i64 x.op,.int .i64 x.num,.string x.text,.slice u x.names.length y,.slice p ks.length s] rfl rfl bD (by intro u H;simp at H;rcases H with rfl | rfl | rfl | rfl | rfl <;> rfl) (by decide) (by unfold maxLen;omega) (by omega) (by simp;omega) _ rfl ?_;intro g7 c7 aY bG Z hat ac;have aZ:Al aY d #[ab,aj] 147:=⟨(Z.block d aH.lt (fun e=>bF e.symm)).trans aH.out⟩;have aI:=aZ.cell 0;have a0:=aZ.frozen 0)
    all_goals
     have bH:(z.alloc (.cells #[.int .i64 x.op,.int .i64 x.num,.string x.text,.slice u x.names.length y,.slice p ks.length s] 68)).grownBy aY (ab).ownBlock:=by rw[Aa aX];exact ⟨Z.os,Z.tape,Z.output,Z.size,Z.block⟩
     obtain ⟨ad,au⟩:=A.pushN (g7:=g7) (c7:=c7) (x:=x) (u:= .slice u x.names.length y) (k:= .slice p ks.length s) _ cz (H6 aW (by omega)) (by rw[hx];exact H6 aG (by omega)) (Aa cv) (fun j W q hq e=>(o.ap q e).2 j W hq) (fun q hq=>(o.ap q hq).1) bH bG (by rw[Aa aX];exact hat.imp id (fun e=>by rw[e];show (z.alloc _).heap.size=_;simp));have ae:=aV.trans au;have a2:=Ab (show ∀ q,(.slice p ks.length s:Value).ownBlock=some q→w.heap.size≤q from fun q hq=>(aG.lt q hq).1);clear bG Z hat ac aZ aH cy cx d1 d2 d3 d4 d5 bD bE bH au;clear aI a0;generalize aY.setCell ⟨d,0,none⟩ (.slice (some ⟨g7,0,none⟩) ((c).length+1) c7)=E at ad ae ⊢;clear bF;revert a2;revert ae;revert ad;revert E;revert c7;revert g7;exact cw.out
   intro g7 c7 E ad ae a2;clear aF A aV aW aG;go_wp2_with fail
   obtain ⟨af,ag,aJ,_⟩:=Ad ad.places;have av:=Ab aJ;have J:=ad.below (Gi E);have bI:=ae.trans (Nk.of_all (Gi E) (zD aA ae.low.size));have cA:E.drew.cell? ⟨d,1,none⟩=some (.slice af (l).length ag):=by have:=J.row.cell 1;rw[aJ] at this;exact this
   have cB:=J.row.frozen 1;have cC:(Value.slice af (l).length ag).ownBlock≠some d:=by rw[← aJ];exact Ae J.row J.places (by decide)
   have cD:=Ab (Aa aM E.drew);have bJ:B≤E.drew.heap.size:=by have:=J.row.lt;have:=J.low;omega
   clear aJ ad ae;go_region_law (first
    |(refine Yx rfl _ _ _ rfl T (v) rfl _ b5 _ _ hp _ bU bV bW (fun v' w'=>v'= .int .i64 i∧Below E.heap.size E.drew w') ((Aa cD).mono (fun r w' h=>⟨_,h.1,rfl,h.2⟩)) ?_;rintro dc L ⟨rfl,a3⟩;have aa:=J.below a3;have bK:=bI.trans (Nk.of_all a3 bJ);have cE:B≤L.heap.size:=zD bJ a3.size;have cF:L.cell? ⟨d,1,none⟩=some (.slice af (l).length ag):=(by have:=aa.row.cell 1;rw[Aa av] at this;exact this);have cG:=aa.row.frozen 1;have bL:(L.alloc (.cells #[.int .i64 i] 3)).ownsRow B 3 1 (.slice af (l).length ag) (l).length (Ar (l)):=(by have:=aa.places;rw[Aa av] at this;exact World.ownsRow.alloc this _);have cH:(L.alloc (.cells #[.int .i64 i] 3)).cell? ⟨d,1,none⟩=some (.slice af (l).length ag):=(by have:=(aa.row.alloc (.cells #[.int .i64 i] 3)).cell 1;rw[Aa av] at this;exact this);have bM:=World.news_of_block (heap_alloc_new L (.cells #[.int .i64 i] 3));have a4:Al (L.alloc (.cells #[.int .i64 i] 3)) d #[_,_] 147:=aa.row.alloc (.cells #[.int .i64 i] 3))
    |(refine step_append_lies _ rfl _ _ 24 rfl B 3 bc (.int .i64 0) 1 8 Tryz.underlying24 bd bf bg bh rfl (by decide) (.slice af (l).length ag) (l).length (Ar (l)) rfl bL ⟨L.heap.size,0,none⟩ 1 1 [.int .i64 i] rfl rfl bM (by intro u H;simp at H;rcases H with rfl;rfl) (by decide) (by unfold maxLen;omega) (by omega) (by simp;omega) _ rfl ?_;intro g6 bN a5 bO a6 bP cI;have a7:Al a5 d #[_,_] 147:=⟨(a6.block d a4.lt (fun e=>cC e.symm)).trans a4.out⟩;have aI:=a7.cell 1;have a0:=a7.frozen 1))
   all_goals
    have bQ:(L.alloc (.cells #[.int .i64 i] 3)).grownBy a5 (aj).ownBlock:=by rw[Aa av];exact a6
    obtain ⟨a8,bR⟩:=aa.pushP (g7:=g6) (c7:=bN) _ i cE bQ bO (by rw[Aa av];exact bP.imp id (fun e=>by rw[e];simp));have au:=bK.trans bR;clear bO a6 bP cI bQ cA cB cF cG cH aI a0 a7 a4 bM bL J aa bI bK bR;generalize a5.setCell ⟨d,1,none⟩ (.slice (some ⟨g6,0,none⟩) ((l).length+1) bN)=cJ at a8 au ⊢;have aI:cJ.cell? ⟨d,0,none⟩=some (.slice (some ⟨g7,0,none⟩) ((c).length+1) c7):=a8.row.cell 0;go_wp2_with fail
    go_ret
    obtain ⟨e1,e2,e3,e4,X,q2⟩:=Aa cp;refine ⟨congrArg (fun m:Nat=>Ending.returned (.int .i64 (m:Int))) ?_,_,_,S ++ [.slice u x.names.length y],U ++ [.slice p ks.length s], ?_,au,EW e4 (GE (Aa a2))⟩
    ·simp only[zA,List.length_cons,List.length_nil,e1];omega
    ·rw[← zC N,← zC P,← zC M,← zC ah,← e1,← e2,← e3,← Aa cr];exact a8
theorem Am:∀ (e:Ex) (b:Nat),(BH e b).length=e.cnt
 | .int ..,_=>rfl
 | .text ..,_=>rfl
 | .bool ..,_=>rfl
 | .set ..,_=>rfl
 | .name ..,_=>rfl
 | .attr ..,_=>rfl
 | .lett ..,_=>rfl
 | .un _ _ k,b=>by simp[BH,Ex.cnt,Am k]
 | .bin _ _ l r,b=>by simp[BH,Ex.cnt,Am l,Am r];omega
 | .ite _ c t e,b=>by simp[BH,Ex.cnt,Am c,Am t,Am e];omega
theorem Bn:∀ (e:Ex),(DG e).length=e.cnt
 | .int .. =>rfl
 | .text .. =>rfl
 | .bool .. =>rfl
 | .set .. =>rfl
 | .name .. =>rfl
 | .attr .. =>rfl
 | .lett .. =>rfl
 | .un _ _ k=>by simp[DG,Ex.cnt,Bn k]
 | .bin _ _ l r=>by simp[DG,Ex.cnt,Bn l,Bn r];omega
 | .ite _ c t e=>by simp[DG,Ex.cnt,Bn c,Bn t,Bn e];omega
def Ex.sok (w:World):Ex→Prop
 | .set _ a n c ss=>Bg w a n c ss∧ss.length≤1048576
 | .un _ _ k=>k.sok w
 | .bin _ _ l r=>l.sok w∧r.sok w
 | .ite _ c t e=>c.sok w∧t.sok w∧e.sok w
 |_=>True
theorem Ex.sok_below {w w':World}{B:Nat}(a:Below B w w')(hB:w.heap.size≤B):∀ (e:Ex),e.sok w→e.sok w'
 | .int ..,h=>h
 | .text ..,h=>h
 | .bool ..,h=>h
 | .set ..,h=>⟨h.1.below a hB,h.2⟩
 | .name ..,h=>h
 | .attr ..,h=>h
 | .lett ..,h=>h
 | .un _ _ k,h=>k.sok_below (w:=w) a hB h
 | .bin _ _ l r,h=>⟨l.sok_below a hB h.1,r.sok_below a hB h.2⟩
 | .ite _ c t e,h=>⟨c.sok_below a hB h.1,t.sok_below a hB h.2.1,e.sok_below a hB h.2.2⟩
def Ex.kc (e:Ex):Kc:=⟨e.val,BH e,DG e,e.cnt⟩
theorem VR (e:Ex)(b:Nat):BH e b=Yu (e.kids.map Ex.kc) b ++ [{ exN e with kids:=Yv (e.kids.map Ex.kc) b }]∧DG e=Yw (e.kids.map Ex.kc) ++ [e.pos]∧e.cnt=Ql (e.kids.map Ex.kc)+1:=by
 cases e <;> simp[BH,DG,Ex.kids,Ex.kc,Yu,Yv,Yw,Ql,Ex.cnt,Ex.pos,exN] <;> omega
theorem Ex.sok_kid {w:World}{e:Ex}(h:e.sok w):∀ k∈e.kids,k.sok w:=by
 cases e <;> simp[Ex.kids] <;> simp_all[Ex.sok]
theorem Ack (B:Nat)(d:World)(hB:d.heap.size≤B)(e:Ex)(h:e.sok d)(ks:List Int)(w:World)(f:Below B d w):Calls Tryz.prog 118 #[e.val] w (NdA { exN e with kids:=ks } w):=by
 by_cases hs:∃ i a n c b,e= .set i a n c b
 ·obtain ⟨i,a,n,c,b,rfl⟩:=hs;exact AaU i a n c b w (h.1.below f hB) h.2
 ·exact Aet e (fun i a n c b he=>hs ⟨i,a,n,c,b,he⟩) w
theorem TY (B c:Nat)(a:World)(hB:a.heap.size≤B)(e:Ex)(h:e.sok a):AdV B c a e.val (BH e) (DG e) e.cnt:=by
 obtain ⟨T,v,ev,hk,hp⟩:=e.mth;have d:∀ k∈e.kids.map Ex.kc,k.ok B c a:=fun k hk=>by
  obtain ⟨x,hx,rfl⟩:=zQ.1 hk;have:=e.kids_lt x hx;exact ⟨x.form,TY B c a hB x (Ex.sok_kid h x hx),Am x,Bn x⟩
 have:=Acj B c a T v e.pos (e.kids.map Ex.kc) (fun ks=>{ exN e with kids:=ks }) (fun _=>rfl) (by rw[List.map_map];exact hk) hp (by rw[zV];exact e.kids_3) (Ab fun ks w f=>by rw[← ev];exact Ack B a hB e h ks w f) (Ab d);rw[← ev,← funext fun b=>(VR e b).1,← (VR e 0).2.1,← (VR e 0).2.2] at this;exact this
termination_by e.cnt
theorem Acl (a:Nat)(w:World):Calls Tryz.prog 87 #[.pointer (some ⟨a,0,none⟩),.nilIface] w fun r w'=>r= .returned (.int .i64 (-1))∧w'=w:=by
 go_enter Tryz.func87,Tryz.ntmps87
 go_wp2_with fail
 go_ret
 exact ⟨rfl,rfl⟩
end Go.Proofs.YtchakjeegneeoaaGreatDoor
