/-
  QO, QP, QQ, QR, QS0, PPB, PPC, PPD. Own work.
-/
import Derived.Test.YtffkofkjpckmpaaGreatDoorMXAJ
import Derived.Test.YtffkofkjpckmpaaGreatDoorMXAO
import Derived.Test.YtffkofkjpckmpaaGreatDoorMXAM
import Derived.Deep.RegionWith
import Derived.Deep.RegionHeld3
import Derived.Test.YtffkofkjpckmpaaGreatDoorMXBA
import Derived.Test.YtffkofkjpckmpaaGreatDoorMXAZ
namespace Go.Proofs.YtffkofkjpckmpaaGreatDoor
set_option maxRecDepth 100000
set_option maxHeartbeats 1600000
open Go.RowKit
set_option linter.unusedVariables false
theorem SZ (op:Int)(w:World)(a: 1≤op∧op≤27):
  Calls Tryz.prog 114 #[.int .i64 op] w fun e w'=>e= .returned (.int .i64 (Ca op))∧w'=w:=by
 have:op=1∨op=2∨op=3∨op=4∨op=5∨op=6∨op=7∨op=8∨op=9∨op=10∨op=11∨op=12∨op=13∨op=14∨op=15∨op=16∨op=17∨op=18∨op=19∨op=20∨op=21∨op=22∨op=23∨op=24∨op=25∨op=26∨op=27:=by omega
 rcases this with rfl | rfl | rfl | rfl | rfl | rfl | rfl | rfl | rfl | rfl | rfl | rfl | rfl | rfl | rfl | rfl | rfl | rfl | rfl | rfl | rfl | rfl | rfl | rfl | rfl | rfl | rfl
 all_goals
  go_enter Tryz.func114,Tryz.ntmps114
  go_wp2
  go_ret
  exact ⟨rfl,rfl⟩
def sgV:Array Value:=(SE.map Value.string).toArray
def sg (k:Nat):ByteArray:=SE.getD k ⟨#[]⟩
theorem ZI {k:Nat}(h:k < 16):sgV[k]? =some (.string (sg k)):=by
 match k,h with
 | 0,_=>rfl
 | 1,_=>rfl
 | 2,_=>rfl
 | 3,_=>rfl
 | 4,_=>rfl
 | 5,_=>rfl
 | 6,_=>rfl
 | 7,_=>rfl
 | 8,_=>rfl
 | 9,_=>rfl
 | 10,_=>rfl
 | 11,_=>rfl
 | 12,_=>rfl
 | 13,_=>rfl
 | 14,_=>rfl
 | 15,_=>rfl
 |k+16,h=>exact absurd h (by omega)
theorem Aba:∀ (j k:Fin 16),((sg k).data.toList==(sg j).data.toList)=decide (j=k):=by decide
theorem AcY {j k:Nat}(a:j < 16)(hk:k < 16):((sg k).toList==(sg j).toList)=decide (j=k):=by
 rw[zZ,zZ];have:=Aba ⟨j,a⟩ ⟨k,hk⟩;simpa using this
theorem Xy (k:Nat)(hk:k < 16)(w:World):
  Calls Tryz.prog 81 #[.string (sg k)] w fun e w'=>e= .returned (.int .i64 (11+k))∧Below w.heap.size w w':=by
 have R:Am (w.alloc (.cells #[.string ⟨#[43]⟩,.string ⟨#[45]⟩,.string ⟨#[42]⟩,.string ⟨#[47]⟩,.string ⟨#[37]⟩,.string ⟨#[124]⟩,.string ⟨#[38]⟩,.string ⟨#[92]⟩,.string ⟨#[61,61]⟩,.string ⟨#[33,61]⟩,.string ⟨#[60]⟩,.string ⟨#[60,61]⟩,.string ⟨#[105,110]⟩,.string ⟨#[119,105,116,104,105,110]⟩,.string ⟨#[97,110,100]⟩,.string ⟨#[111,114]⟩] 9)) w.heap.size sgV 9:=Am.new w sgV 9;have b:=(Below.refl w.heap.size w).alloc NLN (.cells #[.string ⟨#[43]⟩,.string ⟨#[45]⟩,.string ⟨#[42]⟩,.string ⟨#[47]⟩,.string ⟨#[37]⟩,.string ⟨#[124]⟩,.string ⟨#[38]⟩,.string ⟨#[92]⟩,.string ⟨#[61,61]⟩,.string ⟨#[33,61]⟩,.string ⟨#[60]⟩,.string ⟨#[60,61]⟩,.string ⟨#[105,110]⟩,.string ⟨#[119,105,116,104,105,110]⟩,.string ⟨#[97,110,100]⟩,.string ⟨#[111,114]⟩] 9);have c:=Ab (fun j (d:j < 16)=>AcY (k:=k) d hk);generalize sg k=s at c ⊢;go_enter Tryz.func81,Tryz.ntmps81
 go_wp2
 generalize w.alloc (.cells #[.string ⟨#[43]⟩,.string ⟨#[45]⟩,.string ⟨#[42]⟩,.string ⟨#[47]⟩,.string ⟨#[37]⟩,.string ⟨#[124]⟩,.string ⟨#[38]⟩,.string ⟨#[92]⟩,.string ⟨#[61,61]⟩,.string ⟨#[33,61]⟩,.string ⟨#[60]⟩,.string ⟨#[60,61]⟩,.string ⟨#[105,110]⟩,.string ⟨#[119,105,116,104,105,110]⟩,.string ⟨#[97,110,100]⟩,.string ⟨#[111,114]⟩] 9)=f at R b ⊢;go_loop [7] (fun i=>∃ j:Nat,j≤k∧i= .int .i64 j) (fun i=>16 - (intOf i).toNat)
 case atStart=>exact ⟨0,by omega,rfl⟩
 case round=>
  obtain ⟨j,d,rfl⟩:=hrel;have g:(j:Int) < 16:=by omega
  have hc:=(R.cell j).trans (ZI (by omega));have h:=Aa c j (by omega);generalize sg j=x at hc h;by_cases e:j=k
  ·rw[zR e] at h;have a:=Ab e;clear e;go_wp2
   go_ret
   exact ⟨by rw[← Aa a];rfl,b⟩
  ·rw[zK e] at h;have a:=Ab e;clear e;go_wp2
   go_round
   case rel=>exact ⟨j+1,by have:=Aa a;omega,by go_num⟩
   case measure=>simp[intOf];omega
theorem UW (op:Int)(l: 11≤op∧op≤26)(w:World):
  Calls Tryz.prog 115 #[.int .i64 op] w fun e w'=>e= .returned (.string (DW op))∧Below w.heap.size w w':=by
 obtain ⟨k,hk,rfl⟩:∃ k:Nat,k < 16∧op=11+(k:Int):=⟨(op - 11).toNat,by omega,by omega⟩
 have R:Am (w.alloc (.cells #[.string ⟨#[43]⟩,.string ⟨#[45]⟩,.string ⟨#[42]⟩,.string ⟨#[47]⟩,.string ⟨#[37]⟩,.string ⟨#[124]⟩,.string ⟨#[38]⟩,.string ⟨#[92]⟩,.string ⟨#[61,61]⟩,.string ⟨#[33,61]⟩,.string ⟨#[60]⟩,.string ⟨#[60,61]⟩,.string ⟨#[105,110]⟩,.string ⟨#[119,105,116,104,105,110]⟩,.string ⟨#[97,110,100]⟩,.string ⟨#[111,114]⟩] 9)) w.heap.size sgV 9:=Am.new w sgV 9;have a:=(Below.refl w.heap.size w).alloc NLN (.cells #[.string ⟨#[43]⟩,.string ⟨#[45]⟩,.string ⟨#[42]⟩,.string ⟨#[47]⟩,.string ⟨#[37]⟩,.string ⟨#[124]⟩,.string ⟨#[38]⟩,.string ⟨#[92]⟩,.string ⟨#[61,61]⟩,.string ⟨#[33,61]⟩,.string ⟨#[60]⟩,.string ⟨#[60,61]⟩,.string ⟨#[105,110]⟩,.string ⟨#[119,105,116,104,105,110]⟩,.string ⟨#[97,110,100]⟩,.string ⟨#[111,114]⟩] 9);have f:=Ab (show DW (11+(k:Int))=sg k by rw[DW,sg];congr 1;omega);rw[Aa f];clear l f;go_enter Tryz.func115,Tryz.ntmps115
 go_wp2_with fail
 have m:w.heap.size < (w.alloc (.cells #[.string ⟨#[43]⟩,.string ⟨#[45]⟩,.string ⟨#[42]⟩,.string ⟨#[47]⟩,.string ⟨#[37]⟩,.string ⟨#[124]⟩,.string ⟨#[38]⟩,.string ⟨#[92]⟩,.string ⟨#[61,61]⟩,.string ⟨#[33,61]⟩,.string ⟨#[60]⟩,.string ⟨#[60,61]⟩,.string ⟨#[105,110]⟩,.string ⟨#[119,105,116,104,105,110]⟩,.string ⟨#[97,110,100]⟩,.string ⟨#[111,114]⟩] 9)).heap.size:=by simp
 generalize w.alloc (.cells #[.string ⟨#[43]⟩,.string ⟨#[45]⟩,.string ⟨#[42]⟩,.string ⟨#[47]⟩,.string ⟨#[37]⟩,.string ⟨#[124]⟩,.string ⟨#[38]⟩,.string ⟨#[92]⟩,.string ⟨#[61,61]⟩,.string ⟨#[33,61]⟩,.string ⟨#[60]⟩,.string ⟨#[60,61]⟩,.string ⟨#[105,110]⟩,.string ⟨#[119,105,116,104,105,110]⟩,.string ⟨#[97,110,100]⟩,.string ⟨#[111,114]⟩] 9)=g at R a m ⊢;go_loopw [7] (fun i wr=>∃ j:Nat,j≤k∧i= .int .i64 j∧Below g.heap.size g wr) (fun i _=>16 - (intOf i).toNat)
 case atStart=>exact ⟨0,by omega,rfl,BRN⟩
 case round=>
  obtain ⟨j,s,rfl,b⟩:=hrel;have t:(j:Int) < 16:=by omega
  have hc:=((R.after b NLN).cell j).trans (ZI (by omega));have c:=Ab (Xy j (by omega));have h:=b.size;have u:=Ab (show sg k=sg k from rfl);by_cases e:j=k
  ·subst e;obtain ⟨x,hx⟩:∃ x,x=sg j:=⟨_,rfl⟩
   rw[← hx] at hc c;have n:=Ab hx;clear hx;go_wp2_with fail
   refine (Aa c _).mono ?_;rintro r o ⟨rfl,d⟩;have p:((11+(j:Int))== 11+(j:Int))=true:=beq_self_eq_true _;dsimp only;go_wp2_with fail
   go_ret
   exact ⟨by rw[← Aa n];rfl,(a.trans (b.mono a.size)).trans (d.mono (zL a.size h))⟩
  ·generalize sg j=x at hc c ⊢;have p:((11+(j:Int))== 11+(k:Int))=false:=zA.2 (by omega);have q:=Ab e;clear e;go_wp2_with fail
   refine (Aa c _).mono ?_;rintro r o ⟨rfl,d⟩;dsimp only;go_wp2_with fail
   go_roundw
   case rel=>exact ⟨j+1,by have:=Aa q;omega,by go_num,b.trans (d.mono h)⟩
   case measure=>simp[intOf];omega
set_option maxHeartbeats 800000
theorem UX {k:Nat}(h:k < 10):GB k=Lk (48+(k:Int)):=by
 have e:(48+(k:Int)).toNat=48+k:=by omega
 unfold GB Lk;rw[Lib.decDigits,dif_pos h,e];rfl
theorem ZJ {k:Nat}(h: 10≤k):GB k=GB (k / 10) ++GB (k % 10):=by
 apply Ij;rw[ByteArray.data_append];unfold GB;rw[Lib.decDigits,dif_neg (by omega)]
 conv=>rhs;rw[Lib.decDigits.eq_def (k % 10),dif_pos (by omega)]
 simp
theorem Nl (m:Nat)(x:Int){w:World}{a:Ending→World→Prop}(h:Calls Tryz.prog 63 #[.int .i64 m] w a)(e:x=m):Calls Tryz.prog 63 #[.int .i64 x] w a:=by rw[e];exact h
theorem Xz (k:Nat)(w:World)(hk:k≤9223372036854775807):
  Calls Tryz.prog 63 #[.int .i64 k] w fun e w'=>e= .returned (.string (GB k))∧Below w.heap.size w w':=by
 induction k using Nat.strongRecOn generalizing w with
 |_ k b=>
  by_cases h:k < 10
  ·have f:(k:Int) < 10:=by omega
   have j:(48+(k:Int)) < 256:=by omega
   have l:=OD;have a:=Ab (UX h);go_enter Tryz.func63,Tryz.ntmps63
   go_wp2
   go_ret
   exact ⟨by rw[Aa a];rfl,BRN.alloc NLN _⟩
  ·have f:(10 :Int)≤(k:Int):=by omega
   have a:=Ab (ZJ (k:=k) (by omega));have o:=IE (n:=k / 10) (by omega);have p:=IE (n:=k % 10) (by omega);have c:Hid (∀ (m:Nat),m < k→∀ (w:World),m≤9223372036854775807→Calls Tryz.prog 63 #[.int .i64 m] w fun e w'=>e= .returned (.string (GB m))∧Below w.heap.size w w'):=b;clear b;go_enter Tryz.func63,Tryz.ntmps63
   go_wp2_with fail
   refine (Nl (k / 10) _ (Aa c (k / 10) (by omega) w (by omega)) (by omega)).mono ?_;rintro e g ⟨rfl,d⟩;go_wp2_with fail
   refine (Nl (k % 10) _ (Aa c (k % 10) (by omega) g (by omega)) (by omega)).mono ?_;rintro e q ⟨rfl,i⟩;go_wp2_with fail
   go_ret
   exact ⟨by rw[Aa a];rfl,d.trans (i.mono d.size)⟩
def jn (first:Bool):List ByteArray→ByteArray
 | []=>⟨#[]⟩
 |x ::r=>(if first then ⟨#[]⟩ else ⟨#[34,44,32,34]⟩) ++x ++jn false r
theorem Wd (x:ByteArray):∀ (f:Bool) (l:List ByteArray),jn f (l ++ [x])=jn f l ++jn (f && l.isEmpty) [x]
 |f, []=>by simp[jn,FP]
 |f,y ::r=>by
  rw[List.cons_append,jn,jn,Wd x false r,zT];simp[ByteArray.append_assoc]
theorem QH:∀ (f:Bool) (l:List ByteArray),(∀ x∈l,x.size≤32)→(jn f l).size≤36 * l.length
 |f, [],_=>by simp[jn,ByteArray.size]
 |f,x ::r,h=>by
  have h1:=QH false r (fun y hy=>h y (zS _ hy));have h2:=h x (zQ ..);rw[jn];simp only[zD,List.length_cons];have:(if f=true then (⟨#[]⟩:ByteArray) else ⟨#[34,44,32,34]⟩).size≤4:=by cases f <;> simp[ByteArray.size]
  omega
theorem Acp:(⟨#[34]⟩:ByteArray) ++⟨#[44,32]⟩ ++⟨#[34]⟩=⟨#[34,44,32,34]⟩:=by decide
theorem LF:∀ (r:List ByteArray),(⟨#[34]⟩:ByteArray) ++AQ false r=jn false r ++⟨#[34]⟩
 | []=>by simp[AQ,jn,FP,Eo]
 |x ::r=>by
  have a:=LF r;rw[AQ,jn,← Acp];simp only[Bool.false_eq_true,if_false,zT];rw[a]
theorem UY {c:List ByteArray}(h:c≠ []):(⟨#[123,34]⟩:ByteArray) ++jn true c ++⟨#[34,125]⟩=Oi c:=by
 have e1:(⟨#[123,34]⟩:ByteArray)=⟨#[123]⟩ ++⟨#[34]⟩:=by decide
 have e2:(⟨#[34,125]⟩:ByteArray)=⟨#[34]⟩ ++⟨#[125]⟩:=by decide
 match c,h with
 |x ::r,_=>
  have d:=LF r;rw[Oi,AQ,jn,e1,e2];simp only[if_true,FP,zT];rw[← zT (a:=(⟨#[34]⟩:ByteArray)) (b:=AQ false r),d];simp only[zT]
theorem UZ (a:Option Addr)(n c:Nat)(d:List ByteArray)(w:World)(h:BL w a n c d)(h1:n≤64)(h2:∀ x∈d,x.size≤32):
  Calls Tryz.prog 30 #[.slice a n c,.string ⟨#[34,44,32,34]⟩] w fun e w'=>e= .returned (.string (jn true d))∧w'=w:=by
 have l:=Ab h.len;have m:=Ab h2;have e4:(⟨#[34,44,32,34]⟩:ByteArray).size=4:=rfl;have o:=Ab (fun (x:ByteArray)=>show jn false [x]=⟨#[34,44,32,34]⟩ ++x by simp[jn,Eo]);generalize (⟨#[34,44,32,34]⟩:ByteArray)=r at e4 o ⊢;clear h2;go_enter Tryz.func30,Tryz.ntmps30
 go_wp2
 go_loop [5,6,7,10] (fun s _ _ i=>∃ k:Nat,k≤n∧i= .int .i64 k∧s= .string (jn true (d.take k))) (fun _ _ _ i=>n - (intOf i).toNat)
 case atStart=>exact ⟨0,zN _,rfl,rfl⟩
 case round=>
  obtain ⟨k,hk,rfl,rfl⟩:=hrel;have p:=QH true (d.take k) (fun x hx=>Aa m x (yF hx));rw[zg] at p;by_cases t:k < n
  ·obtain ⟨b,z,u,_,hc⟩:=h.cells k t;subst u;have g:k < d.length:=by have:=Aa l;omega
   have v:(D0 d k).size≤32:=by rw[Cw _ k g];exact Aa m _ (zP g)
   have f:=Ab (show jn true (d.take (k+1))=jn true (d.take k) ++jn (decide (k=0)) [D0 d k] by
    rw[zx g,Wd,Cw _ k g]
    congr 2
    by_cases e:k=0
    ·subst e;rfl
    ·have:d.take k≠ []:=fun e2=>by have:=congrArg List.length e2;simp at this;rcases this with e3 | e3;omega;subst e3;simp at g
     rw[zK e,z2,List.isEmpty_eq_false_iff.2 this])
   generalize D0 d k=x at hc v f;generalize jn true (d.take k)=q at p f;by_cases h0:k=0
   ·have y: ¬ ((0 :Int) < (k:Int)):=by omega
    have j:=Ab (show jn true (d.take (k+1))=q ++x by rw[Aa f,zR h0];simp[jn,FP,Eo]);clear f h0;go_wp2
    go_round
    case rel=>exact ⟨k+1,by omega,by go_num,by rw[Aa j]⟩
    case measure=>simp[intOf];omega
   ·have y:(0 :Int) < (k:Int):=by omega
    have j:=Ab (show jn true (d.take (k+1))=q ++r ++x by rw[Aa f,zK h0,Aa o,zT]);clear f h0;go_wp2
    go_round
    case rel=>exact ⟨k+1,by omega,by go_num,by rw[Aa j]⟩
    case measure=>simp[intOf];omega
  ·have e1:d.take k=d:=zk (by have:=Aa l;omega);rw[e1];go_wp2
   go_ret
   exact ⟨rfl,rfl⟩
set_option maxHeartbeats 1600000
def InP (w:World) (a:Option Addr) (n c i:Nat) (op:Int) (pr:ByteArray):Prop:=
 ∀ (want:Int) (W:World),want≤Ca op→Below w.heap.size w W→Calls Tryz.prog 66 #[.slice a n c,.int .i64 i,.int .i64 want] W fun r w'=>r= .returned (.string pr)∧Below W.heap.size W w'
def Ov (w:World) (a:Option Addr) (n c i:Nat) (put:Int→ByteArray):Prop:=
 ∀ (want:Int) (W:World),Below w.heap.size w W→Calls Tryz.prog 66 #[.slice a n c,.int .i64 i,.int .i64 want] W fun r w'=>r= .returned (.string (put want))∧Below W.heap.size W w'
theorem Gn {a b:ByteArray}(h:a.size+b.size≤9223372036854775807):∀ w,(Op.stringOp .add a b).run Tryz.prog w= .ok (.string (a ++b)) w:=fun w=>run_string_add_sum w a b h
theorem DE {op:Int}(a: 1≤op∧op≤27){lv:Int}(h:Ca op=lv):∀ w:World,Calls Tryz.prog 114 #[.int .i64 op] w fun e w'=>e= .returned (.int .i64 lv)∧w'=w:=fun w=>by
 rw[← h];exact SZ op w a
theorem Abb (w:World)(a:Option Addr)(n c:Nat)(N:List Nd)(h:IZ w a n c N)(i:Nat)(x:Nd)(hx:N[i]? =some x)(j:x.op=1)(h0: 0≤x.num)(h1:x.num≤9223372036854775807):InP w a n c i 1 (GB x.num.toNat):=by
 intro A d hl l;have m:i < N.length:=(zX.1 hx).1;have o:N[i]=x:=(zX.1 hx).2;obtain ⟨b,H,rfl,I,an,nn,p,q,s,t,u,c1,c2,c3,c4,v,y⟩:=(h.below l NLN).cells i m;rw[o] at u c1 c2 v y;rw[j] at u;have J:(i:Int) < (n:Int):=by have:=h.len;omega
 have K:=h.small;have B:decide (Ca 1 < A)=false:=zK (by omega);have f:=Ab (DE (op:=1) (by decide) rfl);generalize Ca 1=lv at B f hl;have g:=(Below.refl d.heap.size d).alloc NLN (.cells #[.int .i64 1,.int .i64 x.num,.string x.text,.slice an nn p,.slice q s t] 124);have C:=Am.new d #[.int .i64 1,.int .i64 x.num,.string x.text,.slice an nn p,.slice q s t] 124;clear h hx m o j hl l;obtain ⟨k,hk⟩:∃ k:Nat,x.num=k:=⟨x.num.toNat,by omega⟩
 rw[hk] at c1 g C ⊢;rw[z0];have E:=Ab (fun w=>Xz k w (by omega));clear h0 h1 hk v y;go_enter Tryz.func66,Tryz.ntmps66
 go_wp2_with fail
 refine (Aa f _).mono ?_;rintro r L ⟨rfl,z⟩;rw[z];clear z f;dsimp only;go_wp2_with fail
 refine (Aa E _).mono ?_;rintro r M ⟨rfl,F⟩;dsimp only;go_wp2_with fail
 go_ret
 exact ⟨rfl,g.trans (F.mono g.size)⟩
theorem JX (w:World)(a:Option Addr)(n c:Nat)(N:List Nd)(h:IZ w a n c N)(i:Nat)(x:Nd)(hx:N[i]? =some x)(d:Int)(k:x.op=d)(f:ByteArray)(h4:d=2∧x.text.size≤32∧f=⟨#[34]⟩ ++x.text ++⟨#[34]⟩∨d=5∧f=x.text∨d=3∧x.num=1∧f=⟨#[116,114,117,101]⟩∨d=3∧x.num≠1∧f=⟨#[102,97,108,115,101]⟩):InP w a n c i d f:=by
 intro B g hl l;have m:i < N.length:=(zX.1 hx).1;have o:N[i]=x:=(zX.1 hx).2;obtain ⟨b,F,rfl,H,an,nn,p,q,s,t,u,c1,c2,c3,c4,v,y⟩:=(h.below l NLN).cells i m;rw[o] at u c1 c2 v y;rw[k] at u;have I:(i:Int) < (n:Int):=by have:=h.len;omega
 have J:=h.small;have C:decide (Ca d < B)=false:=zK (by omega);have j:=Ab (DE (op:=d) (by omega) rfl);generalize Ca d=lv at C j hl;have z:=(Below.refl g.heap.size g).alloc NLN (.cells #[.int .i64 d,.int .i64 x.num,.string x.text,.slice an nn p,.slice q s t] 124);have E:=Am.new g #[.int .i64 d,.int .i64 x.num,.string x.text,.slice an nn p,.slice q s t] 124;clear h hx m o k hl l;clear v y;rcases h4 with ⟨rfl,h0,rfl⟩ | ⟨rfl,rfl⟩ | ⟨rfl,h0,rfl⟩ | ⟨rfl,h0,rfl⟩
 case' inr.inr.inl=>
  rw[h0] at c1 z E;clear h0
 case' inr.inr.inr=>
  have K:(x.num== 1)=false:=zA.2 h0;clear h0
 all_goals
  go_enter Tryz.func66,Tryz.ntmps66
  go_wp2_with fail
  refine (Aa j _).mono ?_;rintro r L ⟨rfl,A⟩;rw[A];clear A j;dsimp only;go_wp2_with fail
  go_ret
  exact ⟨rfl,z⟩
theorem Abc (w:World)(a:Option Addr)(n c:Nat)(N:List Nd)(h:IZ w a n c N)(i:Nat)(x:Nd)(hx:N[i]? =some x)(q:x.op=4)(h0:x.names.length≤64)(h1:∀ y∈x.names,y.size≤32):InP w a n c i 4 (Oi x.names):=by
 intro I k hl s;have t:i < N.length:=(zX.1 hx).1;have u:N[i]=x:=(zX.1 hx).2;obtain ⟨b,O,rfl,P,an,nn,l,v,z,A,B,c1,c2,c3,c4,f,m⟩:=(h.below s NLN).cells i t;rw[u] at B c1 c2 f m;rw[q] at B;have Q:(i:Int) < (n:Int):=by have:=h.len;omega
 have R:=h.small;have J:decide (Ca 4 < I)=false:=zK (by omega);have g:=Ab (DE (op:=4) (by decide) rfl);generalize Ca 4=lv at J g hl;have o:=(Below.refl k.heap.size k).alloc NLN (.cells #[.int .i64 4,.int .i64 x.num,.string x.text,.slice an nn l,.slice v z A] 124);have S:=Am.new k #[.int .i64 4,.int .i64 x.num,.string x.text,.slice an nn l,.slice v z A] 124;clear h hx t u q hl s;have p:=f.len;by_cases d:x.names= []
 ·have K:Oi x.names=⟨#[123,125]⟩:=by rw[d];decide
  obtain rfl:nn=0:=by rw[p,d];rfl
  rw[K];clear f m h0 h1 p d;go_enter Tryz.func66,Tryz.ntmps66
  go_wp2_with fail
  refine (Aa g _).mono ?_;rintro r L ⟨rfl,j⟩;rw[j];clear j g;dsimp only;go_wp2_with fail
  go_ret
  exact ⟨rfl,o⟩
 ·have C:=Ab (UY d);have T:((nn:Int)== 0)=false:=zA.2 (by have:x.names.length≠0:=fun e=>d (z7 e);omega);have E:=Ab (UZ an nn l x.names _ (f.below o NLN) (by omega) h1);have F:=QH true x.names h1;rw[← Aa C];generalize jn true x.names=M at E F ⊢;have U:M.size≤2304:=by omega
  clear f m h0 h1 p d C F;go_enter Tryz.func66,Tryz.ntmps66
  go_wp2_with fail
  refine (Aa g _).mono ?_;rintro r L ⟨rfl,j⟩;rw[j];clear j g;dsimp only;go_wp2_with fail
  refine (Aa E).mono ?_;rintro r V ⟨rfl,H⟩;rw[H];clear H;have e1:(⟨#[123,34]⟩:ByteArray).size=2:=rfl;have e2:(⟨#[34,125]⟩:ByteArray).size=2:=rfl;dsimp only;go_wp2_with fail
  go_ret
  exact ⟨rfl,o⟩
theorem ZK (w:World)(a:Option Addr)(n c:Nat)(N:List Nd)(h:IZ w a n c N)(i:Nat)(x:Nd)(hx:N[i]? =some x)(o: 1≤x.op∧x.op≤27)(f:ByteArray)(K:f.size≤100000000000)(k:InP w a n c i x.op f):Ov w a n c i (fun d=>par (decide (Ca x.op < d)) f):=by
 intro d g j;by_cases hl:Ca x.op < d
 ·have p:=Ab (show par (decide (Ca x.op < d)) f=⟨#[40]⟩ ++f ++⟨#[41]⟩ by rw[zR hl];rfl);dsimp only;rw[Aa p];have q:i < N.length:=(zX.1 hx).1;have s:N[i]=x:=(zX.1 hx).2;obtain ⟨b,L,rfl,M,an,nn,y,z,A,B,C,c1,c2,c3,c4,t,u⟩:=(h.below j NLN).cells i q;rw[s] at C c1 c2 t u;have O:(i:Int) < (n:Int):=by have:=h.len;omega
  have P:=h.small;have E:decide (Ca x.op < d)=true:=zR hl;have l:=Ab (DE o rfl);have F:=Ab (fun g H=>k 0 g (IA _) H);have m:=(Below.refl g.heap.size g).alloc NLN (.cells #[.int .i64 x.op,.int .i64 x.num,.string x.text,.slice an nn y,.slice z A B] 124);have I:=Ab (j.trans (m.mono j.size));have Q:(⟨#[40]⟩:ByteArray).size=1:=rfl;have R:(⟨#[41]⟩:ByteArray).size=1:=rfl;generalize Ca x.op=lv at E l;clear h hx q s hl j k t u o p;go_enter Tryz.func66,Tryz.ntmps66
  go_wp2_with fail
  refine (Aa l _).mono ?_;rintro r S ⟨rfl,v⟩;rw[v];clear v l;dsimp only;go_wp2_with fail
  refine (Aa F _ (Aa I)).mono ?_;rintro r T ⟨rfl,J⟩;dsimp only;go_wp2_with fail
  go_ret
  exact ⟨rfl,m.trans (J.mono m.size)⟩
 ·dsimp only;rw[zK hl];exact k d g (by omega) j
theorem U0 (w:World)(a:Option Addr)(n c:Nat)(N:List Nd)(h:IZ w a n c N)(i:Nat)(x:Nd)(hx:N[i]? =some x)(d:Int)(s:x.op=d)(k:Nat)(hk:x.kids= [(k:Int)])(p:Int→ByteArray)(t:Ov w a n c k p)(u:Int)(g:ByteArray)(h4:d=8∧u=7∧g=⟨#[45]⟩ ++p 7∨d=9∧u=3∧g=⟨#[110,111,116,32]⟩ ++p 3∨d=10∧u=0∧g=⟨#[115,105,122,101,40]⟩ ++p 0 ++⟨#[41]⟩)(O:(p u).size≤50000000000):InP w a n c i d g:=by
 intro H l hl j;have v:i < N.length:=(zX.1 hx).1;have y:N[i]=x:=(zX.1 hx).2;obtain ⟨b,P,rfl,Q,an,nn,z,A,m,B,C,c1,c2,c3,c4,E,f⟩:=(h.below j NLN).cells i v;rw[y] at C c1 c2 E f;rw[s] at C;have R:(i:Int) < (n:Int):=by have:=h.len;omega
 have S:=h.small;have I:decide (Ca d < H)=false:=zK (by omega);have o:=Ab (DE (op:=d) (by omega) rfl);generalize Ca d=lv at I o hl;have q:=(Below.refl l.heap.size l).alloc NLN (.cells #[.int .i64 d,.int .i64 x.num,.string x.text,.slice an nn z,.slice A m B] 124);have T:=Am.new l #[.int .i64 d,.int .i64 x.num,.string x.text,.slice an nn z,.slice A m B] 124;have J:=Ab (j.trans (q.mono j.size));clear h hx v y s hl j;rw[hk] at f;obtain ⟨U,ok,rfl,V,K⟩:=f.cells 0 (by simp);obtain rfl:m=1:=f.len.symm;simp only[List.getElem_cons_zero,zr] at K;have L:=Ab t;have W:(⟨#[45]⟩:ByteArray).size=1:=rfl;have X:(⟨#[110,111,116,32]⟩:ByteArray).size=4:=rfl;have Y:(⟨#[115,105,122,101,40]⟩:ByteArray).size=5:=rfl;have Z:(⟨#[41]⟩:ByteArray).size=1:=rfl;clear E f hk t;rcases h4 with ⟨rfl,rfl,rfl⟩ | ⟨rfl,rfl,rfl⟩ | ⟨rfl,rfl,rfl⟩
 all_goals
  go_enter Tryz.func66,Tryz.ntmps66
  go_wp2_with fail
  refine (Aa o _).mono ?_;rintro r aa ⟨rfl,F⟩;rw[F];clear F o;dsimp only;go_wp2_with fail
  refine (Aa L _ _ (Aa J)).mono ?_;rintro r ab ⟨rfl,M⟩;dsimp only;go_wp2_with fail
  go_ret
  exact ⟨rfl,q.trans (M.mono q.size)⟩
theorem Abd (w:World)(a:Option Addr)(n c:Nat)(N:List Nd)(h:IZ w a n c N)(i:Nat)(x:Nd)(hx:N[i]? =some x)(W:x.op=27)(k l q:Nat)(hk:x.kids= [(k:Int),(l:Int),(q:Int)])(u v y:Int→ByteArray)(h1:Ov w a n c k u)(h2:Ov w a n c l v)(h3:Ov w a n c q y)(X:(u 0).size≤16000010)(Y:(v 0).size≤16000010)(Z:(y 0).size≤16000010):InP w a n c i 27 (⟨#[105,102,32]⟩ ++u 0 ++⟨#[32,116,104,101,110,32]⟩ ++v 0 ++⟨#[32,101,108,115,101,32]⟩ ++y 0):=by
 intro ax f hl z;have aa:i < N.length:=(zX.1 hx).1;have ab:N[i]=x:=(zX.1 hx).2;obtain ⟨b,aC,rfl,s,an,nn,E,ac,F,o,H,c1,c2,c3,c4,ad,m⟩:=(h.below z NLN).cells i aa;rw[ab] at H c1 c2 ad m;rw[W] at H;have aD:(i:Int) < (n:Int):=by have:=h.len;omega
 have aE:=h.small;have ay:decide (Ca 27 < ax)=false:=zK (by omega);have I:=Ab (DE (op:=27) (by decide) rfl);generalize Ca 27=lv at ay I hl;have j:=(Below.refl f.heap.size f).alloc NLN (.cells #[.int .i64 27,.int .i64 x.num,.string x.text,.slice an nn E,.slice ac F o] 124);have A:=Am.new f #[.int .i64 27,.int .i64 x.num,.string x.text,.slice an nn E,.slice ac F o] 124;have J:=Ab (z.trans (j.mono z.size));clear h hx aa ab W hl z;rw[hk] at m;obtain ⟨d,ok,rfl,B,K⟩:=m.cells 0 (by simp);have ae:f.cell? ⟨d,ok+1,none⟩=some (.int .i64 l):=by
  obtain ⟨b2,L,e2,_,d2⟩:=m.cells 1 (by simp);obtain ⟨rfl,rfl⟩:d=b2∧ok=L:=by simpa using e2
  simpa using d2
 have af:f.cell? ⟨d,ok+2,none⟩=some (.int .i64 q):=by
  obtain ⟨b2,L,e2,_,d2⟩:=m.cells 2 (by simp);obtain ⟨rfl,rfl⟩:d=b2∧ok=L:=by simpa using e2
  simpa using d2
 obtain rfl:F=3:=m.len.symm;simp only[List.getElem_cons_zero,zr] at K;have ag:=Ab (h1 0);have ah:=Ab (h2 0);have ai:=Ab (h3 0);generalize u 0=t at ag X ⊢;generalize v 0=M at ah Y ⊢;generalize y 0=az at ai Z ⊢;clear ad m hk h1 h2 h3;go_enter Tryz.func66,Tryz.ntmps66
 go_wp2_with fail
 refine (Aa I _).mono ?_;rintro r aF ⟨rfl,aj⟩;rw[aj];clear aj I;dsimp only;have aA:∃ g,g=f.alloc (.cells #[.int .i64 27,.int .i64 x.num,.string x.text,.slice an nn E,.slice (some ⟨d,ok,none⟩) 3 o] 124):=⟨_,rfl⟩
 go_wp2_with fail
 obtain ⟨g,ak⟩:=aA;rw[← ak] at j A J ⊢;have al:=(j.cell (p:=⟨d,ok,none⟩) B).trans K;have ao:=(j.cell (p:=⟨d,ok+1,none⟩) B).trans ae;have ap:=(j.cell (p:=⟨d,ok+2,none⟩) B).trans af;have aq:g.cell? ⟨f.heap.size,4,none⟩=some (.slice (some ⟨d,ok,none⟩) 3 o):=A.cell 4;have aB:=A.lt;have O:d < g.heap.size:=zY B j.size;clear ak A K ae af H c1 c2 c3 c4;have C:Below g.heap.size g g.drew:=BRN.drew;have P:=Ab ((Aa J).trans (C.mono (Aa J).size));have Q:∀ w',Below g.heap.size g w'→w'.cell? ⟨f.heap.size,4,none⟩=some (.slice (some ⟨d,ok,none⟩) 3 o)∧w'.cell? ⟨d,ok,none⟩=some (.int .i64 k)∧w'.cell? ⟨d,ok+1,none⟩=some (.int .i64 l)∧w'.cell? ⟨d,ok+2,none⟩=some (.int .i64 q):=fun w' s=>⟨(s.cell (p:=⟨f.heap.size,4,none⟩) aB).trans aq,(s.cell (p:=⟨d,ok,none⟩) O).trans al,(s.cell (p:=⟨d,ok+1,none⟩) O).trans ao,(s.cell (p:=⟨d,ok+2,none⟩) O).trans ap⟩
 have R:=Ab Q;have aG:=Q _ C;have e1:(⟨#[105,102,32]⟩:ByteArray).size=3:=rfl;have e2:(⟨#[32,116,104,101,110,32]⟩:ByteArray).size=6:=rfl;have e3:(⟨#[32,101,108,115,101,32]⟩:ByteArray).size=6:=rfl;have aH:=Gn (a:=⟨#[105,102,32]⟩) (b:=t) (by rw[e1];omega);have aI:=Gn (a:=⟨#[105,102,32]⟩ ++t) (b:=⟨#[32,116,104,101,110,32]⟩) (by rw[zD,e1,e2];omega);have aJ:=Gn (a:=⟨#[105,102,32]⟩ ++t ++⟨#[32,116,104,101,110,32]⟩) (b:=M) (by simp only[zD,e1,e2];omega);have aK:=Gn (a:=⟨#[105,102,32]⟩ ++t ++⟨#[32,116,104,101,110,32]⟩ ++M) (b:=⟨#[32,101,108,115,101,32]⟩) (by simp only[zD,e1,e2,e3];omega);have aL:=Gn (a:=⟨#[105,102,32]⟩ ++t ++⟨#[32,116,104,101,110,32]⟩ ++M ++⟨#[32,101,108,115,101,32]⟩) (b:=az) (by simp only[zD,e1,e2,e3];omega);clear Q al ao ap aq X Y Z;go_region_held3 (fun w'=>w'.cell? ⟨f.heap.size,4,none⟩=some (.slice (some ⟨d,ok,none⟩) 3 o)∧w'.cell? ⟨d,ok,none⟩=some (.int .i64 k)∧w'.cell? ⟨d,ok+1,none⟩=some (.int .i64 l)∧w'.cell? ⟨d,ok+2,none⟩=some (.int .i64 q)) (first | assumption | go_keep)
  (first
   |(go_at_call 66;refine (Aa ai _ (Aa S)).mono ?_;rintro r aM ⟨rfl,ar⟩;have au:=T.trans (ar.mono T.size);have aN:=Ab ((Aa S).trans (ar.mono (Aa S).size));have q4:=Aa R _ au)
   |(go_at_call 66;refine (Aa ah _ (Aa U)).mono ?_;rintro r aO ⟨rfl,av⟩;have T:=V.trans (av.mono V.size);have S:=Ab ((Aa U).trans (av.mono (Aa U).size));have q3:=Aa R _ T)
   |(go_at_call 66;refine (Aa ag _ (Aa P)).mono ?_;rintro r aP ⟨rfl,aw⟩;have V:=C.trans (aw.mono C.size);have U:=Ab ((Aa P).trans (aw.mono (Aa P).size));have q2:=Aa R _ V))
 go_wp2_with fail
 go_ret
 exact ⟨rfl,j.trans (au.mono j.size)⟩
theorem Abe (w:World)(a:Option Addr)(n c:Nat)(N:List Nd)(h:IZ w a n c N)(i:Nat)(x:Nd)(hx:N[i]? =some x)(V: 11≤x.op∧x.op≤26)(lv:Int)(z:Ca x.op=lv)(u v:Int)(h4:lv=1∧u=1∧v=2∨lv=2∧u=2∧v=3∨lv=4∧u=5∧v=5∨lv=5∧u=5∧v=6∨lv=6∧u=6∧v=7)(k l:Nat)(hk:x.kids= [(k:Int),(l:Int)])(m o:Int→ByteArray)(h1:Ov w a n c k m)(h2:Ov w a n c l o)(W:(m u).size≤16000010)(X:(o v).size≤16000010):InP w a n c i x.op (m u ++(⟨#[32]⟩ ++DW x.op ++⟨#[32]⟩) ++o v):=by
 intro ay f hl A;have Y:i < N.length:=(zX.1 hx).1;have Z:N[i]=x:=(zX.1 hx).2;obtain ⟨b,aF,rfl,y,an,nn,F,aa,H,q,I,c1,c2,c3,c4,ab,s⟩:=(h.below A NLN).cells i Y;rw[Z] at I c1 c2 ab s;have aG:(i:Int) < (n:Int):=by have:=h.len;omega
 have aH:=h.small;have aI: 0≤lv:=by rw[← z];exact IA _
 have aJ:lv≤8:=by rw[← z];exact Qy _
 have aK:decide (lv < ay)=false:=zK (by omega);have J:=Ab (DE (op:=x.op) (by omega) z);have K:=Ab (UW x.op V);have ac:=Ab (show m u ++(⟨#[32]⟩ ++DW x.op ++⟨#[32]⟩) ++o v=m u ++⟨#[32]⟩ ++DW x.op ++⟨#[32]⟩ ++o v by simp only[zT]);rw[Aa ac];have ad:=GF x.op;generalize DW x.op=L at K ad ⊢;clear ac;have j:=(Below.refl f.heap.size f).alloc NLN (.cells #[.int .i64 x.op,.int .i64 x.num,.string x.text,.slice an nn F,.slice aa H q] 124);have t:=Am.new f #[.int .i64 x.op,.int .i64 x.num,.string x.text,.slice an nn F,.slice aa H q] 124;have B:=Ab (A.trans (j.mono A.size));have g1:(x.op== 1)=false:=zA.2 (by omega);have g2:(x.op== 2)=false:=zA.2 (by omega);have g3:(x.op== 3)=false:=zA.2 (by omega);have g4:(x.op== 4)=false:=zA.2 (by omega);have g5:(x.op== 5)=false:=zA.2 (by omega);have g8:(x.op== 8)=false:=zA.2 (by omega);have az:(x.op== 9)=false:=zA.2 (by omega);have aA:(x.op== 10)=false:=zA.2 (by omega);have aB:(x.op== 27)=false:=zA.2 (by omega);generalize x.op=op at I J K j t B g1 g2 g3 g4 g5 g8 az aA aB;rw[hk] at s;obtain ⟨d,ok,rfl,M,O⟩:=s.cells 0 (by simp);have ae:f.cell? ⟨d,ok+1,none⟩=some (.int .i64 l):=by
  obtain ⟨b2,aC,e2,_,d2⟩:=s.cells 1 (by simp);obtain ⟨rfl,rfl⟩:d=b2∧ok=aC:=by simpa using e2
  simpa using d2
 obtain rfl:H=2:=s.len.symm;simp only[List.getElem_cons_zero,zr] at O;have af:=Ab (h1 u);have ag:=Ab (h2 v);generalize m u=C at af W ⊢;generalize o v=aD at ag X ⊢;clear ab s hk h1 h2 h hx Y Z V hl A z;rcases h4 with ⟨rfl,rfl,rfl⟩ | ⟨rfl,rfl,rfl⟩ | ⟨rfl,rfl,rfl⟩ | ⟨rfl,rfl,rfl⟩ | ⟨rfl,rfl,rfl⟩
 all_goals
  go_enter Tryz.func66,Tryz.ntmps66
  go_wp2_with fail
  refine (Aa J _).mono ?_;rintro r aL ⟨rfl,ah⟩;rw[ah];clear ah J;dsimp only;have aE:∃ g,g=f.alloc (.cells #[.int .i64 op,.int .i64 x.num,.string x.text,.slice an nn F,.slice (some ⟨d,ok,none⟩) 2 q] 124):=⟨_,rfl⟩
  go_wp2_with fail
  obtain ⟨g,ai⟩:=aE;rw[← ai] at j t B ⊢;have aj:=(j.cell (p:=⟨d,ok,none⟩) M).trans O;have ak:=(j.cell (p:=⟨d,ok+1,none⟩) M).trans ae;have al:g.cell? ⟨f.heap.size,4,none⟩=some (.slice (some ⟨d,ok,none⟩) 2 q):=t.cell 4;have ao:g.cell? ⟨f.heap.size,0,none⟩=some (.int .i64 op):=t.cell 0;have ap:=t.lt;have aq:d < g.heap.size:=zY M j.size;clear ai t O ae I c1 c2 c3 c4;have E:Below g.heap.size g g.drew:=BRN.drew;have P:=Ab ((Aa B).trans (E.mono (Aa B).size));have Q:∀ w',Below g.heap.size g w'→w'.cell? ⟨f.heap.size,4,none⟩=some (.slice (some ⟨d,ok,none⟩) 2 q)∧w'.cell? ⟨f.heap.size,0,none⟩=some (.int .i64 op)∧w'.cell? ⟨d,ok,none⟩=some (.int .i64 k)∧w'.cell? ⟨d,ok+1,none⟩=some (.int .i64 l):=fun w' y=>⟨(y.cell (p:=⟨f.heap.size,4,none⟩) ap).trans al,(y.cell (p:=⟨f.heap.size,0,none⟩) ap).trans ao,(y.cell (p:=⟨d,ok,none⟩) aq).trans aj,(y.cell (p:=⟨d,ok+1,none⟩) aq).trans ak⟩
  have R:=Ab Q;have aM:=Q _ E;have e1:(⟨#[32]⟩:ByteArray).size=1:=rfl;have aN:=Gn (a:=C) (b:=⟨#[32]⟩) (by rw[e1];omega);have aO:=Gn (a:=C ++⟨#[32]⟩) (b:=L) (by rw[zD,e1];omega);have aP:=Gn (a:=C ++⟨#[32]⟩ ++L) (b:=⟨#[32]⟩) (by simp only[zD,e1];omega);have aQ:=Gn (a:=C ++⟨#[32]⟩ ++L ++⟨#[32]⟩) (b:=aD) (by simp only[zD,e1];omega);clear Q aj ak al ao W X ad;go_region_held3 (fun w'=>w'.cell? ⟨f.heap.size,4,none⟩=some (.slice (some ⟨d,ok,none⟩) 2 q)∧w'.cell? ⟨f.heap.size,0,none⟩=some (.int .i64 op)∧w'.cell? ⟨d,ok,none⟩=some (.int .i64 k)∧w'.cell? ⟨d,ok+1,none⟩=some (.int .i64 l)) (first | assumption | go_keep)
   (first
    |(go_at_call 66;refine (Aa ag _ (Aa S)).mono ?_;rintro r aR ⟨rfl,ar⟩;have au:=T.trans (ar.mono T.size);have aS:=Ab ((Aa S).trans (ar.mono (Aa S).size));have q4:=Aa R _ au)
    |(go_at_call 115;refine (Aa K _).mono ?_;rintro r aT ⟨rfl,av⟩;have T:=U.trans (av.mono U.size);have S:=Ab ((Aa aw).trans (av.mono (Aa aw).size));have q3:=Aa R _ T)
    |(go_at_call 66;refine (Aa af _ (Aa P)).mono ?_;rintro r aU ⟨rfl,ax⟩;have U:=E.trans (ax.mono E.size);have aw:=Ab ((Aa P).trans (ax.mono (Aa P).size));have q2:=Aa R _ U))
  go_wp2_with fail
  go_ret
  exact ⟨rfl,j.trans (au.mono j.size)⟩
theorem DK.inv {N:List Nd}{i:Nat}{f:Ex}(u:DK N i f){x:Nd}(hx:N[i]? =some x):
  (x.op=1∧f= .int i x.num)∨(x.op=2∧f= .text i x.text)∨(x.op=3∧f= .bool i (decide (x.num=1)))∨(x.op=4∧∃ a n c,f= .set i a n c x.names)∨(x.op=5∧f= .name i x.text)∨(x.op=6∧f= .attr i x.num)∨(x.op=7∧f= .lett i x.num)∨
  ((8≤x.op∧x.op≤10)∧∃ (k:Nat) (e:Ex),x.kids= [(k:Int)]∧DK N k e∧f= .un i x.op e)∨
  ((11≤x.op∧x.op≤26)∧∃ (k l:Nat) (e g:Ex),x.kids= [(k:Int),(l:Int)]∧DK N k e∧DK N l g∧f= .bin i x.op e g)∨
  (x.op=27∧∃ (k l m:Nat) (e g h:Ex),x.kids= [(k:Int),(l:Int),(m:Int)]∧DK N k e∧DK N l g∧DK N m h∧f= .ite i e g h):=by
 have d:∀ {y:Nd},N[i]? =some y→y=x:=fun k=>Option.some.inj (k.symm.trans hx);cases u with
 |int h b hk=>obtain rfl:=d h;exact .inl ⟨b,rfl⟩
 |text h b hk=>obtain rfl:=d h;exact .inr (.inl ⟨b,rfl⟩)
 |bool h b hk=>obtain rfl:=d h;exact .inr (.inr (.inl ⟨b,rfl⟩))
 |set h b hk a n c=>obtain rfl:=d h;exact .inr (.inr (.inr (.inl ⟨b,a,n,c,rfl⟩)))
 |name h b hk=>obtain rfl:=d h;exact .inr (.inr (.inr (.inr (.inl ⟨b,rfl⟩))))
 |attr h b hk=>obtain rfl:=d h;exact .inr (.inr (.inr (.inr (.inr (.inl ⟨b,rfl⟩)))))
 |lett h b hk=>obtain rfl:=d h;exact .inr (.inr (.inr (.inr (.inr (.inr (.inl ⟨b,rfl⟩))))))
 |un h b hk hi t=>obtain rfl:=d h;exact .inr (.inr (.inr (.inr (.inr (.inr (.inr (.inl ⟨b,_,_,hk,t,rfl⟩)))))))
 |bin h b hk hi t u=>obtain rfl:=d h;exact .inr (.inr (.inr (.inr (.inr (.inr (.inr (.inr (.inl ⟨b,_,_,_,_,hk,t,u,rfl⟩))))))))
 |ite h b hk hi t u v=>obtain rfl:=d h;exact .inr (.inr (.inr (.inr (.inr (.inr (.inr (.inr (.inr ⟨b,_,_,_,_,_,_,hk,t,u,v,rfl⟩))))))))
def Ex.okW:Ex→Prop
 | .int _ n=>0≤n∧n≤9223372036854775807
 | .text _ s=>Bk s=true
 | .bool .. =>True
 | .set _ _ _ _ ss=>EK ss=true
 | .name _ s=>Bh s=true
 | .attr .. =>False
 | .lett .. =>False
 | .un _ op k=>(8≤op∧op≤10)∧k.okW
 | .bin _ op l r=>(11≤op∧op≤26)∧l.okW∧r.okW
 | .ite _ c t e=>c.okW∧t.okW∧e.okW
def scL:Bool→List ByteArray→List Ae→Prop
 |_, [],c=>c= []
 |f,x ::r,c=>∃ pre t c',c=pre ++t ::c'∧(if f then pre= [] else ∃ v,pre= [v]∧see Dy v=true)∧t.kind=2∧t.text=x∧scL false r c'
def Z8 (want op:Int) (R:List Ae→Pt→Prop) (T:List Ae) (p:Pt):Prop:=
 (want≤Ca op∧R T p)∨(Ca op < want∧∃ t T' u,T=t ::(T' ++ [u])∧see AH t=true∧see AS u=true∧R T' p)
def LW:Ex→List Ae→Pt→Prop
 | .int _ n,T,p=>∃ t,T= [t]∧t.kind=1∧t.num=n∧p= .int t.at_ n
 | .text _ s,T,p=>∃ t,T= [t]∧t.kind=2∧t.text=s∧p= .text t.at_ s
 | .bool _ b,T,p=>∃ t,T= [t]∧see (if b then BS else Bl) t=true∧p= .bool t.at_ b
 | .set _ _ _ _ ss,T,p=>∃ t c u,T=t ::(c ++ [u])∧see Ch t=true∧see Bp u=true∧scL true ss c∧p= .set t.at_ ss
 | .name _ s,T,p=>∃ t,T= [t]∧t.kind=3∧t.text=s∧p= .name t.at_ s
 | .attr ..,_,_=>False
 | .lett ..,_,_=>False
 | .un _ op k,T,p=>(op=8∧∃ t T' q,T=t ::T'∧see Bd t=true∧Z8 7 k.op (LW k) T' q∧p= .un t.at_ 8 q)∨
   (op=9∧∃ t T' q,T=t ::T'∧see DT t=true∧Z8 3 k.op (LW k) T' q∧p= .un t.at_ 9 q)∨
   (op=10∧∃ t u v T' q,T=t ::u ::(T' ++ [v])∧see Cb t=true∧see AH u=true∧see AS v=true∧LW k T' q∧p= .un t.at_ 10 q)
 | .bin _ op l r,T,p=>∃ t T1 T2 p1 p2,T=T1 ++t ::T2∧BZ (Ca op).toNat t=some op∧Z8 (DV op) l.op (LW l) T1 p1∧Z8 (Ca op+1) r.op (LW r) T2 p2∧p= .bin t.at_ op p1 p2
 | .ite _ c t e,T,p=>∃ t1 t2 t3 T1 T2 T3 p1 p2 p3,T=t1 ::(T1 ++t2 ::(T2 ++t3 ::T3))∧see DO t1=true∧see BE t2=true∧see AK t3=true∧LW c T1 p1∧LW t T2 p2∧LW e T3 p3∧p= .ite t1.at_ p1 p2 p3
theorem Au (a b:ByteArray):Aj (a ++b)=Aj a ++Aj b:=by simp[Aj]
theorem Qx {k num:Int}{s:List UInt8}{a:Nat}(hk:k=4∨k=5):see s ⟨k,num,AB s,a⟩=true:=by
 rcases hk with rfl | rfl <;> simp[see]
def IR (n f:Nat) (l:List UInt8) (out T:List Ae) (r:List UInt8):Prop:=∃ f',r.length < f'∧AE n f l out=AE n f' r (out ++T)
theorem Cu {n f:Nat}{c:UInt8}{a r:List UInt8}{out:List Ae}(hf:(c ::(a ++r)).length < f)(b:Fc (c ::a)=true)(hc:Jt c=true)(d:a.all Dk=true)(hl:a.length≤31)(h:JS r):
  ∃ t,see (c ::a) t=true∧IR n f (c ::(a ++r)) out [t] r:=by
 obtain ⟨f,rfl⟩:∃ g,f=g+1:=⟨f - 1,by simp at hf;omega⟩
 refine ⟨⟨4,0,AB (c ::a),n - ((a ++r).length+1)⟩,Qx (.inl rfl),f,by simp at hf;omega, ?_⟩;rw[Ph hc d hl (Qw h),if_pos b]
theorem Bb {n f:Nat}{c:UInt8}{r:List UInt8}{out:List Ae}(hf:(c ::r).length < f)(hc:c∈CZ)(a:∀ d x,r=d ::x→d≠61∧d≠62):
  ∃ t,see [c] t=true∧IR n f (c ::r) out [t] r:=by
 obtain ⟨f,rfl⟩:∃ g,f=g+1:=⟨f - 1,by simp at hf;omega⟩
 exact ⟨⟨5,0,AB [c],n - (r.length+1)⟩,Qx (.inr rfl),f,by simp at hf;omega,UK hc a⟩
theorem GA {n f:Nat}{c d:UInt8}{r:List UInt8}{out:List Ae}(hf:(c ::d ::r).length < f)(hc: [c,d]∈BQ):
  ∃ t,see [c,d] t=true∧IR n f (c ::d ::r) out [t] r:=by
 obtain ⟨f,rfl⟩:∃ g,f=g+1:=⟨f - 1,by simp at hf;omega⟩
 exact ⟨⟨5,0,AB [c,d],n - ((d ::r).length+1)⟩,Qx (.inr rfl),f,by simp at hf;omega,UL hc⟩
theorem Pi {n f:Nat}{s:ByteArray}{r:List UInt8}{out:List Ae}(hf:(34 ::(Aj s ++34 ::r)).length < f)(hs:Bk s=true):
  ∃ t:Ae,t.kind=2∧t.text=s∧IR n f (34 ::(Aj s ++34 ::r)) out [t] r:=by
 obtain ⟨f,rfl⟩:∃ g,f=g+1:=⟨f - 1,by simp at hf;omega⟩
 simp only[Bk,zE,zF] at hs;refine ⟨⟨2,0,AB (Aj s),n - ((Aj s ++34 ::r).length+1)⟩,rfl,Bn s,f,by simp at hf;omega,Xk hs.2 (by rw[At];exact hs.1)⟩
theorem Zf {n f k:Nat}{r:List UInt8}{out:List Ae}(hf:(Lib.decDigits k ++r).length < f)(hk:k≤9223372036854775807)(a:JS r):
  ∃ t:Ae,t.kind=1∧t.num=k∧IR n f (Lib.decDigits k ++r) out [t] r:=by
 obtain ⟨f,rfl⟩:∃ g,f=g+1:=⟨f - 1,by omega⟩
 obtain ⟨h1,h2,h3,_⟩:=OC k;have h4:=Vo 18 k (by omega);refine ⟨⟨1,DZ (Lib.decDigits k),AB [],n - (Lib.decDigits k ++r).length⟩,rfl,h1,f,by rw[zB] at hf;omega,Ze (fun e=>by rw[e] at h3;simp at h3) h2 h4 (by rw[h1];omega) (Qw a)⟩
theorem Pj {n f:Nat}{s:ByteArray}{r:List UInt8}{out:List Ae}(hf:(Aj s ++r).length < f)(hs:Bh s=true)(b:JS r):
  ∃ t:Ae,t.kind=3∧t.text=s∧IR n f (Aj s ++r) out [t] r:=by
 rw[Bh] at hs;have e:=Bn s;cases hl:Aj s with
 |nil=>rw[hl] at hs;cases hs
 |cons c a=>
  rw[hl] at hs hf e;simp only[zE,zF,Bool.not_eq_true',z8] at hs;obtain ⟨⟨⟨h1,h2⟩,h3⟩,h4⟩:=hs;obtain ⟨f,rfl⟩:∃ g,f=g+1:=⟨f - 1,by simp at hf;omega⟩
  refine ⟨⟨3,0,AB (c ::a),n - ((a ++r).length+1)⟩,rfl,e,f,by simp at hf;omega, ?_⟩;rw[List.cons_append,Ph h2 h3.2 (by simp at h1;omega) (Qw b),h4];rfl
theorem Xl {s:ByteArray}(h:vnB s=true):Bk s=true:=by
 simp only[vnB,zE,zF] at h;simp only[Bk,zE,zF];exact ⟨by omega,h.2⟩
theorem MZ {n:Nat}(r:List UInt8)(k:∃ x,r=125 ::x):∀ (a:List ByteArray) (b:Bool) (f:Nat) (out:List Ae),Ks a=true→(Aj (AQ b a) ++r).length < f→
  ∃ c,scL b a c∧IR n f (Aj (AQ b a) ++r) out c r
 | [],b,f,out,_,hf=>⟨[],rfl,f,by simpa[AQ,Aj] using hf,by simp[AQ,Aj]⟩
 |x ::a,b,f,out,ha,hf=>by
  rw[Ks,z8,zE] at ha;have e:Aj (AQ b (x ::a)) ++r=(if b then [] else [44,32]) ++34 ::(Aj x ++34 ::(Aj (AQ false a) ++r)):=by
   rw[AQ,Au,Au,Au,Au];cases b <;> simp[Aj]
  rw[e] at hf ⊢;have i:∀ (g:Nat) (h:List Ae),(34 ::(Aj x ++34 ::(Aj (AQ false a) ++r))).length < g→∃ (t:Ae) (c:List Ae),t.kind=2∧t.text=x∧scL false a c∧IR n g (34 ::(Aj x ++34 ::(Aj (AQ false a) ++r))) h (t ::c) r:=fun g h l=>by
   obtain ⟨t,h1,h2,h3⟩:=Pi (out:=h) l (Xl ha.1);obtain ⟨m,hf',he⟩:=h3;obtain ⟨c,c1,f2,c2,c3⟩:=MZ r k a false m (h ++ [t]) ha.2 hf';exact ⟨t,c,h1,h2,c1,f2,c2,by rw[he,c3,zC];rfl⟩
  cases b with
  |true=>
   simp only[if_true,List.nil_append] at hf ⊢;obtain ⟨t,c,h1,h2,h3,h4⟩:=i f out hf;exact ⟨t ::c,⟨[],t,c,rfl,rfl,h1,h2,h3⟩,h4⟩
  |false=>
   simp only[Bool.false_eq_true,if_false,List.cons_append,List.nil_append] at hf ⊢;obtain ⟨v,o,f1,p,j⟩:=Bb (n:=n) (f:=f) (c:=44) (r:=32 :: 34 ::(Aj x ++34 ::(Aj (AQ false a) ++r))) (out:=out) hf (by decide) (fun d y e=>by injection e with e1 e2;subst e1;decide);rw[Cn] at j;obtain ⟨t,c,h1,h2,h3,f2,h4,h5⟩:=i f1 (out ++ [v]) (by simp only[List.length_cons] at p ⊢;omega);exact ⟨v ::t ::c,⟨[v],t,c,rfl,⟨v,rfl,o⟩,h1,h2,h3⟩,f2,h4,by rw[j,h5,zC];rfl⟩
def Zg (l:List UInt8):Prop:=∃ c x,l=c ::x∧c≠61∧c≠62
theorem Zg.app {l:List UInt8}(h:Zg l)(r:List UInt8):∀ d x,l ++r=d ::x→d≠61∧d≠62:=by
 obtain ⟨c,y,rfl,h1⟩:=h;intro d x e;rw[List.cons_append] at e;injection e with e1 e2;subst e1;exact h1
theorem So {l:List UInt8}(h:Zg l)(r:List UInt8):Zg (l ++r):=by
 obtain ⟨c,x,rfl,h⟩:=h;exact ⟨c,x ++r,rfl,h⟩
theorem VU {b:Bool}{s:ByteArray}(h:Zg (Aj s)):Zg (Aj (par b s)):=by
 cases b with
 |false=>exact h
 |true=>
  rw[par,if_pos rfl,Au,Au];exact ⟨40,_,rfl,by decide⟩
theorem VV:∀ (e:Ex),e.okW→Zg (Aj e.pr)
 | .int _ n,_=>by
  obtain ⟨_,h2,h3,_⟩:=OC n.toNat;show Zg (Aj (GB n.toNat));rw[show Aj (GB n.toNat)=Lib.decDigits n.toNat by simp[GB,Aj]];cases d:Lib.decDigits n.toNat with
  |nil=>rw[d] at h3;simp at h3
  |cons c x=>
   rw[d,z8,zE] at h2;refine ⟨c,x,rfl, ?_, ?_⟩ <;> (rintro rfl;exact absurd h2.1 (by decide))
 | .text _ s,_=>by
  show Zg (Aj (⟨#[34]⟩ ++s ++⟨#[34]⟩));rw[Au,Au];exact ⟨34,_,rfl,by decide⟩
 | .bool _ b,_=>by cases b <;> exact ⟨_,_,rfl,by decide⟩
 | .set _ _ _ _ ss,_=>by
  show Zg (Aj (⟨#[123]⟩ ++AQ true ss ++⟨#[125]⟩));rw[Au,Au];exact ⟨123,_,rfl,by decide⟩
 | .name _ s,h=>by
  have a:Bh s=true:=h;show Zg (Aj s);rw[Bh] at a;cases hl:Aj s with
  |nil=>rw[hl] at a;cases a
  |cons c x=>
   rw[hl] at a;simp only[zE] at a;refine ⟨c,x,rfl, ?_, ?_⟩ <;> (rintro rfl;exact absurd a.1.1.2 (by decide))
 | .attr ..,h=>by cases h
 | .lett ..,h=>by cases h
 | .un _ op k,h=>by
  rw[Ex.pr];split
  ·rw[Au];exact ⟨45,_,rfl,by decide⟩
  ·split
   ·rw[Au];exact ⟨110,_,rfl,by decide⟩
   ·rw[Au,Au];exact ⟨115,_,rfl,by decide⟩
 | .bin _ op l r,h=>by
  rw[Ex.pr,Au,Au];exact So (So (VU (VV l h.2.1)) _) _
 | .ite _ c t e,h=>by
  rw[Ex.pr,Au,Au,Au,Au,Au];exact ⟨105,_,rfl,by decide⟩
theorem Cv {k:Nat}{t:Ae}{s:List UInt8}{op:Int}(h:see s t=true)(hm:(s,op)∈BR k)(h1:∀ p∈BR k,p.1=s→p.2=op):BZ k t=some op:=by
 rw[BZ];cases hf:(BR k).find? (fun p=>see p.1 t) with
 |none=>
  rw[List.find?_eq_none] at hf;exact absurd h (hf _ hm)
 |some p=>
  have h2:=List.find?_some hf;have h3:=List.mem_of_find?_eq_some hf;have e:p.1=s:=by
   by_cases a:s=p.1
   ·exact a.symm
   ·rw[Ag h a] at h2;cases h2
  rw[Option.map_some,h1 p h3 e]
theorem Dd {c:UInt8}{x:List UInt8}{f:Nat}(h:(c ::x).length < f):x.length < f:=Nat.lt_of_succ_lt h
theorem Co (r:List UInt8):JS (32 ::r):=Fp (.inl rfl)
theorem AaQ {n f:Nat}{op:Int}{r:List UInt8}{out:List Ae}(h: 11≤op∧op≤26)(hf:(Aj (DW op) ++32 ::r).length < f):
  ∃ t,BZ (Ca op).toNat t=some op∧IR n f (Aj (DW op) ++32 ::r) out [t] (32 ::r):=by
 have b:∀ d x,(32 ::r:List UInt8)=d ::x→d≠61∧d≠62:=fun d x e=>by injection e with e1 e2;subst e1;decide
 have g:op=11∨op=12∨op=13∨op=14∨op=15∨op=16∨op=17∨op=18∨op=19∨op=20∨op=21∨op=22∨op=23∨op=24∨op=25∨op=26:=by omega
 rcases g with rfl | rfl | rfl | rfl | rfl | rfl | rfl | rfl | rfl | rfl | rfl | rfl | rfl | rfl | rfl | rfl
 ·obtain ⟨t,h1,h2⟩:=Bb (n:=n) (c:=43) (out:=out) hf (by decide) b;exact ⟨t,Cv h1 (by decide) (by decide),h2⟩
 ·obtain ⟨t,h1,h2⟩:=Bb (n:=n) (c:=45) (out:=out) hf (by decide) b;exact ⟨t,Cv h1 (by decide) (by decide),h2⟩
 ·obtain ⟨t,h1,h2⟩:=Bb (n:=n) (c:=42) (out:=out) hf (by decide) b;exact ⟨t,Cv h1 (by decide) (by decide),h2⟩
 ·obtain ⟨t,h1,h2⟩:=Bb (n:=n) (c:=47) (out:=out) hf (by decide) b;exact ⟨t,Cv h1 (by decide) (by decide),h2⟩
 ·obtain ⟨t,h1,h2⟩:=Bb (n:=n) (c:=37) (out:=out) hf (by decide) b;exact ⟨t,Cv h1 (by decide) (by decide),h2⟩
 ·obtain ⟨t,h1,h2⟩:=Bb (n:=n) (c:=124) (out:=out) hf (by decide) b;exact ⟨t,Cv h1 (by decide) (by decide),h2⟩
 ·obtain ⟨t,h1,h2⟩:=Bb (n:=n) (c:=38) (out:=out) hf (by decide) b;exact ⟨t,Cv h1 (by decide) (by decide),h2⟩
 ·obtain ⟨t,h1,h2⟩:=Bb (n:=n) (c:=92) (out:=out) hf (by decide) b;exact ⟨t,Cv h1 (by decide) (by decide),h2⟩
 ·obtain ⟨t,h1,h2⟩:=GA (n:=n) (c:=61) (d:=61) (r:=32 ::r) (out:=out) hf (by decide);exact ⟨t,Cv h1 (by decide) (by decide),h2⟩
 ·obtain ⟨t,h1,h2⟩:=GA (n:=n) (c:=33) (d:=61) (r:=32 ::r) (out:=out) hf (by decide);exact ⟨t,Cv h1 (by decide) (by decide),h2⟩
 ·obtain ⟨t,h1,h2⟩:=Bb (n:=n) (c:=60) (out:=out) hf (by decide) b;exact ⟨t,Cv h1 (by decide) (by decide),h2⟩
 ·obtain ⟨t,h1,h2⟩:=GA (n:=n) (c:=60) (d:=61) (r:=32 ::r) (out:=out) hf (by decide);exact ⟨t,Cv h1 (by decide) (by decide),h2⟩
 ·obtain ⟨t,h1,h2⟩:=Cu (n:=n) (c:=105) (a:= [110]) (out:=out) hf (by decide) (by decide) (by decide) (by decide) (Co r);exact ⟨t,Cv h1 (by decide) (by decide),h2⟩
 ·obtain ⟨t,h1,h2⟩:=Cu (n:=n) (c:=119) (a:= [105,116,104,105,110]) (out:=out) hf (by decide) (by decide) (by decide) (by decide) (Co r);exact ⟨t,Cv h1 (by decide) (by decide),h2⟩
 ·obtain ⟨t,h1,h2⟩:=Cu (n:=n) (c:=97) (a:= [110,100]) (out:=out) hf (by decide) (by decide) (by decide) (by decide) (Co r);exact ⟨t,Cv h1 (by decide) (by decide),h2⟩
 ·obtain ⟨t,h1,h2⟩:=Cu (n:=n) (c:=111) (a:= [114]) (out:=out) hf (by decide) (by decide) (by decide) (by decide) (Co r);exact ⟨t,Cv h1 (by decide) (by decide),h2⟩
def GoE (n:Nat) (e:Ex):Prop:=∀ (f:Nat) (r:List UInt8) (out:List Ae),JS r→(Aj e.pr ++r).length < f→∃ T p,LW e T p∧IR n f (Aj e.pr ++r) out T r
theorem JT {n:Nat}{e:Ex}(b:GoE n e)(i:e.okW)(a:Int){f:Nat}{r:List UInt8}{out:List Ae}(g:JS r)(hf:(Aj (e.put a) ++r).length < f):
  ∃ T p,Z8 a e.op (LW e) T p∧IR n f (Aj (e.put a) ++r) out T r:=by
 by_cases h:Ca e.op < a
 ·have e1:Aj (e.put a) ++r=40 ::(Aj e.pr ++41 ::r):=by rw[VW h,Au,Au];simp[Aj]
  rw[e1] at hf ⊢;obtain ⟨t,j,k⟩:=Bb (n:=n) (c:=40) (out:=out) hf (by decide) ((VV e i).app _);obtain ⟨f1,f2,l⟩:=k;obtain ⟨T,p,h1,g1,g2,g3⟩:=b f1 (41 ::r) (out ++ [t]) (Fp (.inr (.inl rfl))) f2;obtain ⟨u,m,o,q,s⟩:=Bb (n:=n) (c:=41) (out:=out ++ [t] ++T) g2 (by decide) (fun d x e=>by
   obtain ⟨c,y,rfl,hc⟩:=g;injection e with e1 e2;subst e1;rcases hc with rfl | rfl | rfl | rfl <;> decide)
  refine ⟨t ::(T ++ [u]),p,.inr ⟨h,t,T,u,rfl,j,m,h1⟩,o,q, ?_⟩;rw[l,g3,s];simp
 ·rw[Zh (by omega)] at hf ⊢;obtain ⟨T,p,h1,h2⟩:=b f r out g hf;exact ⟨T,p,.inl ⟨by omega,h1⟩,h2⟩
theorem ET (n:Nat):∀ (e:Ex),e.okW→GoE n e
 | .int _ k,h=>by
  intro f r out j hf;have e:Aj (GB k.toNat)=Lib.decDigits k.toNat:=by simp[GB,Aj]
  have N: 0≤k∧k≤9223372036854775807:=h;show ∃ T p,_∧IR n f (Aj (GB k.toNat) ++r) out T r;rw[show (Aj (Ex.pr (.int _ k)) ++r)=Lib.decDigits k.toNat ++r by rw[← e];rfl] at hf;rw[e];obtain ⟨t,g,m,C⟩:=Zf (n:=n) (out:=out) hf (by omega) j;exact ⟨[t],.int t.at_ k,⟨t,rfl,g,by rw[m];omega,rfl⟩,C⟩
 | .text i s,h=>by
  intro f r out j hf;have e:Aj (Ex.pr (.text i s)) ++r=34 ::(Aj s ++34 ::r):=by rw[Ex.pr,Au,Au];simp[Aj]
  rw[e] at hf ⊢;obtain ⟨t,g,m,C⟩:=Pi (n:=n) (out:=out) hf h;exact ⟨[t],.text t.at_ s,⟨t,rfl,g,m,rfl⟩,C⟩
 | .bool _ b,h=>by
  intro f r out j hf;cases b with
  |true=>
   obtain ⟨t,g,m⟩:=Cu (n:=n) (c:=116) (a:= [114,117,101]) (out:=out) hf (by decide) (by decide) (by decide) (by decide) j;exact ⟨[t],.bool t.at_ true,⟨t,rfl,g,rfl⟩,m⟩
  |false=>
   obtain ⟨t,g,m⟩:=Cu (n:=n) (c:=102) (a:= [97,108,115,101]) (out:=out) hf (by decide) (by decide) (by decide) (by decide) j;exact ⟨[t],.bool t.at_ false,⟨t,rfl,g,rfl⟩,m⟩
 | .set i a k c I,h=>by
  intro f r out j hf;have N:EK I=true:=h;rw[EK,zE,zE] at N;have e:Aj (Ex.pr (.set i a k c I)) ++r=123 ::(Aj (AQ true I) ++125 ::r):=by rw[Ex.pr,Oi,Au,Au];simp[Aj]
  rw[e] at hf ⊢;obtain ⟨t,g,f1,f2,o⟩:=Bb (n:=n) (c:=123) (out:=out) hf (by decide) (fun d x E=>by
   cases I with
   |nil=>rw[AQ] at E;simp[Aj] at E;rw[← E.1];decide
   |cons y I=>rw[AQ,Au,Au,Au,Au] at E;simp[Aj] at E;rw[← E.1];decide)
  obtain ⟨cs,U,F,z,w⟩:=MZ (n:=n) (125 ::r) ⟨r,rfl⟩ I true f1 (out ++ [t]) N.2.1 f2;obtain ⟨u,O,J,K,H⟩:=Bb (n:=n) (c:=125) (out:=out ++ [t] ++cs) z (by decide) (fun d x e=>by
   obtain ⟨c,y,rfl,hc⟩:=j;injection e with e1 e2;subst e1;rcases hc with rfl | rfl | rfl | rfl <;> decide)
  refine ⟨t ::(cs ++ [u]),.set t.at_ I,⟨t,cs,u,rfl,g,O,U,rfl⟩,J,K, ?_⟩;rw[o,w,H];simp
 | .name _ s,h=>by
  intro f r out j hf;obtain ⟨t,g,m,C⟩:=Pj (n:=n) (out:=out) hf h j;exact ⟨[t],.name t.at_ s,⟨t,rfl,g,m,rfl⟩,C⟩
 | .attr ..,h=>by cases h
 | .lett ..,h=>by cases h
 | .un i op k,h=>by
  intro f r out j hf;obtain ⟨Q,hk⟩:=h;have P:=ET n k hk;have V:op=8∨op=9∨op=10:=by omega
  rcases V with rfl | rfl | rfl
  ·have e:Aj (Ex.pr (.un i 8 k)) ++r=45 ::(Aj (k.put 7) ++r):=by rw[Ex.pr,if_pos rfl,Au];simp[Aj,Ex.put]
   rw[e] at hf ⊢;obtain ⟨t,g,f1,f2,o⟩:=Bb (n:=n) (c:=45) (out:=out) hf (by decide) ((VU (VV k hk)).app _);obtain ⟨T,p,A,F,z,w⟩:=JT (out:=out ++ [t]) P hk 7 j f2;exact ⟨t ::T,.un t.at_ 8 p,.inl ⟨rfl,t,T,p,rfl,g,A,rfl⟩,F,z,by rw[o,w];simp⟩
  ·have e:Aj (Ex.pr (.un i 9 k)) ++r=110 ::([111,116] ++32 ::(Aj (k.put 3) ++r)):=by rw[Ex.pr,if_neg (by decide),if_pos rfl,Au];simp[Aj,Ex.put]
   rw[e] at hf ⊢;obtain ⟨t,g,f1,f2,o⟩:=Cu (n:=n) (c:=110) (a:= [111,116]) (out:=out) hf (by decide) (by decide) (by decide) (by decide) (Co _);rw[Cn] at o;obtain ⟨T,p,A,F,z,w⟩:=JT (out:=out ++ [t]) P hk 3 j (Dd f2);exact ⟨t ::T,.un t.at_ 9 p,.inr (.inl ⟨rfl,t,T,p,rfl,g,A,rfl⟩),F,z,by rw[o,w];simp⟩
  ·have e:Aj (Ex.pr (.un i 10 k)) ++r=115 ::([105,122,101] ++40 ::(Aj k.pr ++41 ::r)):=by rw[Ex.pr,if_neg (by decide),if_neg (by decide),Au,Au];simp[Aj]
   rw[e] at hf ⊢;obtain ⟨t,g,f1,f2,o⟩:=Cu (n:=n) (c:=115) (a:= [105,122,101]) (out:=out) hf (by decide) (by decide) (by decide) (by decide) (Fp (.inr (.inr (.inr rfl))));obtain ⟨u,O,g1,g2,g3⟩:=Bb (n:=n) (c:=40) (out:=out ++ [t]) f2 (by decide) ((VV k hk).app _);obtain ⟨T,p,A,F,z,w⟩:=P g1 (41 ::r) (out ++ [t] ++ [u]) (Fp (.inr (.inl rfl))) g2;obtain ⟨v,W,J,K,H⟩:=Bb (n:=n) (c:=41) (out:=out ++ [t] ++ [u] ++T) z (by decide) (fun d x e=>by
    obtain ⟨c,y,rfl,hc⟩:=j;injection e with e1 e2;subst e1;rcases hc with rfl | rfl | rfl | rfl <;> decide)
   exact ⟨t ::u ::(T ++ [v]),.un t.at_ 10 p,.inr (.inr ⟨rfl,t,u,v,T,p,rfl,g,O,W,A,rfl⟩),J,K,by rw[o,g3,w,H];simp⟩
 | .bin i op l r,h=>by
  intro f q out hq hf;obtain ⟨Q,hl,j⟩:=h;have e:Aj (Ex.pr (.bin i op l r)) ++q=Aj (l.put (DV op)) ++32 ::(Aj (DW op) ++32 ::(Aj (r.put (Ca op+1)) ++q)):=by
   rw[Ex.pr,Au,Au,Au,Au];simp[Aj,Ex.put]
  rw[e] at hf ⊢;obtain ⟨B,A,h1,f1,f2,o⟩:=JT (out:=out) (ET n l hl) hl (DV op) (Co _) hf;rw[Cn] at o;obtain ⟨t,g,F,z,w⟩:=AaQ (n:=n) (f:=f1) (out:=out ++B) Q (Dd f2);rw[Cn] at w;obtain ⟨L,M,h2,J,K,H⟩:=JT (out:=out ++B ++ [t]) (ET n r j) j (Ca op+1) hq (Dd z);exact ⟨B ++t ::L,.bin t.at_ op A M,⟨t,B,L,A,M,rfl,g,h1,h2,rfl⟩,J,K,by rw[o,w,H];simp⟩
 | .ite i c t e,h=>by
  intro f q out hq hf;obtain ⟨hc,ht,he⟩:=h;have E:Aj (Ex.pr (.ite i c t e)) ++q=105 ::([102] ++32 ::(Aj c.pr ++32 ::(116 ::([104,101,110] ++32 ::(Aj t.pr ++32 ::(101 ::([108,115,101] ++32 ::(Aj e.pr ++q)))))))):=by
   rw[Ex.pr,Au,Au,Au,Au,Au];simp[Aj]
  rw[E] at hf ⊢;obtain ⟨g,a1,f1,f2,o⟩:=Cu (n:=n) (c:=105) (a:= [102]) (out:=out) hf (by decide) (by decide) (by decide) (by decide) (Co _);rw[Cn] at o;obtain ⟨B,A,b1,F,z,w⟩:=ET n c hc f1 _ (out ++ [g]) (Co _) (Dd f2);rw[Cn] at w;obtain ⟨m,a2,J,K,H⟩:=Cu (n:=n) (f:=F) (c:=116) (a:= [104,101,110]) (out:=out ++ [g] ++B) (Dd z) (by decide) (by decide) (by decide) (by decide) (Co _);rw[Cn] at H;obtain ⟨L,M,b2,g1,g2,g3⟩:=ET n t ht J _ (out ++ [g] ++B ++ [m]) (Co _) (Dd K);rw[Cn] at g3;obtain ⟨C,a3,g4,g5,g6⟩:=Cu (n:=n) (f:=g1) (c:=101) (a:= [108,115,101]) (out:=out ++ [g] ++B ++ [m] ++L) (Dd g2) (by decide) (by decide) (by decide) (by decide) (Co _);rw[Cn] at g6;obtain ⟨R,S,b3,g7,g8,X⟩:=ET n e he g4 _ (out ++ [g] ++B ++ [m] ++L ++ [C]) hq (Dd g5);exact ⟨g ::(B ++m ::(L ++C ::R)),.ite g.at_ A M S,⟨g,m,C,B,L,R,A,M,S,rfl,a1,a2,a3,b1,b2,b3,rfl⟩,g7,g8,by rw[o,w,H,g3,g6,X];simp⟩
def Fr (k:Nat) (r:List Ae):Prop:=∀ j,k≤j→PQ j r=none
theorem Fr.mono {k m:Nat}{r:List Ae}(h:Fr k r)(hm:k≤m):Fr m r:=fun j a=>h j (zL hm a)
theorem UM {k j:Nat}{t:Ae}{op:Int}(h:BZ k t=some op)(f:j≠k):BZ j t=none:=by
 obtain ⟨s,hs,ht⟩:=Eu h;have g:∀ k∈ [0,1,2,3,4,5,6],∀ j∈ [0,1,2,3,4,5,6],j≠k→(BR k).all (fun a=>(BR j).all fun b=>decide (a.1≠b.1))=true:=by decide
 have hk:k < 7:=by
  match k,hs with
  | 0,_ | 1,_ | 2,_ | 3,_ | 4,_ | 5,_ | 6,_=>decide
  |k+7,hs=>cases hs
 rw[BZ,Option.map_eq_none_iff,List.find?_eq_none];intro b c d;have i:j < 7:=by
  match j,c with
  | 0,_ | 1,_ | 2,_ | 3,_ | 4,_ | 5,_ | 6,_=>decide
  |k+7,hs=>cases hs
 have hq:=z1.1 (z1.1 (g k (by simp;omega) j (by simp;omega) f) (s,op) hs) b c;rw[Ag ht (of_decide_eq_true hq)] at d;cases d
theorem AbD {k:Nat}{t:Ae}{op:Int}{r:List Ae}(h:BZ k t=some op):Fr (k+1) (t ::r):=fun j a=>UM h (by omega)
theorem FL {s:List UInt8}{t:Ae}{r:List Ae}(h:see s t=true)(hs:s∈ [AH,Ch,AS,Bp,BS,Bl,DO,BE,AK,DT,AG,Br]):Fr 0 (t ::r):=fun j _=>by
 show BZ j t=none;cases a:BZ j t with
 |none=>rfl
 |some op=>rw[(Dr a).2.2 s hs] at h;cases h
def Zi:Nat→NT
 | 0=> .expr | 1=> .chain 1 | 2=> .chain 2 | 3=> .neg | 4=> .cmp | 5=> .chain 5 | 6=> .chain 6 | 7=> .una | _=> .prim
def Zj (m:Nat) (t:Ae):Prop:=(1≤m→see DO t=false)∧(4≤m→see DT t=false)∧(8≤m→see Bd t=false)
theorem AcS {k:Nat}(hk:k < 8){t:Ae}{ts r:List Ae}{p:Pt}(h:Zj (k+1) t)(d:D (Zi (k+1)) (t ::ts) (.ok p r))(f:Fr k r):D (Zi k) (t ::ts) (.ok p r):=by
 match k,hk with
 | 0,_=>exact .expr_no (h.1 (by decide)) d
 | 1,_=>exact .chain (.opd1 d) (.more_no (f 1 (by decide)))
 | 2,_=>exact .chain (.opd2 d) (.more_no (f 2 (by decide)))
 | 3,_=>exact .neg_no (h.2.1 (by decide)) d
 | 4,_=>exact .cmp_one (.opd4 d) (f 4 (by decide))
 | 5,_=>exact .chain (.opd5 d) (.more_no (f 5 (by decide)))
 | 6,_=>exact .chain (.opd6 d) (.more_no (f 6 (by decide)))
 | 7,_=>exact .una_no (h.2.2 (by decide)) d
theorem Zj.mono {m k:Nat}{t:Ae}(h:Zj m t)(hk:k≤m):Zj k t:=⟨fun a=>h.1 (by omega),fun a=>h.2.1 (by omega),fun a=>h.2.2 (by omega)⟩
theorem AbE {t:Ae}{ts r:List Ae}{p:Pt} :∀ (n k:Nat),k+n≤8→Zj (k+n) t→D (Zi (k+n)) (t ::ts) (.ok p r)→Fr k r→D (Zi k) (t ::ts) (.ok p r)
 | 0,k,_,_,d,_=>d
 |n+1,k,hk,h,d,f=>by
  have e:k+(n+1)=(k+1)+n:=by omega
  rw[e] at d h;exact AcS (by omega) (h.mono (by omega)) (AbE n (k+1) (by omega) h d (f.mono (by omega))) f
theorem Acc {t:Ae}{ts r:List Ae}{p:Pt}{m k:Nat}(hm:m≤8)(hk:k≤m)(h:Zj m t)(d:D (Zi m) (t ::ts) (.ok p r))(f:Fr k r):D (Zi k) (t ::ts) (.ok p r):=by
 obtain ⟨n,rfl⟩:∃ n,m=k+n:=⟨m - k,by omega⟩
 exact AbE n k hm h d f
theorem AaR {k:Nat}(hk:k=1∨k=2∨k=5∨k=6){ts:List Ae}{x:PR}(d:D (Zi (k+1)) ts x):D (.opd k) ts x:=by
 rcases hk with rfl | rfl | rfl | rfl
 ·exact .opd1 d
 ·exact .opd2 d
 ·exact .opd5 d
 ·exact .opd6 d
theorem Acd {k:Nat}(hk:k=1∨k=2∨k=5∨k=6):Zi k= .chain k:=by rcases hk with rfl | rfl | rfl | rfl <;> rfl
def QX (e:Ex):Nat:=(Ca e.op).toNat
theorem AaS (e:Ex):QX e≤8:=by have:=Qy e.op;unfold QX;omega
theorem UN (e:Ex):((QX e:Nat):Int)=Ca e.op:=by have:=IA e.op;unfold QX;omega
def PA (e:Ex) (T:List Ae) (p:Pt):Prop:=∀ k r,k≤QX e→Fr k r→D (Zi k) (T ++r) (.ok p r)
def PB (e:Ex) (T:List Ae) (p:Pt):Prop:=∀ k r x,(k=1∨k=2∨k=5∨k=6)→k≤QX e→Fr (k+1) r→D (.more k p) r x→D (.chain k) (T ++r) x
def PH (e:Ex) (T:List Ae):Prop:=∃ t T',T=t ::T'∧Zj (QX e) t
theorem PA.of {e:Ex}{T:List Ae}{p:Pt}(a:PH e T)(h:∀ r,Fr (QX e) r→D (Zi (QX e)) (T ++r) (.ok p r)):PA e T p:=by
 obtain ⟨t,b,rfl,ht⟩:=a;intro k r hk f;exact Acc (AaS e) hk ht (h r (f.mono hk)) f
theorem PB.of {e:Ex}{T:List Ae}{p:Pt}(h:PA e T p)(a:∀ k,(k=1∨k=2∨k=5∨k=6)→k≠QX e):PB e T p:=by
 intro k r x hk hl f d;exact .chain (AaR hk (h (k+1) r (by have:=a k hk;omega) f)) d
theorem Sp {t u:Ae}{T r:List Ae}{p:Pt}{e:Ex}(ht:see AH t=true)(hu:see AS u=true)(h:PA e T p):D .prim ((t ::(T ++ [u])) ++r) (.ok p r):=by
 rw[List.cons_append,zC];exact .par ht (.encl (.beh ht (h 0 (u ::r) (zN _) (FL hu (by decide)))) hu)
theorem GD {s:List UInt8}{t:Ae}(h:see s t=true)(h1:s≠DO)(h2:s≠DT)(h3:s≠Bd)(m:Nat):Zj m t:=⟨fun _=>Ag h h1,fun _=>Ag h h2,fun _=>Ag h h3⟩
theorem M0 {t:Ae}(h4:t.kind≠4)(h5:t.kind≠5)(m:Nat):Zj m t:=⟨fun _=>AC h4 h5,fun _=>AC h4 h5,fun _=>AC h4 h5⟩
theorem M1 {e:Ex}{T:List Ae}{p:Pt}{a:Int}(b:∀ T p,LW e T p→PH e T∧PA e T p∧PB e T p)(h:Z8 a e.op (LW e) T p)(k:Nat)(r:List Ae)(hk:(k:Int)≤a)(c:k≤8)(f:Fr k r):D (Zi k) (T ++r) (.ok p r):=by
 rcases h with ⟨d,h⟩ | ⟨d,t,g,u,rfl,ht,hu,h⟩
 ·exact (b T p h).2.1 k r (by have:=UN e;omega) f
 ·exact Acc (m:=8) NLN c (GD ht (by decide) (by decide) (by decide) 8) (Sp ht hu (b g p h).2.1) f
theorem Ace {e:Ex}{T:List Ae}{p:Pt}{a:Int}(b:∀ T p,LW e T p→PH e T∧PA e T p∧PB e T p)(h:Z8 a e.op (LW e) T p)(k:Nat)(r:List Ae)(x:PR)(hc:k=1∨k=2∨k=5∨k=6)(hk:(k:Int)≤a)(f:Fr (k+1) r)(d:D (.more k p) r x):D (.chain k) (T ++r) x:=by
 rcases h with ⟨c,h⟩ | ⟨c,t,g,u,rfl,ht,hu,h⟩
 ·exact (b T p h).2.2 k r x hc (by have:=UN e;omega) f d
 ·exact .chain (AaR hc (Acc (m:=8) NLN (by omega) (GD ht (by decide) (by decide) (by decide) 8) (Sp ht hu (b g p h).2.1) f)) d
theorem Acf {e:Ex}{T:List Ae}{p:Pt}{b:Int}{m:Nat}(c:∀ T p,LW e T p→PH e T∧PA e T p∧PB e T p)(h:Z8 b e.op (LW e) T p)(hm:(m:Int)≤b):∃ t a,T=t ::a∧Zj m t:=by
 rcases h with ⟨d,h⟩ | ⟨d,t,a,u,rfl,ht,hu,h⟩
 ·obtain ⟨t,a,rfl,ht⟩:=(c T p h).1;exact ⟨t,a,rfl,ht.mono (by have:=UN e;omega)⟩
 ·exact ⟨t,_,rfl,GD ht (by decide) (by decide) (by decide) m⟩
theorem VX:∀ (b:List ByteArray) (c:List Ae) (a:List ByteArray) (u:Ae) (r:List Ae),see Bp u=true→b≠ []→(∀ x∈b,x≠AB [])→scL true b c→GO (c ++u ::r) a=(a ++b,true,u ::r)
 | [],_,_,_,_,_,h,_,_=>absurd rfl h
 | [x],c,a,u,r,hu,_,hx,h=>by
  obtain ⟨j,t,f,rfl,hp,h1,h2,h3⟩:=h;simp only[if_true] at hp;subst hp;have k:f= []:=h3;subst k;have hk:FU t:=⟨h1,by rw[h2];exact hx x (zQ ..)⟩
  show GO (t ::u ::r) a=_;rw[GO.eq_def];simp only[hk,if_true,Ag hu (show Bp≠Dy by decide),h2];simp
 |x ::y ::b,c,a,u,r,hu,_,hx,h=>by
  obtain ⟨j,t,f,rfl,hp,h1,h2,h3⟩:=h;simp only[if_true] at hp;subst hp;have hk:FU t:=⟨h1,by rw[h2];exact hx x (zQ ..)⟩
  obtain ⟨o,d,c2,rfl,g,h4,h5,h6⟩:=h3;simp only[Bool.false_eq_true,if_false] at g;obtain ⟨v,rfl,l⟩:=g;have i:=VX (y ::b) (d ::c2) (a ++ [x]) u r hu (by simp) (fun m n=>hx m (zS _ n)) ⟨[],d,c2,rfl,rfl,h4,h5,h6⟩;show GO (t ::v ::((d ::c2) ++u ::r)) a=_;rw[GO.eq_def];simp only[hk,if_true,l,h2];rw[zC] at i;exact i
theorem Zk {e:Ex}(h:Ca e.op=8):QX e=8:=by unfold QX;rw[h];rfl
theorem no8:∀ k,(k=1∨k=2∨k=5∨k=6)→k≠8:=fun k h=>by omega
theorem Fq {e:Ex}{T:List Ae}{p:Pt}(hl:Ca e.op=8)(d:∃ t f,T=t ::f∧Zj 8 t)(h:∀ r,D .prim (T ++r) (.ok p r)):PH e T∧PA e T p∧PB e T p:=by
 have a:=Zk hl;have b:PH e T:=by rw[PH,a];exact d
 have c:PA e T p:=PA.of b (by rw[a];exact fun r _=>h r);exact ⟨b,c,PB.of c (by rw[a];exact no8)⟩
theorem Zl {op:Int}(h: 11≤op∧op≤26):Ca op=1∨Ca op=2∨Ca op=4∨Ca op=5∨Ca op=6:=by
 unfold Ca
 repeat' split
 all_goals omega
theorem GE:∀ (e:Ex),e.okW→∀ T p,LW e T p→PH e T∧PA e T p∧PB e T p
 | .int _ n,_,T,p,h=>by
  obtain ⟨t,rfl,h1,h2,rfl⟩:=h;subst h2;exact Fq rfl ⟨t, [],rfl,M0 (by omega) (by omega) 8⟩ (fun r=> .num h1)
 | .text _ s,_,T,p,h=>by
  obtain ⟨t,rfl,h1,h2,rfl⟩:=h;subst h2;exact Fq rfl ⟨t, [],rfl,M0 (by omega) (by omega) 8⟩ (fun r=> .text h1)
 | .bool _ b,_,T,p,h=>by
  obtain ⟨t,rfl,h1,rfl⟩:=h;cases b with
  |true=>exact Fq rfl ⟨t, [],rfl,GD h1 (by decide) (by decide) (by decide) 8⟩ (fun r=> .tru h1)
  |false=>exact Fq rfl ⟨t, [],rfl,GD h1 (by decide) (by decide) (by decide) 8⟩ (fun r=> .fls h1)
 | .set _ _ _ _ B,ho,T,p,h=>by
  obtain ⟨t,c,u,rfl,h1,h2,h3,rfl⟩:=h;have L:EK B=true:=ho;rw[EK,zE,zE] at L;have S:∀ x∈B,x≠AB []:=fun x hx e=>by
   have:=z1.1 L.2.1 x hx;rw[e] at this;simp[vnB,AB,ByteArray.size] at this
  refine Fq rfl ⟨t,_,rfl,GD h1 (by decide) (by decide) (by decide) 8⟩ (fun r=>?_);rw[List.cons_append,zC];refine .set h1 (u:=u) ?_ h2;cases B with
  |nil=>
   have U:c= []:=h3;subst U;show Ga (u ::r)=_;rw[Ga,if_pos (show AM Bp (u ::r)=true from h2)]
  |cons x B=>
   have:=VX (x ::B) c [] u r h2 (by simp) S h3;rw[Ga,if_neg,List.singleton_append,this,List.nil_append];obtain ⟨af,E,ag,rfl,hp,ah,ai,aj⟩:=h3;simp only[if_true] at hp;subst hp;show ¬ see Bp E=true;rw[AC (by omega) (by omega)];decide
 | .name _ s,_,T,p,h=>by
  obtain ⟨t,rfl,h1,h2,rfl⟩:=h;subst h2;exact Fq rfl ⟨t, [],rfl,M0 (by omega) (by omega) 8⟩ (fun r=> .name h1)
 | .attr ..,_,T,p,h=>by cases h
 | .lett ..,_,T,p,h=>by cases h
 | .un i op k,ho,T,p,h=>by
  have H:=GE k ho.2;rcases h with ⟨rfl,t,o,q,rfl,h1,h2,rfl⟩ | ⟨rfl,t,o,q,rfl,h1,h2,rfl⟩ | ⟨rfl,t,u,v,o,q,rfl,h1,h2,h3,h4,rfl⟩
  ·have I:QX (.un i 8 k)=7:=rfl;have g:PH (.un i 8 k) (t ::o):=⟨t,o,rfl,⟨fun _=>Ag h1 (by decide),fun _=>Ag h1 (by decide),fun h=>by rw[I] at h;omega⟩⟩
   have a:PA (.un i 8 k) (t ::o) (.un t.at_ 8 q):=PA.of g (by rw[I];exact fun r f=> .una h1 (M1 H h2 7 r (by decide) (by decide) f));exact ⟨g,a,PB.of a (by rw[I];intro k h;omega)⟩
  ·have e3:QX (.un i 9 k)=3:=rfl;have g:PH (.un i 9 k) (t ::o):=⟨t,o,rfl,⟨fun _=>Ag h1 (by decide),fun h=>by rw[e3] at h;omega,fun h=>by rw[e3] at h;omega⟩⟩
   have a:PA (.un i 9 k) (t ::o) (.un t.at_ 9 q):=PA.of g (by rw[e3];exact fun r f=> .neg h1 (M1 H h2 3 r (by decide) (by decide) f));exact ⟨g,a,PB.of a (by rw[e3];intro k h;omega)⟩
  ·refine Fq rfl ⟨t,_,rfl,GD h1 (by decide) (by decide) (by decide) 8⟩ (fun r=>?_);rw[List.cons_append,List.cons_append,zC];exact .size h1 (.encl (.beh h2 ((H o q h4).2.1 0 (v ::r) (zN _) (FL h3 (by decide)))) h3)
 | .bin i op l r,ho,T,p,h=>by
  obtain ⟨V,W,X⟩:=ho;obtain ⟨t,y,w,z,A,rfl,h1,h2,h3,rfl⟩:=h;have J:=GE l W;have M:=GE r X;have ak:=Zl V;have N:QX (.bin i op l r)=(Ca op).toNat:=rfl;have al:Ca op≤DV op:=by unfold DV;split <;> omega
  have g:PH (.bin i op l r) (y ++t ::w):=by
   obtain ⟨Y,o,rfl,ht⟩:=Acf (m:=(Ca op).toNat) J h2 (by omega);exact ⟨Y,_,rfl,ht⟩
  by_cases h4:Ca op=4
  ·have e4:QX (.bin i op l r)=4:=by rw[N,h4];rfl
   have Z:DV op=5:=by unfold DV;rw[if_pos h4]
   rw[h4] at h1 h3;have a:PA (.bin i op l r) (y ++t ::w) (.bin t.at_ op z A):=PA.of g (by
    rw[e4];intro q f;rw[zC,List.cons_append];exact .cmp_two (.opd4 (M1 J h2 5 (t ::(w ++q)) (by omega) (by decide) (AbD h1))) h1 (.opd4 (M1 M h3 5 q (by omega) (by decide) (f.mono (by decide)))))
   exact ⟨g,a,PB.of a (by rw[e4];intro k h;omega)⟩
  ·obtain ⟨k,hk⟩:∃ k:Nat,Ca op=(k:Int):=⟨(Ca op).toNat,by omega⟩
   have hc:k=1∨k=2∨k=5∨k=6:=by omega
   have ek:QX (.bin i op l r)=k:=by rw[N,hk];rfl
   have Z:DV op=(k:Int):=by unfold DV;rw[if_neg h4,hk]
   rw[hk] at h1 h3;have O:BZ k t=some op:=h1;have P:∀ q x,Fr (k+1) q→D (.more k (.bin t.at_ op z A)) q x→D (.chain k) ((y ++t ::w) ++q) x:=fun q x f d=>by
    rw[zC,List.cons_append];exact Ace J h2 k (t ::(w ++q)) x hc (by omega) (AbD O) (.more O (AaR hc (M1 M h3 (k+1) q (by omega) (by omega) f)) d)
   have a:PA (.bin i op l r) (y ++t ::w) (.bin t.at_ op z A):=PA.of g (by
    rw[ek];intro q f;rw[Acd hc];exact P q _ (f.mono (by omega)) (.more_no (f k NLN)))
   refine ⟨g,a, ?_⟩;intro j q x aa ab f d;rw[ek] at ab;by_cases e:j=k
   ·subst e;exact P q x f d
   ·exact .chain (AaR aa (a (j+1) q (by rw[ek];omega) f)) d
 | .ite i c t e,ho,T,p,h=>by
  obtain ⟨ac,ad,ae⟩:=ho;obtain ⟨F,E,Q,y,w,K,z,A,R,rfl,a1,a2,a3,b1,b2,b3,rfl⟩:=h;have C:QX (.ite i c t e)=0:=rfl;have g:PH (.ite i c t e) (F ::(y ++E ::(w ++Q ::K))):=⟨F,_,rfl,⟨fun h=>by rw[C] at h;omega,fun h=>by rw[C] at h;omega,fun h=>by rw[C] at h;omega⟩⟩
  have a:PA (.ite i c t e) (F ::(y ++E ::(w ++Q ::K))) (.ite F.at_ z A R):=PA.of g (by
   rw[C];intro r f;rw[List.cons_append,zC,List.cons_append,zC,List.cons_append];exact .expr_if a1 (.beh a1 ((GE c ac y z b1).2.1 0 _ (zN _) (FL a2 (by decide)))) (.beh a2 ((GE t ad w A b2).2.1 0 _ (zN _) (FL a3 (by decide)))) (.beh a3 ((GE e ae K R b3).2.1 0 r (zN _) f)))
  exact ⟨g,a,PB.of a (by rw[C];intro k h;omega)⟩
end Go.Proofs.YtffkofkjpckmpaaGreatDoor
