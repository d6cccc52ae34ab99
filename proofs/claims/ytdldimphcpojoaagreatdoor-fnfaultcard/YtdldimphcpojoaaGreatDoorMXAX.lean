/-
  QO, QP, VPI, VPK, VPN, VPO. Own work.
-/
import Derived.Test.YtdldimphcpojoaaGreatDoorMXAD
import Derived.Test.YtdldimphcpojoaaGreatDoorMXAI
import Derived.Test.YtdldimphcpojoaaGreatDoorMXAJ
import Derived.Deep.RegionWith
import Derived.Test.YtdldimphcpojoaaGreatDoorMXAL
import Derived.Deep.AppendLies
namespace Go.Proofs.YtdldimphcpojoaaGreatDoor
set_option maxRecDepth 100000
set_option maxHeartbeats 1600000
open Go.RowKit
set_option linter.unusedVariables false
theorem Po (op:Int)(w:World)(a: 1≤op∧op≤27):
  Calls Tryz.prog 80 #[.int .i64 op] w fun e w'=>e= .returned (.int .i64 (Dw op))∧w'=w:=by
 have:op=1∨op=2∨op=3∨op=4∨op=5∨op=6∨op=7∨op=8∨op=9∨op=10∨op=11∨op=12∨op=13∨op=14∨op=15∨op=16∨op=17∨op=18∨op=19∨op=20∨op=21∨op=22∨op=23∨op=24∨op=25∨op=26∨op=27:=by omega
 rcases this with rfl | rfl | rfl | rfl | rfl | rfl | rfl | rfl | rfl | rfl | rfl | rfl | rfl | rfl | rfl | rfl | rfl | rfl | rfl | rfl | rfl | rfl | rfl | rfl | rfl | rfl | rfl
 all_goals
  go_enter Tryz.func80,Tryz.ntmps80
  go_wp2
  go_ret
  exact ⟨rfl,rfl⟩
def Yz:Array Value:=(Ph.map Value.string).toArray
def sg (k:Nat):ByteArray:=Ph.getD k ⟨#[]⟩
theorem VJ {k:Nat}(h:k < 16):Yz[k]? =some (.string (sg k)):=by
 match k,h with
 | 0,_=>rfl
 | 1,_=>rfl
 | 2,_=>rfl
 | 3,_=>rfl
 | 4,_=>rfl
 | 5,_=>rfl
 | 6,_=>rfl
 | 7,_=>rfl
 | 8,_=>rfl
 | 9,_=>rfl
 | 10,_=>rfl
 | 11,_=>rfl
 | 12,_=>rfl
 | 13,_=>rfl
 | 14,_=>rfl
 | 15,_=>rfl
 | k+16,h=>exact absurd h (by omega)
theorem WZ:∀ (j k:Fin 16),((sg k).data.toList==(sg j).data.toList)=decide (j=k):=by decide
theorem YA {j k:Nat}(a:j < 16)(hk:k < 16):((sg k).toList==(sg j).toList)=decide (j=k):=by
 rw[ByteArray.toList_eq,ByteArray.toList_eq];have:=WZ ⟨j,a⟩ ⟨k,hk⟩;simpa using this
theorem Uc (k:Nat)(hk:k < 16)(w:World):
  Calls Tryz.prog 60 #[.string (sg k)] w fun e w'=>e= .returned (.int .i64 (11+k))∧Below w.heap.size w w':=by
 have R:An (w.alloc (.cells #[.string ⟨#[43]⟩,.string ⟨#[45]⟩,.string ⟨#[42]⟩,.string ⟨#[47]⟩,.string ⟨#[37]⟩,.string ⟨#[124]⟩,.string ⟨#[38]⟩,.string ⟨#[92]⟩,.string ⟨#[61,61]⟩,.string ⟨#[33,61]⟩,.string ⟨#[60]⟩,.string ⟨#[60,61]⟩,.string ⟨#[105,110]⟩,.string ⟨#[119,105,116,104,105,110]⟩,.string ⟨#[97,110,100]⟩,.string ⟨#[111,114]⟩] 9)) w.heap.size Yz 9:=An.new w Yz 9;have b:=(Below.refl w.heap.size w).alloc NLN (.cells #[.string ⟨#[43]⟩,.string ⟨#[45]⟩,.string ⟨#[42]⟩,.string ⟨#[47]⟩,.string ⟨#[37]⟩,.string ⟨#[124]⟩,.string ⟨#[38]⟩,.string ⟨#[92]⟩,.string ⟨#[61,61]⟩,.string ⟨#[33,61]⟩,.string ⟨#[60]⟩,.string ⟨#[60,61]⟩,.string ⟨#[105,110]⟩,.string ⟨#[119,105,116,104,105,110]⟩,.string ⟨#[97,110,100]⟩,.string ⟨#[111,114]⟩] 9);have c:=Ab (fun j (d:j < 16)=>YA (k:=k) d hk);generalize sg k=s at c ⊢;go_enter Tryz.func60,Tryz.ntmps60
 go_wp2
 generalize w.alloc (.cells #[.string ⟨#[43]⟩,.string ⟨#[45]⟩,.string ⟨#[42]⟩,.string ⟨#[47]⟩,.string ⟨#[37]⟩,.string ⟨#[124]⟩,.string ⟨#[38]⟩,.string ⟨#[92]⟩,.string ⟨#[61,61]⟩,.string ⟨#[33,61]⟩,.string ⟨#[60]⟩,.string ⟨#[60,61]⟩,.string ⟨#[105,110]⟩,.string ⟨#[119,105,116,104,105,110]⟩,.string ⟨#[97,110,100]⟩,.string ⟨#[111,114]⟩] 9)=f at R b ⊢;go_loop [7] (fun i=>∃ j:Nat,j≤k∧i= .int .i64 j) (fun i=>16 - (intOf i).toNat)
 case atStart=>exact ⟨0,by omega,rfl⟩
 case round=>
  obtain ⟨j,d,rfl⟩:=hrel;have g:(j:Int) < 16:=by omega
  have hc:=(R.cell j).trans (VJ (by omega));have h:=Aa c j (by omega);generalize sg j=x at hc h;by_cases e:j=k
  ·rw[decide_eq_true e] at h;have a:=Ab e;clear e;go_wp2
   go_ret
   exact ⟨by rw[← Aa a];rfl,b⟩
  ·rw[decide_eq_false e] at h;have a:=Ab e;clear e;go_wp2
   go_round
   case rel=>exact ⟨j+1,by have:=Aa a;omega,by go_num⟩
   case measure=>simp[intOf];omega
theorem EL (op:Int)(l: 11≤op∧op≤26)(w:World):
  Calls Tryz.prog 81 #[.int .i64 op] w fun e w'=>e= .returned (.string (Cp op))∧Below w.heap.size w w':=by
 obtain ⟨k,hk,rfl⟩:∃ k:Nat,k < 16∧op=11+(k:Int):=⟨(op - 11).toNat,by omega,by omega⟩
 have R:An (w.alloc (.cells #[.string ⟨#[43]⟩,.string ⟨#[45]⟩,.string ⟨#[42]⟩,.string ⟨#[47]⟩,.string ⟨#[37]⟩,.string ⟨#[124]⟩,.string ⟨#[38]⟩,.string ⟨#[92]⟩,.string ⟨#[61,61]⟩,.string ⟨#[33,61]⟩,.string ⟨#[60]⟩,.string ⟨#[60,61]⟩,.string ⟨#[105,110]⟩,.string ⟨#[119,105,116,104,105,110]⟩,.string ⟨#[97,110,100]⟩,.string ⟨#[111,114]⟩] 9)) w.heap.size Yz 9:=An.new w Yz 9;have a:=(Below.refl w.heap.size w).alloc NLN (.cells #[.string ⟨#[43]⟩,.string ⟨#[45]⟩,.string ⟨#[42]⟩,.string ⟨#[47]⟩,.string ⟨#[37]⟩,.string ⟨#[124]⟩,.string ⟨#[38]⟩,.string ⟨#[92]⟩,.string ⟨#[61,61]⟩,.string ⟨#[33,61]⟩,.string ⟨#[60]⟩,.string ⟨#[60,61]⟩,.string ⟨#[105,110]⟩,.string ⟨#[119,105,116,104,105,110]⟩,.string ⟨#[97,110,100]⟩,.string ⟨#[111,114]⟩] 9);have f:=Ab (show Cp (11+(k:Int))=sg k by rw[Cp,sg];congr 1;omega);rw[Aa f];clear l f;go_enter Tryz.func81,Tryz.ntmps81
 go_wp2_with fail
 have m:w.heap.size < (w.alloc (.cells #[.string ⟨#[43]⟩,.string ⟨#[45]⟩,.string ⟨#[42]⟩,.string ⟨#[47]⟩,.string ⟨#[37]⟩,.string ⟨#[124]⟩,.string ⟨#[38]⟩,.string ⟨#[92]⟩,.string ⟨#[61,61]⟩,.string ⟨#[33,61]⟩,.string ⟨#[60]⟩,.string ⟨#[60,61]⟩,.string ⟨#[105,110]⟩,.string ⟨#[119,105,116,104,105,110]⟩,.string ⟨#[97,110,100]⟩,.string ⟨#[111,114]⟩] 9)).heap.size:=by simp
 generalize w.alloc (.cells #[.string ⟨#[43]⟩,.string ⟨#[45]⟩,.string ⟨#[42]⟩,.string ⟨#[47]⟩,.string ⟨#[37]⟩,.string ⟨#[124]⟩,.string ⟨#[38]⟩,.string ⟨#[92]⟩,.string ⟨#[61,61]⟩,.string ⟨#[33,61]⟩,.string ⟨#[60]⟩,.string ⟨#[60,61]⟩,.string ⟨#[105,110]⟩,.string ⟨#[119,105,116,104,105,110]⟩,.string ⟨#[97,110,100]⟩,.string ⟨#[111,114]⟩] 9)=g at R a m ⊢;go_loopw [7] (fun i wr=>∃ j:Nat,j≤k∧i= .int .i64 j∧Below g.heap.size g wr) (fun i _=>16 - (intOf i).toNat)
 case atStart=>exact ⟨0,by omega,rfl,BRN⟩
 case round=>
  obtain ⟨j,s,rfl,b⟩:=hrel;have t:(j:Int) < 16:=by omega
  have hc:=((R.after b NLN).cell j).trans (VJ (by omega));have c:=Ab (Uc j (by omega));have h:=b.size;have u:=Ab (show sg k=sg k from rfl);by_cases e:j=k
  ·subst e;obtain ⟨x,hx⟩:∃ x,x=sg j:=⟨_,rfl⟩
   rw[← hx] at hc c;have n:=Ab hx;clear hx;go_wp2_with fail
   refine (Aa c _).mono ?_;rintro r o ⟨rfl,d⟩;have p:((11+(j:Int))== 11+(j:Int))=true:=beq_self_eq_true _;dsimp only;go_wp2_with fail
   go_ret
   exact ⟨by rw[← Aa n];rfl,(a.trans (b.mono a.size)).trans (d.mono (Nat.le_trans a.size h))⟩
  ·generalize sg j=x at hc c ⊢;have p:((11+(j:Int))== 11+(k:Int))=false:=beq_eq_false_iff_ne.2 (by omega);have q:=Ab e;clear e;go_wp2_with fail
   refine (Aa c _).mono ?_;rintro r o ⟨rfl,d⟩;dsimp only;go_wp2_with fail
   go_roundw
   case rel=>exact ⟨j+1,by have:=Aa q;omega,by go_num,b.trans (d.mono h)⟩
   case measure=>simp[intOf];omega
set_option maxHeartbeats 800000
theorem Rf {k:Nat}(h:k < 10):J3 k=Hu (48+(k:Int)):=by
 have e:(48+(k:Int)).toNat=48+k:=by omega
 unfold J3 Hu;rw[Lib.decDigits,dif_pos h,e];rfl
theorem VK {k:Nat}(h: 10≤k):J3 k=J3 (k / 10) ++J3 (k % 10):=by
 apply Gg;rw[ByteArray.data_append];unfold J3;rw[Lib.decDigits,dif_neg (by omega)]
 conv=>rhs;rw[Lib.decDigits.eq_def (k % 10),dif_pos (by omega)]
 simp
theorem Lg (m:Nat)(x:Int){w:World}{a:Ending→World→Prop}(h:Calls Tryz.prog 42 #[.int .i64 m] w a)(e:x=m):Calls Tryz.prog 42 #[.int .i64 x] w a:=by rw[e];exact h
theorem Ud (k:Nat)(w:World)(hk:k≤9223372036854775807):
  Calls Tryz.prog 42 #[.int .i64 k] w fun e w'=>e= .returned (.string (J3 k))∧Below w.heap.size w w':=by
 induction k using Nat.strongRecOn generalizing w with
 | _ k b=>
  by_cases h:k < 10
  ·have d:(k:Int) < 10:=by omega
   have i:(48+(k:Int)) < 256:=by omega
   have j:=L2;have a:=Ab (Rf h);go_enter Tryz.func42,Tryz.ntmps42
   go_wp2
   go_ret
   exact ⟨by rw[Aa a];rfl,BRN.alloc NLN _⟩
  ·have d:(10 :Int)≤(k:Int):=by omega
   have a:=Ab (VK (k:=k) (by omega));have l:=Jl (n:=k / 10) (by omega);have o:=Jl (n:=k % 10) (by omega);have Hi:Hid (∀ (m:Nat),m < k→∀ (w:World),m≤9223372036854775807→Calls Tryz.prog 42 #[.int .i64 m] w fun e w'=>e= .returned (.string (J3 m))∧Below w.heap.size w w'):=b;clear b;go_enter Tryz.func42,Tryz.ntmps42
   go_wp2_with fail
   refine (Lg (k / 10) _ (Aa Hi (k / 10) (by omega) w (by omega)) (by omega)).mono ?_;rintro e f ⟨rfl,c⟩;go_wp2_with fail
   refine (Lg (k % 10) _ (Aa Hi (k % 10) (by omega) f (by omega)) (by omega)).mono ?_;rintro e p ⟨rfl,g⟩;go_wp2_with fail
   go_ret
   exact ⟨by rw[Aa a];rfl,c.trans (g.mono c.size)⟩
def jn (first:Bool):List ByteArray→ByteArray
 | []=>⟨#[]⟩
 | x ::r=>(if first then ⟨#[]⟩ else ⟨#[34,44,32,34]⟩) ++x ++jn false r
theorem SA (x:ByteArray):∀ (f:Bool) (l:List ByteArray),jn f (l ++ [x])=jn f l ++jn (f && l.isEmpty) [x]
 | f, []=>by simp[jn,IA]
 | f,y ::r=>by
  rw[List.cons_append,jn,jn,SA x false r,ByteArray.append_assoc];simp[ByteArray.append_assoc]
theorem Nt:∀ (f:Bool) (l:List ByteArray),(∀ x∈l,x.size≤32)→(jn f l).size≤36 * l.length
 | f, [],_=>by simp[jn,ByteArray.size]
 | f,x ::r,h=>by
  have h1:=Nt false r (fun y hy=>h y (List.mem_cons_of_mem _ hy));have h2:=h x (List.mem_cons_self ..);rw[jn];simp only[ByteArray.size_append,List.length_cons];have:(if f=true then (⟨#[]⟩:ByteArray) else ⟨#[34,44,32,34]⟩).size≤4:=by cases f <;> simp[ByteArray.size]
  omega
theorem Yb:(⟨#[34]⟩:ByteArray) ++⟨#[44,32]⟩ ++⟨#[34]⟩=⟨#[34,44,32,34]⟩:=by decide
theorem JP:∀ (r:List ByteArray),(⟨#[34]⟩:ByteArray) ++Fc false r=jn false r ++⟨#[34]⟩
 | []=>by simp[Fc,jn,IA,J8]
 | x ::r=>by
  have a:=JP r;rw[Fc,jn,← Yb];simp only[Bool.false_eq_true,if_false,ByteArray.append_assoc];rw[a]
theorem Rg {c:List ByteArray}(h:c≠ []):(⟨#[123,34]⟩:ByteArray) ++jn true c ++⟨#[34,125]⟩=Ub c:=by
 have e1:(⟨#[123,34]⟩:ByteArray)=⟨#[123]⟩ ++⟨#[34]⟩:=by decide
 have e2:(⟨#[34,125]⟩:ByteArray)=⟨#[34]⟩ ++⟨#[125]⟩:=by decide
 match c,h with
 | x ::r,_=>
  have d:=JP r;rw[Ub,Fc,jn,e1,e2];simp only[if_true,IA,ByteArray.append_assoc];rw[← ByteArray.append_assoc (a:=(⟨#[34]⟩:ByteArray)) (b:=Fc false r),d];simp only[ByteArray.append_assoc]
theorem Rh (a:Option Addr)(n c:Nat)(d:List ByteArray)(w:World)(h:Bg w a n c d)(h1:n≤64)(h2:∀ x∈d,x.size≤32):
  Calls Tryz.prog 22 #[.slice a n c,.string ⟨#[34,44,32,34]⟩] w fun e w'=>e= .returned (.string (jn true d))∧w'=w:=by
 have l:=Ab h.len;have m:=Ab h2;have e4:(⟨#[34,44,32,34]⟩:ByteArray).size=4:=rfl;have o:=Ab (fun (x:ByteArray)=>show jn false [x]=⟨#[34,44,32,34]⟩ ++x by simp[jn,J8]);generalize (⟨#[34,44,32,34]⟩:ByteArray)=r at e4 o ⊢;clear h2;go_enter Tryz.func22,Tryz.ntmps22
 go_wp2
 go_loop [5,6,7,10] (fun s _ _ i=>∃ k:Nat,k≤n∧i= .int .i64 k∧s= .string (jn true (d.take k))) (fun _ _ _ i=>n - (intOf i).toNat)
 case atStart=>exact ⟨0,Nat.zero_le _,rfl,rfl⟩
 case round=>
  obtain ⟨k,hk,rfl,rfl⟩:=hrel;have p:=Nt true (d.take k) (fun x hx=>Aa m x (List.mem_of_mem_take hx));rw[List.length_take] at p;by_cases t:k < n
  ·obtain ⟨b,z,u,_,hc⟩:=h.cells k t;subst u;have g:k < d.length:=by have:=Aa l;omega
   have v:(EP d k).size≤32:=by rw[Cf _ k g];exact Aa m _ (List.getElem_mem g)
   have f:=Ab (show jn true (d.take (k+1))=jn true (d.take k) ++jn (decide (k=0)) [EP d k] by
    rw[List.take_succ_eq_append_getElem g,SA,Cf _ k g]
    congr 2
    by_cases e:k=0
    ·subst e;rfl
    ·have:d.take k≠ []:=fun e2=>by have:=congrArg List.length e2;simp at this;rcases this with e3 | e3;omega;subst e3;simp at g
     rw[decide_eq_false e,Bool.true_and,List.isEmpty_eq_false_iff.2 this])
   generalize EP d k=x at hc v f;generalize jn true (d.take k)=q at p f;by_cases h0:k=0
   ·have y: ¬ ((0 :Int) < (k:Int)):=by omega
    have j:=Ab (show jn true (d.take (k+1))=q ++x by rw[Aa f,decide_eq_true h0];simp[jn,IA,J8]);clear f h0;go_wp2
    go_round
    case rel=>exact ⟨k+1,by omega,by go_num,by rw[Aa j]⟩
    case measure=>simp[intOf];omega
   ·have y:(0 :Int) < (k:Int):=by omega
    have j:=Ab (show jn true (d.take (k+1))=q ++r ++x by rw[Aa f,decide_eq_false h0,Aa o,ByteArray.append_assoc]);clear f h0;go_wp2
    go_round
    case rel=>exact ⟨k+1,by omega,by go_num,by rw[Aa j]⟩
    case measure=>simp[intOf];omega
  ·have e1:d.take k=d:=List.take_of_length_le (by have:=Aa l;omega);rw[e1];go_wp2
   go_ret
   exact ⟨rfl,rfl⟩
set_option maxHeartbeats 6400000
theorem MA {f:Int→List Int→List Int}{M:Nat}(b:∀ k O,(f k O).length≤max O.length M+1)(top:Int):∀ (a O:List Int),(CE f top a O).length≤max O.length M+a.length+1
 | [],O=>by rw[CE,List.length_append,List.length_singleton,List.length_nil];omega
 | k ::a,O=>by
  rw[CE];split
  ·rw[List.length_append,List.length_singleton,List.length_cons];omega
  ·have h1:=MA b top a (f k O);have h2:=b k O;rw[List.length_cons];omega
theorem Jt {K:List (List Int)}(h3:∀ a∈K,a.length≤3):∀ (n:Nat) (top:Int) (O:List Int),(Bb K n top O).length≤max O.length (K.length+3 * n)+1
 | 0,top,O=>by rw[Bb,List.length_append,List.length_singleton];omega
 | n+1,top,O=>by
  rw[Bb];dsimp only;split
  ·rw[List.length_append,List.length_singleton];omega
  ·rename_i hc;have h1:=MA (M:=K.length+3 * n) (Jt h3 n) top (K.getD top.toNat []) O;have h2:(K.getD top.toNat []).length≤3:=by
    rw[List.getD_eq_getElem?_getD];cases e:K[top.toNat]? with
    | none=>simp
    | some a=>exact h3 a (List.mem_of_getElem? e)
   omega
def Lv (w:World) (v:Value) (w':World) (v':Value):Prop:=(∀ k,k < w.heap.size→some k≠v.ownBlock→w'.heap[k]? =w.heap[k]?)∧(∀ q,v'.ownBlock=some q→v.ownBlock=some q∨w.heap.size≤q)∧w.heap.size≤w'.heap.size
theorem Lv.refl (w:World)(v:Value):Lv w v w v:=⟨fun _ _ _=>rfl,fun q h=> .inl h,NLN⟩
theorem Lv.trans {w a b:World}{v c d:Value}(h:Lv w v a c)(k:Lv a c b d):Lv w v b d:=
 ⟨fun j f g=>(k.1 j (Nat.lt_of_lt_of_le f h.2.2) (fun e=>by
  rcases h.2.1 j e.symm with e' | e'
  ·exact g e'.symm
  ·omega)).trans (h.1 j f g),fun q hq=>by
  rcases k.2.1 q hq with e | e
  ·exact h.2.1 q e
  ·exact .inr (Nat.le_trans h.2.2 e),Nat.le_trans h.2.2 k.2.2⟩
theorem Ea {w w':World}{a:Obj}{v:Value}{g n c:Nat}(b:(w.alloc a).grownBy w' v.ownBlock)(d:v.ownBlock=some g∨g=w.heap.size+1):Lv w v w' (.slice (some ⟨g,0,none⟩) n c):=
 ⟨fun k hk f=>(b.block k (by simp;omega) f).trans (Below.heap_alloc w a k hk),fun q hq=>by
  have:g=q:=by simpa[Value.ownBlock] using hq
  subst this;rcases d with e | e
  ·exact .inl e
  ·right;omega,by have:=b.size;simp at this;omega⟩
theorem An.keep {w w':World}{v a:Value}{b:Nat}{cs:Array Value}{t:TypeId}(R:An w b cs t)(h:Lv w v w' a)(c:v.ownBlock≠some b):An w' b cs t:=⟨(h.1 b R.lt (fun e=>c e.symm)).trans R.out⟩
def SH (B:Nat) (w:World) (v:Value) (R:List Int) (e:Ending) (w':World):Prop:=∃ v',e= .returned v'∧w'.ownsRow B 3 1 v' R.length (AN R)∧Below B w w'∧Lv w v w' v'
theorem Fy {w:World}{B:Nat}{v:Value}{O:List Int}{x:Int}(h:w.ownsRow B 3 1 v (O.length+1) (AN O ++ [.int .i64 x])):w.ownsRow B 3 1 v (O ++ [x]).length (AN (O ++ [x])):=by
 rw[List.length_append,List.length_singleton,AN,List.map_append];exact h
theorem Lw {K:List (List Int)}{n:Nat}{top:Int}{O:List Int}(h:top < 0∨(K.length:Int)≤top∨K.length < O.length):∀ fuel,Bb K fuel top O=O ++ [-1]
 | 0=>rfl
 | n+1=>by rw[Bb];exact if_pos h
theorem IQ (a:Option Addr)(n c:Nat)(B:Nat)(top:Int)(O:List Int)(v:Value)(w:World)(A:n≤4000)(h:top < 0∨(n:Int)≤top∨n < O.length)(C:O.length≤100000)(o:B≤w.heap.size)(j:w.ownsRow B 3 1 v O.length (AN O)):
  Calls Tryz.prog 106 #[.slice a n c,.int .i64 top,v] w fun e w'=>SH B w v (O ++ [-1]) e w':=by
 obtain ⟨i,hi,p,r,s⟩:=info_parts XI;obtain ⟨E,F,rfl,_⟩:=Ah j;rcases (show top < 0∨(0≤top∧(n:Int)≤top)∨(0≤top∧top < n∧n < O.length) by omega) with h1 | ⟨h0,h2⟩ | ⟨h0,h2,h3⟩
 ·have t:top < 0:=h1;go_enter Tryz.func106,Tryz.ntmps106
  go_wp2_with (at_builtin;refine wpList_append_lies _ rfl _ _ 28 rfl B 3 i (.int .i64 0) 1 8 Tryz.underlying28 hi p r s rfl (by decide) _ _ _ rfl (World.ownsRow.alloc j _) ⟨w.heap.size,0,none⟩ 1 1 [.int .i64 (-1)] rfl rfl ?a1 ?a2 (by decide) ?a3 ?a4 ?a5 _ rfl ?_)
  first | (case a1=>exact CL _ _ _ _ (by simp)) | skip
  case a2=>first | (intro u hu;simp at hu;subst hu;rfl) | rfl
  case a3=>unfold maxLen;omega
  case a4=>omega
  case a5=>first | (simp;omega) | omega
  intro g cap x d b f y;have k:=Ea (n:=O.length+1) (c:=cap) b f;have l:=((Below.refl B w).alloc o (.cells #[.int .i64 (-1)] 3)).grown b (by simp;omega) (fun q hq=>(j.lt q hq).1);have m:=Fy d;clear b f d;go_wp2_with fail
  go_ret
  exact ⟨_,rfl,m,l,k⟩
 ·have t: ¬ top < 0:=by omega
  have z:(n:Int)≤top:=h2;go_enter Tryz.func106,Tryz.ntmps106
  go_wp2_with (at_builtin;refine wpList_append_lies _ rfl _ _ 28 rfl B 3 i (.int .i64 0) 1 8 Tryz.underlying28 hi p r s rfl (by decide) _ _ _ rfl (World.ownsRow.alloc j _) ⟨w.heap.size,0,none⟩ 1 1 [.int .i64 (-1)] rfl rfl ?b1 ?b2 (by decide) ?b3 ?b4 ?b5 _ rfl ?_)
  first | (case b1=>exact CL _ _ _ _ (by simp)) | skip
  case b2=>first | (intro u hu;simp at hu;subst hu;rfl) | rfl
  case b3=>unfold maxLen;omega
  case b4=>omega
  case b5=>first | (simp;omega) | omega
  intro g cap x d b f y;have k:=Ea (n:=O.length+1) (c:=cap) b f;have l:=((Below.refl B w).alloc o (.cells #[.int .i64 (-1)] 3)).grown b (by simp;omega) (fun q hq=>(j.lt q hq).1);have m:=Fy d;clear b f d;go_wp2_with fail
  go_ret
  exact ⟨_,rfl,m,l,k⟩
 ·have t: ¬ top < 0:=by omega
  have z: ¬ ((n:Int)≤top):=by omega
  have H:(n:Int) < (O.length:Int):=by omega
  go_enter Tryz.func106,Tryz.ntmps106
  go_wp2_with (at_builtin;refine wpList_append_lies _ rfl _ _ 28 rfl B 3 i (.int .i64 0) 1 8 Tryz.underlying28 hi p r s rfl (by decide) _ _ _ rfl (World.ownsRow.alloc j _) ⟨w.heap.size,0,none⟩ 1 1 [.int .i64 (-1)] rfl rfl ?c1 ?c2 (by decide) ?c3 ?c4 ?c5 _ rfl ?_)
  first | (case c1=>exact CL _ _ _ _ (by simp)) | skip
  case c2=>first | (intro u hu;simp at hu;subst hu;rfl) | rfl
  case c3=>unfold maxLen;omega
  case c4=>omega
  case c5=>first | (simp;omega) | omega
  intro g cap x d b f y;have k:=Ea (n:=O.length+1) (c:=cap) b f;have l:=((Below.refl B w).alloc o (.cells #[.int .i64 (-1)] 3)).grown b (by simp;omega) (fun q hq=>(j.lt q hq).1);have m:=Fy d;clear b f d;go_wp2_with fail
  go_ret
  exact ⟨_,rfl,m,l,k⟩
theorem RA {f:Int→List Int→List Int}{top:Int}{a:List Int}{j:Nat}(b:j < a.length)(O:List Int):CE f top (a.drop j) O=if top≤a[j] then O ++ [-1] else CE f top (a.drop (j+1)) (f a[j] O):=by
 rw[List.drop_eq_getElem_cons b,CE]
theorem EN (a:Option Addr)(n c:Nat)(N:List Nd)(E:World)(B:Nat)(J:Hj E a n c N)(ar:E.heap.size≤B)(aa:n≤4000)(h3:∀ au∈N.map Nd.kids,au.length≤3):
  ∀ (fuel:Nat) (top:Int) (O:List Int) (v:Value) (w:World),fuel≤4000→(N.length≤fuel∨top < fuel)→O.length≤100000→Below E.heap.size E w→B≤w.heap.size→w.ownsRow B 3 1 v O.length (AN O)→
  Calls Tryz.prog 106 #[.slice a n c,.int .i64 top,v] w fun e w'=>SH B w v (Bb (N.map Nd.kids) fuel top O) e w':=by
 have L:=Ab J.len;have M:=Ab (show (N.map Nd.kids).length=n by rw[List.length_map,J.len]);have ab:=Ab h3;obtain ⟨i,hi,ac,ad,ae⟩:=info_parts XI;intro fuel
 induction fuel with
 | zero=>
  intro top O v w _ av P Q H o;have hl:=Aa L;rw[Lw (K:=N.map Nd.kids) (n:=n) (by rw[List.length_map];omega) 0];exact IQ a n c B top O v w aa (by omega) P H o
 | succ fuel af=>
  intro top O v w aI av P Q H o;by_cases hu:top < 0∨(n:Int)≤top∨n < O.length
  ·rw[Lw (K:=N.map Nd.kids) (n:=n) (by rw[Aa M];exact hu) (fuel+1)];exact IQ a n c B top O v w aa hu P H o
  ·obtain ⟨t,rfl⟩:∃ t:Nat,top=(t:Int):=⟨top.toNat,by omega⟩
   have aw:t < n:=by omega
   have aJ:O.length≤n:=by omega
   have S:t < N.length:=by rw[Aa L];exact aw
   have aK: ¬ ((t:Int) < 0):=by omega
   have aL: ¬ ((n:Int)≤(t:Int)):=by omega
   have aM:(t:Int) < (n:Int):=by omega
   have aN: ¬ ((n:Int) < (O.length:Int)):=by omega
   have aO:t≤fuel:=by have:=Aa L;omega
   have ag:=Ab (show Bb (N.map Nd.kids) (fuel+1) (t:Int) O=CE (Bb (N.map Nd.kids) fuel) (t:Int) (N[t].kids) O by
    rw[Bb];dsimp only;rw[if_neg (by rw[Aa M];exact hu),Int.toNat_natCast,List.getD_eq_getElem?_getD,List.getElem?_map,List.getElem?_eq_getElem S];rfl)
   have T:N[t].kids.length≤3:=Aa ab _ (List.mem_map_of_mem (List.getElem_mem S));rw[Aa ag];clear ag hu;obtain ⟨b,ax,rfl,ay,an,nn,aP,aQ,l,aR,ah,c1,c2,c3,c4,az,I⟩:=J.cells t S;have c4:=(Q.cell (p:=⟨b,ax+t * 5+4,none⟩) ay).trans c4;have U:=Ab (fun k O=>Jt (K:=N.map Nd.kids) (Aa ab) fuel k O);rw[Aa M] at U;generalize N[t]=x at ah c1 c2 c3 c4 az I T ⊢;generalize Bb (N.map Nd.kids) fuel=F at af U ⊢;have ai:=Ab I.len;have aS:l≤3:=by rw[← I.len];exact T
   obtain ⟨aA,aB,rfl,_⟩:=Ah o;have aj:=Ab (show CE F (t:Int) (x.kids.drop 0) O=CE F (t:Int) x.kids O by rw[List.drop_zero]);generalize CE F (t:Int) x.kids O=R at aj ⊢;clear ah c1 c2 c3 T;go_enter Tryz.func106,Tryz.ntmps106
   go_wp2_with fail
   go_loopw [2,33] (fun u i wr=>∃ (j:Nat) (d:List Int),j≤l∧i= .int .i64 j∧Hid (CE F (t:Int) (x.kids.drop j) d=R)∧d.length≤n+3 * fuel+j∧wr.ownsRow B 3 1 u d.length (AN d)∧Below B w wr∧Lv w (.slice aA O.length aB) wr u) (fun _ i _=>l - (intOf i).toNat)
   case atStart=>exact ⟨0,O,by omega,rfl,aj,by omega,o,BRN,Lv.refl _ _⟩
   case round=>
    obtain ⟨j,d,aT,rfl,ak,aU,m,r,V⟩:=hrel;obtain ⟨aV,aW,rfl,_⟩:=Ah m;have W:=Nat.le_trans H r.size;have al:=Q.trans (r.mono ar);by_cases ao:j < l
    ·have aX:(j:Int) < (l:Int):=by omega
     have ap:j < x.kids.length:=by rw[Aa ai];exact ao
     obtain ⟨aY,ok,rfl,aZ,aC⟩:=(I.below al NLN).cells j ap;have s:=Ab (RA (f:=F) (top:=(t:Int)) ap d);rw[Aa ak] at s;have aq:=Ab ao;generalize x.kids[j]=y at aC s;by_cases hy:(t:Int)≤y
     ·have z:=Ab (show R=d ++ [-1] by rw[Aa s,if_pos hy]);go_wp2_with (at_builtin;refine wpList_append_lies _ rfl _ _ 28 rfl B 3 i (.int .i64 0) 1 8 Tryz.underlying28 hi ac ad ae rfl (by decide) _ _ _ rfl (World.ownsRow.alloc m _) ⟨wr.heap.size,0,none⟩ 1 1 [.int .i64 (-1)] rfl rfl ?d1 ?d2 (by decide) ?d3 ?d4 ?d5 _ rfl ?_)
      first | (case d1=>exact CL _ _ _ _ (by simp)) | skip
      case d2=>first | (intro u hu;simp at hu;subst hu;rfl) | rfl
      case d3=>unfold maxLen;omega
      case d4=>omega
      case d5=>first | (simp;omega) | omega
      intro g cap aD A h C aE;have X:=Ea (n:=d.length+1) (c:=cap) h C;have Y:=(r.alloc W (.cells #[.int .i64 (-1)] 3)).grown h (by simp;omega) (fun q hq=>(m.lt q hq).1);have Z:=Fy A;clear h C A;go_wp2_with fail
      go_ret
      exact ⟨_,rfl,by rw[Aa z];exact Z,Y,V.trans X⟩
     ·have z:=Ab (show CE F (t:Int) (x.kids.drop (j+1)) (F y d)=R by rw[Aa s,if_neg hy]);have a0:=Aa U y d;clear s;go_wp2_with (go_at_call 106;refine (af y d _ wr (by omega) (by omega) (by omega) al W m).mono ?_;rintro e a1 ⟨a2,rfl,aF,aG,aH⟩)
      go_roundw
      case rel=>exact ⟨j+1,F y d,Aa aq,by go_num,z,by omega,aF,r.trans aG,V.trans aH⟩
      case measure=>have:=Aa aq;simp[intOf];omega
    ·have e:j=l:=by omega
     subst e;have z:=Ab (show R=d ++ [(t:Int)] by
      rw[← Aa ak,List.drop_of_length_le (by rw[Aa ai];exact NLN),CE])
     go_wp2_with (at_builtin;refine wpList_append_lies _ rfl _ _ 28 rfl B 3 i (.int .i64 0) 1 8 Tryz.underlying28 hi ac ad ae rfl (by decide) _ _ _ rfl (World.ownsRow.alloc m _) ⟨wr.heap.size,0,none⟩ 1 1 [.int .i64 (t:Int)] rfl rfl ?e1 ?e2 (by decide) ?e3 ?e4 ?e5 _ rfl ?_)
     first | (case e1=>exact CL _ _ _ _ (by simp)) | skip
     case e2=>first | (intro u hu;simp at hu;subst hu;rfl) | rfl
     case e3=>unfold maxLen;omega
     case e4=>omega
     case e5=>first | (simp;omega) | omega
     intro g cap aD A h C aE;have X:=Ea (n:=d.length+1) (c:=cap) h C;have Y:=(r.alloc W (.cells #[.int .i64 (t:Int)] 3)).grown h (by simp;omega) (fun q hq=>(m.lt q hq).1);have Z:=Fy A;clear h C A;go_wp2_with fail
     go_ret
     exact ⟨_,rfl,by rw[Aa z];exact Z,Y,V.trans X⟩
set_option maxHeartbeats 3200000
def Fz (F:Int→Nat) (ks:List Int):Nat:=ks.foldl (fun d k=>max d (F k)) 0
theorem RB (F:Int→Nat)(a:List Int)(k:Int):Fz F (a ++ [k])=max (Fz F a) (F k):=by
 rw[Fz,List.foldl_append];rfl
theorem PN {F:Int→Nat}{M:Nat}(h:∀ k,F k≤M):∀ (a:List Int) (d:Nat),d≤M→a.foldl (fun d k=>max d (F k)) d≤M
 | [],d,hd=>hd
 | k ::a,d,hd=>by
  rw[List.foldl_cons];exact PN h a _ (by have:=h k;omega)
theorem Ju (K:List (List Int)):∀ (n:Nat) (t:Int),BM K n t≤n+1
 | 0,t=>by rw[BM];show 1≤0+1;omega
 | n+1,t=>by
  rw[BM];dsimp only;have:=PN (F:=BM K n) (M:=n+1) (Ju K n) (K.getD t.toNat []) 0 (by omega);omega
theorem Cu (a:Option Addr)(n c:Nat)(N:List Nd)(q:World)(E:Hj q a n c N)(H:∀ t,(h:t < N.length)→∀ y∈N[t].kids,0≤y∧y < (t:Int)):
  ∀ (fuel t:Nat) (w:World),fuel≤4001→t < n→t < fuel→Below q.heap.size q w→
  Calls Tryz.prog 31 #[.slice a n c,.int .i64 t] w fun e w'=>e= .returned (.int .i64 (BM (N.map Nd.kids) fuel (t:Int)))∧Below w.heap.size w w':=by
 have O:=Ab E.len;have P:=Ab H;clear H;intro fuel
 induction fuel with
 | zero=>intro t w _ _ h;omega
 | succ fuel r=>
  intro t w ad Q ae u;have v:t < N.length:=by rw[Aa O];exact Q
  have af:(t:Int) < (n:Int):=by omega
  have hk:=Aa P t v;have I:=Ab (show BM (N.map Nd.kids) (fuel+1) (t:Int)=Fz (BM (N.map Nd.kids) fuel) N[t].kids+1 by
   rw[BM];dsimp only;rw[Int.toNat_natCast,List.getD_eq_getElem?_getD,List.getElem?_map,List.getElem?_eq_getElem v];rfl)
  have J:=Ab (Ju (N.map Nd.kids) fuel);obtain ⟨b,R,rfl,S,an,nn,ag,ah,g,ai,T,c1,c2,c3,c4,U,l⟩:=E.cells t v;have c4:=(u.cell (p:=⟨b,R+t * 5+4,none⟩) S).trans c4;rw[Aa I];clear I T c1 c2 c3;generalize N[t]=x at c4 U l hk ⊢;generalize BM (N.map Nd.kids) fuel=F at r J ⊢;have K:=Ab l.len;have aj:=l.small;have V:=Ab hk;clear hk;go_enter Tryz.func31,Tryz.ntmps31
  go_wp2_with fail
  go_loopw [5,15] (fun d i wr=>∃ j:Nat,j≤g∧i= .int .i64 j∧d= .int .i64 (Fz F (x.kids.take j))∧Fz F (x.kids.take j)≤4001∧Below w.heap.size w wr) (fun _ i _=>g - (intOf i).toNat)
  case atStart=>exact ⟨0,by omega,rfl,rfl,by simp[Fz],BRN⟩
  case round=>
   obtain ⟨j,ak,rfl,rfl,z,f⟩:=hrel;have A:=u.trans (f.mono u.size);by_cases L:j < g
   ·have al:(j:Int) < (g:Int):=by omega
    have B:j < x.kids.length:=by rw[Aa K];exact L
    obtain ⟨ao,ok,rfl,ap,W⟩:=(l.below A NLN).cells j B;obtain ⟨X,Y⟩:=Aa V x.kids[j] (List.getElem_mem B);have m:=Ab (show Fz F (x.kids.take (j+1))=max (Fz F (x.kids.take j)) (F x.kids[j]) by rw[List.take_succ_eq_append_getElem B,RB]);have o:=Ab L;generalize x.kids[j]=y at W X Y m;obtain ⟨s,rfl⟩:∃ s:Nat,y=(s:Int):=⟨y.toNat,by omega⟩
    have aq:=Aa J (s:Int);generalize Fz F (x.kids.take j)=D at z m;by_cases ar:D < F (s:Int)
    ·have Z:(D:Int) < (F (s:Int):Int):=by omega
     have k:=Ab (show Fz F (x.kids.take (j+1))=F (s:Int) by rw[Aa m];omega);go_wp2_with (go_at_call 31;refine (r s wr (by omega) (by omega) (by omega) A).mono ?_;rintro e aa ⟨rfl,C⟩)
     go_roundw
     case rel=>exact ⟨j+1,Aa o,by go_num,by rw[Aa k],by rw[Aa k];omega,f.trans (C.mono f.size)⟩
     case measure=>have:=Aa o;simp[intOf];omega
    ·have Z: ¬ ((D:Int) < (F (s:Int):Int)):=by omega
     have k:=Ab (show Fz F (x.kids.take (j+1))=D by rw[Aa m];omega);go_wp2_with (go_at_call 31;refine (r s wr (by omega) (by omega) (by omega) A).mono ?_;rintro e aa ⟨rfl,C⟩)
     go_roundw
     case rel=>exact ⟨j+1,Aa o,by go_num,by rw[Aa k],by rw[Aa k];omega,f.trans (C.mono f.size)⟩
     case measure=>have:=Aa o;simp[intOf];omega
   ·have e:j=g:=by omega
    subst e;have ab:=Ab (show x.kids.take j=x.kids from List.take_of_length_le (by rw[Aa K];exact NLN));rw[Aa ab] at z ⊢;generalize M:Fz F x.kids=D at z ⊢;have ac:=Ab M;clear M;go_wp2_with fail
    go_ret
    exact ⟨by rw[Aa ac,Int.natCast_add];rfl,f⟩
end Go.Proofs.YtdldimphcpojoaaGreatDoor
