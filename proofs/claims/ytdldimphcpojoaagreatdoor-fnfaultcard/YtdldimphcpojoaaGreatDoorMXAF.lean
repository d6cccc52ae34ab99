/-
  JT, STI, Comp, FA0, DA, AP, DB, KTA, QC, QD, QS0, MKL. Own work.
-/
import Derived.Test.YtdldimphcpojoaaGreatDoorMXAD
import Derived.Test.YtdldimphcpojoaaGreatDoorMXAE
import Derived.Test.YtdldimphcpojoaaGreatDoorMXAP
import Derived.Test.YtdldimphcpojoaaGreatDoorMXAA
import Derived.Lib.SlicesCompact
import Derived.Test.YtdldimphcpojoaaGreatDoorMXAC
import Derived.Test.YtdldimphcpojoaaGreatDoorMXAJ
import Derived.Lib.ItoaNum
import Derived.Deep.RegionWith
import Derived.Test.YtdldimphcpojoaaGreatDoorMXAK
import Derived.Deep.RegionHeld3
import Derived.Laws.AppendOwnNone
import Derived.Deep.RegionLaw
import Derived.Lib.Builder
import Derived.Lib.AppendStr
import Derived.Lib.OthersKept
import Derived.Lib.UnsafeStr
import Derived.Test.YtdldimphcpojoaaGreatDoorShelf
import Derived.Sort.OwnSorted
namespace Go.Proofs.YtdldimphcpojoaaGreatDoor
open Go.RowKit
set_option linter.unusedVariables false
def Ex.kids:Ex→List Ex
 | .un _ _ k=> [k]
 | .bin _ _ l r=> [l,r]
 | .ite _ c t e=> [c,t,e]
 | _=> []
structure Y8 (p:Prop):Prop where
 out:p
theorem QN {P a:Prop}(h:Y8 P→a)(p:P):a:=h ⟨p⟩
theorem Gu {P:Program}{g:Array Oper}{b:Oper}{a:Act}{w:World}{K:Act→World→Prop}{j:Exit→Act→World→Prop}{k:Prop}(l:b.guard=none)(x:Operand)(name:String)(m:Array TypeId)(n:b.op= .call { callee:= .invoke x name,args:=#[],argTypes:=m })(T:TypeId)(u:Value)(hx:a.eval x= .iface T u)
  (F:Nat)(o:P.types.size+Made.depth=F)(f:FuncId)(c:Value)(hm:∀ w,(method F T u name).run P w= .ok (f,c) w)(d:Func)(p:P.funcs[f]? =some d)(q:(d.name== "runtime.NumGoroutine")=false)(i:d.body.isNone=false)
  (R:Value→World→Prop)(hc:Calls P f #[c] w fun e w'=>∃ v,e= .returned v∧R v w')(h:∀ v w',R v w'→K (a.put b.dst v) w'):
  if Region.wanted b (yielded g a.tmps)=true then Oper.wp P b a w K j else k:=by
 have r:Region.wanted b (yielded g a.tmps)=true:=by simp[Region.wanted,l]
 rw[if_pos r];unfold Oper.wp;have s:(execOp a.eval b).run P w= .ok (.enter f #[c]) w:=by
  have h1:d.name≠ "runtime.NumGoroutine" :=by simpa using q
  have h2:(callFunc f #[c]).run P w= .ok (.enter f #[c]) w:=by
   have h3:d.body≠none:=fun e=>by rw[e] at i;cases i
   simp[callFunc,p,h1,h3]
  have h4:(callMethod (.iface T u) name #[]).run P w= .ok (.enter f #[c]) w:=by
   subst o;have:(method (P.types.size+100) T u name).run P w= .ok (f,c) w:=hm w;simpa[callMethod,Result.andThen,go_sem,this] using h2
  generalize a.eval=y at hx ⊢;simp only[execOp,n,resolve,invoke,Sem.run_bind,Sem.run_pure,Result.andThen_ok,List.map_toArray,List.map_nil,hx];exact h4
 rw[s,Oper.upon_enter];refine hc.mono ?_;rintro e w' ⟨v,rfl,t⟩;exact h v w' t
end Go.Proofs.YtdldimphcpojoaaGreatDoor
namespace Go.Proofs.YtdldimphcpojoaaGreatDoor
open Go.RowKit Go.Lib
theorem Wj {x y:List UInt8}(h:Ax x=Ax y):x=y:=by rw[← Do x,h,Do]
theorem XK (x y:List UInt8):sl (Ax x) (Ax y)=true↔x < y:=by rw[Kd];simp[Ax]
theorem MG (x y:List UInt8):x≤y↔sl (Ax y) (Ax x)=false:=by
 rw[Bool.eq_false_iff,Ne,XK];exact List.not_lt.symm
theorem SO {x y a:ByteArray}(h:sl y x=false)(k:sl a y=false):sl a x=false:=by
 rw[Bool.eq_false_iff];intro hc;rcases Hz y a with h1 | h1 | h1
 ·rw[H4 h1 hc] at h;cases h
 ·subst h1;rw[hc] at h;cases h
 ·rw[h1] at k;cases k
theorem SP (d:List (List UInt8)):(d.mergeSort fun x y=>decide (x≤y)).Pairwise fun x y=>sl (Ax y) (Ax x)=false:=by
 have:=List.pairwise_mergeSort (le:=fun x y:List UInt8=>decide (x≤y)) (fun a b c h k=>by
  rw[decide_eq_true_eq,MG] at h k ⊢;exact SO h k) (fun a b=>by
  rw[Bool.or_eq_true,decide_eq_true_eq,decide_eq_true_eq,MG,MG];cases h:sl (Ax b) (Ax a) with
  | false=>exact .inl rfl
  | true=>exact .inr (Ke h)) d
 exact this.imp fun {a b} h=>by rwa[decide_eq_true_eq,MG] at h
theorem Kf (d:Array (List UInt8))(f:∀ i j,i≤j→j < d.size→sl (Ax d[j]!) (Ax d[i]!)=false):
  ∀ m,m≤d.size→Ff ((compactUpTo d m).map Ax)=true∧∀ x,x∈compactUpTo d m↔∃ j,j < m∧d[j]! =x
 | 0,_=>⟨rfl,fun x=>⟨fun h=>by simp[compactUpTo] at h,fun ⟨j,c,_⟩=>by omega⟩⟩
 | m+1,hm=>by
  obtain ⟨h1,h2⟩:=Kf d f m (by omega);rw[compactUpTo_succ];cases hk:keeps d m with
  | true=>
   rw[if_pos rfl];refine ⟨?_,fun x=>?_⟩
   ·rw[Ff,decide_eq_true_eq] at h1 ⊢;rw[List.map_append,List.pairwise_append];refine ⟨h1,by simp,fun a l b k=>?_⟩;simp only[List.map_cons,List.map_nil,List.mem_singleton] at k;subst k;obtain ⟨x,hx,rfl⟩:=List.mem_map.1 l;obtain ⟨j,c,rfl⟩:=(h2 x).1 hx;simp only[keeps,decide_eq_true_eq] at hk;have n:d[m]! ≠d[m - 1]! :=by
     rcases hk with hk | hk
     ·omega
     ·exact hk
    rcases Hz (Ax d[j]!) (Ax d[m]!) with h | h | h
    ·exact h
    ·exfalso;have a1:=f j (m - 1) (by omega) (by omega);rw[h] at a1;have a2:=f (m - 1) m (by omega) (by omega);exact n (Wj (Qa _ _ a2 a1))
    ·have:=f j m (by omega) (by omega);rw[h] at this;cases this
   ·rw[List.mem_append,h2,List.mem_singleton];constructor
    ·rintro (⟨j,c,e⟩ | e)
     ·exact ⟨j,by omega,e⟩
     ·exact ⟨m,by omega,e.symm⟩
    ·rintro ⟨j,c,e⟩;by_cases g:j=m
     ·subst g;exact .inr e.symm
     ·exact .inl ⟨j,by omega,e⟩
  | false=>
   rw[if_neg (by simp),List.append_nil];refine ⟨h1,fun x=>?_⟩;rw[h2];simp only[keeps,decide_eq_false_iff_not,not_or,Classical.not_not] at hk;constructor
   ·rintro ⟨j,c,e⟩;exact ⟨j,by omega,e⟩
   ·rintro ⟨j,c,e⟩;by_cases g:j=m
    ·subst g;exact ⟨j - 1,by omega,by rw[← hk.2];exact e⟩
    ·exact ⟨j,by omega,e⟩
def Kg (ss:List ByteArray):List (List UInt8):=Lib.compact ((ss.map Ak).mergeSort fun x y=>decide (x≤y))
theorem H5 (c:List ByteArray):Cx c ((Kg c).map Ax):=by
 unfold Kg Lib.compact;generalize d:((c.map Ak).mergeSort fun x y=>decide (x≤y))=b;have f:=SP (c.map Ak);rw[d] at f;obtain ⟨h1,h2⟩:=Kf b.toArray (fun i j k a=>by
  have h:j < b.length:=by simpa using a
  have g:i < b.length:=by omega
  rw[getElem!_pos _ j a,getElem!_pos _ i (by simpa using g)];simp only[List.getElem_toArray];by_cases e:i=j
  ·subst e;exact Dk _
  ·exact List.pairwise_iff_getElem.1 f i j g h (by omega)) b.length (by simp)
 refine ⟨h1,fun x=>?_⟩;rw[List.mem_map];have hm:∀ y,y∈b↔y∈c.map Ak:=fun y=>by rw[← d,List.mem_mergeSort]
 constructor
 ·rintro ⟨y,hy,rfl⟩;obtain ⟨j,a,e⟩:=(h2 y).1 hy;rw[getElem!_pos _ j (by simpa using a)] at e;simp only[List.getElem_toArray] at e;have:y∈b:=by rw[← e];exact List.getElem_mem a
  obtain ⟨s,hs,rfl⟩:=List.mem_map.1 ((hm y).1 this);rw[BE];exact hs
 ·intro hx;have:Ak x∈b:=(hm _).2 (List.mem_map.2 ⟨x,hx,rfl⟩);obtain ⟨j,a,e⟩:=List.getElem_of_mem this;refine ⟨Ak x,(h2 _).2 ⟨j,a, ?_⟩,BE x⟩;rw[getElem!_pos _ j (by simpa using a)];simpa using e
theorem Wk (a:List ByteArray):((a.map Ak).map fun l=>Value.string ⟨l.toArray⟩)=a.map Value.string:=by
 rw[List.map_map];apply List.map_congr_left;intro s _;cases s;simp[Ak]
theorem Wl (a:List (List UInt8)):(a.map Ax).map Value.string=a.map fun l=>Value.string ⟨l.toArray⟩:=by
 rw[List.map_map];rfl
end Go.Proofs.YtdldimphcpojoaaGreatDoor
namespace Go.Proofs.YtdldimphcpojoaaGreatDoor
set_option maxRecDepth 100000
set_option maxHeartbeats 800000
open Go.RowKit
def H6 (k:Nat):ByteArray:=⟨(Lib.decDigits k).toArray⟩
theorem GO {k:Nat}(h:k < 10):H6 k=Hu (48+(k:Int)):=by
 have e:(48+(k:Int)).toNat=48+k:=by omega
 unfold H6 Hu;rw[Lib.decDigits,dif_pos h,e];rfl
theorem NH {k:Nat}(h: 10≤k):H6 k=H6 (k / 10) ++H6 (k % 10):=by
 apply Gg;rw[ByteArray.data_append];unfold H6;rw[Lib.decDigits,dif_neg (by omega)]
 conv=>rhs;rw[Lib.decDigits.eq_def (k % 10),dif_pos (by omega)]
 simp
theorem Dy (k:Nat):(H6 k).size≤k+1:=by
 induction k using Nat.strongRecOn with
 | _ k a=>
  by_cases h:k < 10
  ·rw[GO h,Dx];omega
  ·rw[NH (by omega),Ao,GO (k:=k % 10) (by omega),Dx];have:=a (k / 10) (by omega);omega
theorem Kj (m:Nat)(x:Int){w:World}{a:Ending→World→Prop}(h:Calls Tryz.prog 42 #[.int .i64 m] w a)(e:x=m):Calls Tryz.prog 42 #[.int .i64 x] w a:=by rw[e];exact h
theorem LL (k:Nat)(w:World)(hk:k≤9999999):
  Calls Tryz.prog 42 #[.int .i64 k] w fun e w'=>e= .returned (.string (H6 k))∧Below w.heap.size w w':=by
 induction k using Nat.strongRecOn generalizing w with
 | _ k b=>
  by_cases h:k < 10
  ·have d:(k:Int) < 10:=by omega
   have i:(48+(k:Int)) < 256:=by omega
   have j:=L2;have a:=Ab (GO h);go_enter Tryz.func42,Tryz.ntmps42
   go_wp2
   go_ret
   exact ⟨by rw[Aa a];rfl,BRN.alloc NLN _⟩
  ·have d:(10 :Int)≤(k:Int):=by omega
   have a:=Ab (NH (k:=k) (by omega));have l:=Dy (k / 10);have n:=Dy (k % 10);have Hi:Hid (∀ (m:Nat),m < k→∀ (w:World),m≤9999999→Calls Tryz.prog 42 #[.int .i64 m] w fun e w'=>e= .returned (.string (H6 m))∧Below w.heap.size w w'):=b;clear b;go_enter Tryz.func42,Tryz.ntmps42
   go_wp2_with fail
   refine (Kj (k / 10) _ (Aa Hi (k / 10) (by omega) w (by omega)) (by omega)).mono ?_;rintro e f ⟨rfl,c⟩;go_wp2_with fail
   refine (Kj (k % 10) _ (Aa Hi (k % 10) (by omega) f (by omega)) (by omega)).mono ?_;rintro e o ⟨rfl,g⟩;go_wp2_with fail
   go_ret
   exact ⟨by rw[Aa a];rfl,c.trans (g.mono c.size)⟩
theorem CY (x:Int)(w:World)(h0: 0≤x)(hk:x≤9999999):
  Calls Tryz.prog 42 #[.int .i64 x] w fun e w'=>e= .returned (.string (H6 x.toNat))∧Below w.heap.size w w':=by
 obtain ⟨k,rfl⟩:=Int.eq_ofNat_of_zero_le h0;exact LL k w (by omega)
set_option maxHeartbeats 1600000
set_option linter.unusedVariables false
theorem Ai.drewN {lo hi:Nat}(w:World)(k:Nat):Ai lo hi w (w.drewN k):=Ai.of_below (below_drewN (Below.refl w.heap.size w) k) NLN
theorem Ai.then_below {lo hi B:Nat}{w a b:World}(t:Ai lo hi w a)(h:Below B a b)(d:w.heap.size≤B):Ai lo hi w b:=
 ⟨h.os.trans t.os,h.tape.trans t.tape,h.output.trans t.output,Nat.le_trans t.size h.size,fun k hk c=>(h.block k (by omega)).trans (t.block k hk c)⟩
theorem Rd.setFar {w w':World}{R:Nat}{a:Option Addr}{n c p:Nat}(h:Rd w R a n c p)(b:Below (R+1) w w'):Rd w' R a n c p:=h.after b (Nat.lt_succ_self _)
theorem BA (R:Nat)(a:Option Addr)(n c:Nat)(w:World)(h:Cr w R a n c):
  Calls Tryz.prog 18 #[.pointer (some ⟨R,0,none⟩)] w fun e w'=>∃ r:Int,e= .returned (.int .i64 r)∧0≤r∧r≤255∧Cr w' R a n c∧Ai R (R+1) w w':=by
 obtain ⟨p,h⟩:=h;have f:=h.row.cell 0;have c1:=h.row.cell 1;have l:=h.row.frozen 1;simp at f c1;have m:=h.small;by_cases d:p < n
 ·obtain ⟨b,o,q,g,s,t,i,j⟩:=h.cells p d;subst g;have k:(p:Int) < (n:Int):=by omega
  go_enter Tryz.func18,Tryz.ntmps18
  go_wp2
  go_quiet (fail)
  go_wp2
  go_quiet (fail)
  go_wp2
  go_ret
  refine ⟨_,rfl,i,j,⟨p+1, ?_⟩, ?_⟩
  ·rw[show ((p:Int)+1)=((p+1 :Nat):Int) from by omega];exact (h.after (below_drewN (Below.refl (R+1) w) _) (by omega)).step d
  ·exact (Ai.drewN w _).trans (Ai.setCell _ ⟨R,1,none⟩ _ (Nat.le_refl R) (Nat.lt_succ_self R))
 ·have k:(n:Int)≤(p:Int):=by omega
  go_enter Tryz.func18,Tryz.ntmps18
  go_wp2
  go_quiet (fail)
  go_wp2
  go_ret
  exact ⟨_,rfl,by omega,by omega,⟨p,h.after (below_drewN (Below.refl (R+1) w) _) (by omega)⟩,Ai.drewN w _⟩
theorem Cr.after {w w':World}{B R:Nat}{a:Option Addr}{n c:Nat}(h:Cr w R a n c)(b:Below B w w')(d:R < B):Cr w' R a n c:=by
 obtain ⟨p,h⟩:=h;exact ⟨p,h.after b d⟩
theorem Cr.lt {w:World}{R:Nat}{a:Option Addr}{n c:Nat}(h:Cr w R a n c):R < w.heap.size:=by
 obtain ⟨p,h⟩:=h;exact h.row.lt
theorem Wm (w:World)(k:Nat)(hk:k < 8):∃ s:ByteArray,s.size≤10∧(w.alloc (.cells #[.string ⟨#[114,101,97,100]⟩,.string ⟨#[119,114,105,116,101]⟩,.string ⟨#[97,100,109,105,110]⟩,.string ⟨#[109,97,105,108]⟩,.string ⟨#[97]⟩,.string ⟨#[98]⟩,.string ⟨#[99,46,100]⟩,.string ⟨#[122,95,57]⟩] 9)).cell? ⟨w.heap.size,k,none⟩=some (.string s):=by
 have h:=(An.new w #[.string ⟨#[114,101,97,100]⟩,.string ⟨#[119,114,105,116,101]⟩,.string ⟨#[97,100,109,105,110]⟩,.string ⟨#[109,97,105,108]⟩,.string ⟨#[97]⟩,.string ⟨#[98]⟩,.string ⟨#[99,46,100]⟩,.string ⟨#[122,95,57]⟩] 9).cell k
 match k,hk with
 | 0,_=>exact ⟨_,by decide,h⟩
 | 1,_=>exact ⟨_,by decide,h⟩
 | 2,_=>exact ⟨_,by decide,h⟩
 | 3,_=>exact ⟨_,by decide,h⟩
 | 4,_=>exact ⟨_,by decide,h⟩
 | 5,_=>exact ⟨_,by decide,h⟩
 | 6,_=>exact ⟨_,by decide,h⟩
 | 7,_=>exact ⟨_,by decide,h⟩
def Wn (R:Nat) (a:Option Addr) (n c:Nat) (w:World) (e:Ending) (w':World):Prop:=
 ∃ s:ByteArray,e= .returned (.string s)∧s.size≤1000∧Cr w' R a n c∧Ai R (R+1) w w'
theorem Kh (R:Nat)(a:Option Addr)(n c:Nat)(w:World)(h:Cr w R a n c):
  Calls Tryz.prog 101 #[.pointer (some ⟨R,0,none⟩)] w fun e w'=>Wn R a n c w e w':=by
 go_enter Tryz.func101,Tryz.ntmps101
 go_wp2_with fail
 refine (BA R a n c w h).mono ?_;rintro e i ⟨x,rfl,A,B,h1,b⟩;by_cases f:x % 8=6
 ·have l:(x % 8== 6)=true:=beq_iff_eq.2 f;clear f;go_wp2_with fail
  refine (BA R a n c _ h1).mono ?_;rintro e o ⟨y,rfl,p,q,h2,g⟩;go_wp2_with fail
  refine (CY _ _ (by omega) (by omega)).mono ?_;rintro e r ⟨rfl,d⟩;have t:=Dy (x / 8).toNat;have C:(⟨#[115]⟩:ByteArray).size=1:=rfl;have E:(⟨#[58]⟩:ByteArray).size=1:=rfl;go_wp2_with fail
  refine (CY _ _ (by omega) (by omega)).mono ?_;rintro e F ⟨rfl,m⟩;have H:=Dy y.toNat;have j:=h2.lt;go_wp2_with fail
  go_ret
  refine ⟨_,rfl, ?_,(h2.after d j).after m (Nat.lt_of_lt_of_le j d.size),((b.trans g).then_below d (Nat.le_trans b.size g.size)).then_below m (Nat.le_trans (Nat.le_trans b.size g.size) d.size)⟩;rw[Ao,Ao,Ao];omega
 by_cases k:x % 8=7
 ·have l:(x % 8== 6)=false:=beq_eq_false_iff_ne.2 f;have u:(x % 8== 7)=true:=beq_iff_eq.2 k;clear f k;by_cases v: 240 < x
  ·go_wp2_with fail
   go_ret
   exact ⟨_,rfl,by decide,h1,b⟩
  ·have I: ¬ (240 < x):=v;go_wp2_with fail
   refine (BA R a n c _ h1).mono ?_;rintro e o ⟨y,rfl,p,q,h2,g⟩;go_wp2_with fail
   refine (CY _ _ (by omega) (by omega)).mono ?_;rintro e r ⟨rfl,d⟩;have t:=Dy (y % 90).toNat;have j:=h2.lt;go_wp2_with fail
   go_ret
   refine ⟨_,rfl, ?_,h2.after d j,(b.trans g).then_below d (Nat.le_trans b.size g.size)⟩;rw[Ao];have:(⟨#[120,46]⟩:ByteArray).size=2:=rfl;omega
 have l:(x % 8== 6)=false:=beq_eq_false_iff_ne.2 f;have u:(x % 8== 7)=false:=beq_eq_false_iff_ne.2 k;clear f k;obtain ⟨s,hs,hc⟩:=Wm i (x / 8 % 8).toNat (by omega);have z:=h1.lt;go_wp2_with fail
 go_ret
 exact ⟨s,rfl,by omega,h1.after ((Below.refl i.heap.size i).alloc NLN _) z,b.then_below ((Below.refl i.heap.size i).alloc NLN _) b.size⟩
set_option maxHeartbeats 3200000
theorem Ai.grown {lo hi:Nat}{w a b:World}{row:Option Nat}(t:Ai lo hi w a)(c:a.grownBy b row)(d:∀ k,row=some k→w.heap.size≤k):Ai lo hi w b:=
 t.then_below (B:=w.heap.size) ((Below.refl w.heap.size a).grown c t.size d) NLN
structure CT (w:World) (base:Nat) (x:Option Addr) (K:List ByteArray) (cx:Nat):Prop where
 own:w.ownsRow base 9 1 (.slice x K.length cx) K.length (K.map Value.string)
 small:∀ s∈K,s.size≤1000
theorem CT.sizes {w:World}{b c:Nat}{x:Option Addr}{K:List ByteArray}(h:CT w b x K c):∀ j,j < K.length→(EP K j).size≤maxLen:=fun j a=>by
 rw[Cf K j a];have:=h.small _ (List.getElem_mem a);unfold maxLen;omega
theorem CT.strs {w:World}{b a:Nat}{x:Option Addr}{K:List ByteArray}(h:CT w b x K a):Bg w x K.length a K:=Bg.of_owns h.own h.sizes
theorem CT.nil (w:World)(a:Nat):CT w a none [] 0:=⟨World.ownsRow_nil _ _ _ _,by simp⟩
theorem CT.touch {w w':World}{a lo hi b:Nat}{x:Option Addr}{K:List ByteArray}(h:CT w a x K b)(t:Ai lo hi w w')(c:hi≤a):CT w' a x K b:=
 ⟨DN h.own (fun y hy=>by subst hy;have:=h.own.lt _ rfl;exact t.block _ this.2 (.inr (by omega))),h.small⟩
theorem CT.below {w w':World}{a B b:Nat}{x:Option Addr}{K:List ByteArray}(h:CT w a x K b)(c:Below B w w')(d:w.heap.size≤B):CT w' a x K b:=
 ⟨DN h.own (fun y hy=>by subst hy;have:=h.own.lt _ rfl;exact c.block _ (by omega)),h.small⟩
theorem CT.mono {w:World}{a base' b:Nat}{x:Option Addr}{K:List ByteArray}(h:CT w a x K b)(c:base'≤a):CT w base' x K b:=⟨IW h.own c,h.small⟩
def RT (w:World) (m:Nat) (e:Ending) (w':World):Prop:=∃ x cx K,e= .returned (.slice x K.length cx)∧K.length≤m∧CT w' w.heap.size x K cx∧Below w.heap.size w w'
theorem Qb (m:Nat)(f:Int)(w:World)(hm:m≤100)(H: 0≤f)(I:f≤200):
  Calls Tryz.prog 23 #[.int .i64 m,.int .i64 f] w fun e w'=>RT w m e w':=by
 obtain ⟨i,hi,q,r,t⟩:=info_parts Kc;go_enter Tryz.func23,Tryz.ntmps23
 go_wp2_with fail
 go_loopw [5,6] (fun v c wr=>∃ (k:Nat) (K:List ByteArray) (x:Option Addr) (a:Nat),k≤m∧c= .int .i64 k∧v= .slice x K.length a∧K.length≤k∧CT wr w.heap.size x K a∧Below w.heap.size w wr) (fun _ c _=>m - (intOf c).toNat)
 case atStart=>exact ⟨0, [],none,0,Nat.zero_le _,rfl,rfl,NLN,CT.nil _ _,BRN⟩
 case round=>
  obtain ⟨k,K,x,a,hk,rfl,rfl,J,d,b⟩:=hrel;by_cases L:k < m
  ·have y:(k:Int) < (m:Int):=by omega
   go_wp2_with fail
   refine (CY _ _ (by omega) (by omega)).mono ?_;rintro e z ⟨rfl,g⟩;have M:=Dy (f+(k:Int)).toNat;have N:(⟨#[119]⟩:ByteArray).size=1:=rfl;have j:=b.trans (g.mono b.size);have l:=d.below g NLN;have n:=l.own;have A:=j.size;clear d g b;go_wp2_with (at_builtin;refine wpList_append_own _ rfl _ _ 34 rfl w.heap.size 9 i (.string ByteArray.empty) 1 16 Tryz.underlying34 hi q r t rfl (by decide) _ _ _ rfl (n.alloc _) ⟨z.heap.size,0,none⟩ 1 1 [.string (⟨#[119]⟩ ++H6 (f+(k:Int)).toNat)] rfl rfl ?c1 ?c2 ?c3 ?c4 ?c5 ?_)
   case c1=>exact cell_one_new _ _ _
   case c2=>intro u hu;simp at hu;subst hu;rfl
   case c3=>unfold maxLen;omega
   case c4=>omega
   case c5=>simp;omega
   intro O B h o _;have C:Below w.heap.size w B:=(j.alloc A _).grown o (by simp;omega) (fun k hk=>(n.lt k hk).1);obtain ⟨E,F,p⟩:=Em h;rw[p] at h ⊢;clear o p;go_wp2
   go_roundw
   case rel=>exact ⟨k+1,K ++ [⟨#[119]⟩ ++H6 (f+(k:Int)).toNat],E,F,by omega,by go_num,by rw[List.length_append];rfl,by simp;omega,⟨by rw[List.map_append,List.length_append];exact h,fun s hs=>by
    rcases List.mem_append.1 hs with hs | hs
    ·exact l.small s hs
    ·simp only[List.mem_singleton] at hs;subst hs;rw[Ao];omega⟩,C⟩
   case measure=>simp[intOf] <;> omega
  ·have y: ¬ ((k:Int) < (m:Int)):=by omega
   go_wp2
   go_ret
   exact ⟨x,a,K,rfl,by omega,d,b⟩
theorem Ki (m f:Int)(w:World)(m0: 0≤m)(hm:m≤100)(a: 0≤f)(b:f≤200):
  Calls Tryz.prog 23 #[.int .i64 m,.int .i64 f] w fun e w'=>RT w m.toNat e w':=by
 obtain ⟨k,rfl⟩:=Int.eq_ofNat_of_zero_le m0;exact Qb k f w (by omega) a b
def Wo (R:Nat) (a:Option Addr) (n c:Nat) (w:World) (top:Nat) (e:Ending) (w':World):Prop:=
 ∃ x cx K,e= .returned (.slice x K.length cx)∧K.length≤top∧CT w' w.heap.size x K cx∧Cr w' R a n c∧Ai R (R+1) w w'
theorem H7 {K M:List ByteArray}(h:Cx K M)(hs:∀ s∈K,s.size≤1000):∀ s∈M,s.size≤1000:=fun s hm=>hs s ((h.mem s).1 hm)
theorem RU (R:Nat)(a:Option Addr)(n c:Nat)(w:World)(h:Cr w R a n c):
  Calls Tryz.prog 102 #[.pointer (some ⟨R,0,none⟩)] w fun e w'=>Wo R a n c w 64 e w':=by
 obtain ⟨i,hi,M,N,O⟩:=info_parts Kc;have P:=h.lt;go_enter Tryz.func102,Tryz.ntmps102
 go_wp2_with fail
 refine (BA R a n c w h).mono ?_;rintro e Q ⟨x,rfl,Y,Z,h1,o⟩;clear h;by_cases g:x % 13=12
 ·have S:(x % 13== 12)=true:=beq_iff_eq.2 g;clear g;go_wp2_with fail
  refine (BA R a n c Q h1).mono ?_;rintro e j ⟨y,rfl,aa,ab,h2,b⟩;have d:=o.trans b;clear h1 o b;go_wp2_with fail
  refine (Ki _ _ _ (by omega) (by omega) (by omega) (by omega)).mono ?_;rintro e B ⟨ac,c3,ad,rfl,ae,C,b3⟩;go_wp2_with fail
  refine (Eh _ _ _ _ _ C.strs (by omega)).mono ?_;rintro e T ⟨p,c4,q,rfl,r,b4,f⟩;have E:=b3.trans (b4.mono b3.size);have hl:=f.len;go_wp2_with fail
  go_ret
  exact ⟨p,c4,q,rfl,by omega,⟨IW r (Nat.le_trans d.size b3.size),H7 f C.small⟩,h2.after E h2.lt,d.then_below E d.size⟩
 ·have S:(x % 13== 12)=false:=beq_eq_false_iff_ne.2 g;clear g;go_wp2_with fail
  go_loopw [4,5] (fun v t wr=>∃ (k:Int) (K:List ByteArray) (y:Option Addr) (z:Nat),0≤k∧k≤6∧(K.length:Int)+k≤6∧t= .int .i64 k∧v= .slice y K.length z∧CT wr w.heap.size y K z∧Cr wr R a n c∧Ai R (R+1) w wr) (fun _ t _=>(intOf t).toNat)
  case atStart=>exact ⟨x % 13 % 7, [],none,0,by omega,by omega,by simp;omega,rfl,rfl,CT.nil _ _,h1,o⟩
  case round=>
   obtain ⟨k,K,y,z,af,ag,ah,rfl,rfl,l,m,ht⟩:=hrel;by_cases hk: 0 < k
   ·go_wp2_with fail
    refine (Kh R a n c wr m).mono ?_;rintro e j ⟨s,rfl,U,h2,b⟩;have F:=l.touch b (by omega);have d:=ht.trans b;have H:=F.own;have V:=d.size;clear l m ht b;go_wp2_with (at_builtin;refine wpList_append_own _ rfl _ _ 34 rfl w.heap.size 9 i (.string ByteArray.empty) 1 16 Tryz.underlying34 hi M N O rfl (by decide) _ _ _ rfl (H.alloc _) ⟨j.heap.size,0,none⟩ 1 1 [.string s] rfl rfl ?c1 ?c2 ?c3 ?c4 ?c5 ?_)
    case c1=>exact cell_one_new _ _ _
    case c2=>intro u hu;simp at hu;subst hu;rfl
    case c3=>unfold maxLen;omega
    case c4=>omega
    case c5=>simp;omega
    intro ai B A I _;have J:Below w.heap.size j B:=((Below.refl w.heap.size j).alloc V _).grown I (by simp;omega) (fun k hk=>(H.lt k hk).1);obtain ⟨W,X,L⟩:=Em A;rw[L] at A ⊢;clear I L;go_wp2
    go_roundw
    case rel=>exact ⟨k - 1,K ++ [s],W,X,by omega,by omega,by simp;omega,by go_num,by rw[List.length_append];rfl,⟨by rw[List.map_append,List.length_append];exact A,fun u hu=>by
     rcases List.mem_append.1 hu with hu | hu
     ·exact F.small u hu
     ·simp only[List.mem_singleton] at hu;subst hu;exact U⟩,h2.after J P,d.then_below J NLN⟩
    case measure=>simp[intOf] <;> omega
   ·have aj: ¬ (0 < k):=hk;have ak:K.length≤6:=by omega
    go_wp2_with fail
    refine (Eh _ _ _ _ _ l.strs (by omega)).mono ?_;rintro e T ⟨p,c4,q,rfl,r,b4,f⟩;have hl:=f.len;go_wp2_with fail
    go_ret
    exact ⟨p,c4,q,rfl,by omega,⟨IW r ht.size,H7 f l.small⟩,m.after b4 m.lt,ht.then_below b4 ht.size⟩
theorem Iv:∀ (b:Bool) (l:List UInt8),∃ a,l=a ++Ce b l∧Ce b a= []
 | _, []=>⟨[],by simp[Ce],by simp[Ce]⟩
 | false,c ::r=>by
  rw[Ce];split
  ·rename_i h;obtain ⟨a,h1,h2⟩:=Iv false r;exact ⟨c ::a,by rw[List.cons_append,← h1],by rw[Ce,if_pos h];exact h2⟩
  ·rename_i h;split
   ·rename_i h3;obtain ⟨a,h1,h2⟩:=Iv true r;exact ⟨c ::a,by rw[List.cons_append,← h1],by rw[Ce,if_neg h,if_pos h3];exact h2⟩
   ·exact ⟨[],rfl,by simp[Ce]⟩
 | true,c ::r=>by
  rw[Ce];split
  ·rename_i h;obtain ⟨a,h1,h2⟩:=Iv false r;exact ⟨c ::a,by rw[List.cons_append,← h1],by rw[Ce,if_pos h];exact h2⟩
  ·rename_i h;obtain ⟨a,h1,h2⟩:=Iv true r;exact ⟨c ::a,by rw[List.cons_append,← h1],by rw[Ce,if_neg h];exact h2⟩
inductive Tks (n:Nat):List UInt8→List Af→List UInt8→Prop
 | nil {l:List UInt8} (h:Ce false l= []):Tks n l [] []
 | cons {pre r:List UInt8} {c:UInt8} {k m:Int} {s:List UInt8} {wd:Nat} {T:List Af} {A:List UInt8} (hp:Ce false pre= []) (hb:Ce false (c ::r)=c ::r) (ho:Cc (c ::r)= .tok k m s wd) (ht:Tks n ((c ::r).drop wd) T A):
   Tks n (pre ++c ::r) (⟨k,m,Ax s,n - (r.length+1)⟩ ::T) ((c ::r).take wd ++32 ::A)
theorem Mo (n:Nat):∀ (f:Nat) (l:List UInt8) (out:List Af),l.length < f→(AH n f l out).code=0→∃ T i,(AH n f l out).toks=out ++T∧Tks n l T i
 | 0,l,out,h,_=>by omega
 | f+1,l,out,h,hc=>by
  obtain ⟨q,h1,h2⟩:=Iv false l;cases b:Ce false l with
  | nil=>
   refine ⟨[], [], ?_,.nil b⟩;rw[AH,b];simp
  | cons c r=>
   have d:Ce false (c ::r)=c ::r:=by rw[← b,DV]
   have o:=FA false l;rw[b] at o h1;have e:AH n (f+1) l out=AH n (f+1) (c ::r) out:=by rw[← b,Fg]
   rw[e] at hc ⊢;cases a:Cc (c ::r) with
   | bad code=>
    rw[Fh d a] at hc;exfalso;have p:code=0:=hc;have:code≠0:=by
     rw[Cc] at a;split at a
     ·rw[Bn] at a;(split at a <;> cases a) <;> decide
     ·split at a
      ·rw[Bm] at a;(split at a <;> cases a) <;> decide
      ·split at a
       ·rw[BH] at a;(split at a <;> cases a) <;> decide
       ·rw[A8] at a;split at a
        ·cases a
        ·(split at a <;> cases a) <;> decide
    exact this p
   | tok k m s g=>
    rw[Eo d a] at hc ⊢;have j:=ES (c ::r);rw[a] at j;obtain ⟨t,u,_⟩: 1≤g∧g≤(c ::r).length∧s.length≤g:=j;obtain ⟨T,i,e1,e2⟩:=Mo n f _ _ (by rw[List.length_drop];omega) hc;exact ⟨⟨k,m,Ax s,n - (r.length+1)⟩ ::T,_,by rw[e1,List.append_assoc];rfl,by rw[h1];exact .cons h2 d a e2⟩
structure Kp (B b:Nat) (w w':World):Prop where
 low:Below B w w'
 oth:Lib.OthersKept 5 (some b) w w'
theorem Kp.refl (B b:Nat)(w:World):Kp B b w w:=⟨BRN,Lib.OthersKept.refl _ _ _⟩
theorem Kp.trans {B b:Nat}{w a c:World}(h:Kp B b w a)(k:Kp B b a c):Kp B b w c:=⟨h.low.trans k.low,h.oth.trans k.oth⟩
theorem Kp.size {B b:Nat}{w w':World}(h:Kp B b w w'):w.heap.size≤w'.heap.size:=h.low.size
theorem Kp.of_all {B b:Nat}{w w':World}(h:Below w.heap.size w w')(a:B≤w.heap.size):Kp B b w w':=
 ⟨h.mono a,fun k c hk _ _=>(h.block k (Array.getElem?_eq_some_iff.1 hk).1).trans hk⟩
theorem Kp.row {B b:Nat}{w w':World}(h:Kp B b w w'){g:Nat}{cs:Array Value}{t:TypeId}(R:An w g cs t)(a:g≠b)(ht:t≠5):An w' g cs t:=
 ⟨h.oth g _ R.out (fun e=>a (Option.some.inj e)) (fun c d e=>ht (by injection e))⟩
def Nq:List ByteArray→ByteArray
 | []=>⟨#[]⟩
 | x ::r=>x ++Nq r
theorem Mr (x:ByteArray):∀ (l:List ByteArray),Nq (l ++ [x])=Nq l ++x
 | []=>by simp[Nq,IA,J8]
 | y ::r=>by rw[List.cons_append,Nq,Nq,Mr x r,ByteArray.append_assoc]
theorem Ev.inv {N:List Nd}{i:Nat}{f:Ex}(u:Ev N i f){x:Nd}(hx:N[i]? =some x):
  (x.op=1∧f= .int i x.num)∨(x.op=2∧f= .text i x.text)∨(x.op=3∧f= .bool i (decide (x.num=1)))∨(x.op=4∧∃ a n c,f= .set i a n c x.names)∨(x.op=5∧f= .name i x.text)∨(x.op=6∧f= .attr i x.num)∨(x.op=7∧f= .lett i x.num)∨
  ((8≤x.op∧x.op≤10)∧∃ (k:Nat) (e:Ex),x.kids= [(k:Int)]∧Ev N k e∧f= .un i x.op e)∨
  ((11≤x.op∧x.op≤26)∧∃ (k l:Nat) (e g:Ex),x.kids= [(k:Int),(l:Int)]∧Ev N k e∧Ev N l g∧f= .bin i x.op e g)∨
  (x.op=27∧∃ (k l m:Nat) (e g h:Ex),x.kids= [(k:Int),(l:Int),(m:Int)]∧Ev N k e∧Ev N l g∧Ev N m h∧f= .ite i e g h):=by
 have d:∀ {y:Nd},N[i]? =some y→y=x:=fun k=>Option.some.inj (k.symm.trans hx);cases u with
 | int h b hk=>obtain rfl:=d h;exact .inl ⟨b,rfl⟩
 | text h b hk=>obtain rfl:=d h;exact .inr (.inl ⟨b,rfl⟩)
 | bool h b hk=>obtain rfl:=d h;exact .inr (.inr (.inl ⟨b,rfl⟩))
 | set h b hk a n c=>obtain rfl:=d h;exact .inr (.inr (.inr (.inl ⟨b,a,n,c,rfl⟩)))
 | name h b hk=>obtain rfl:=d h;exact .inr (.inr (.inr (.inr (.inl ⟨b,rfl⟩))))
 | attr h b hk=>obtain rfl:=d h;exact .inr (.inr (.inr (.inr (.inr (.inl ⟨b,rfl⟩)))))
 | lett h b hk=>obtain rfl:=d h;exact .inr (.inr (.inr (.inr (.inr (.inr (.inl ⟨b,rfl⟩))))))
 | un h b hk hi t=>obtain rfl:=d h;exact .inr (.inr (.inr (.inr (.inr (.inr (.inr (.inl ⟨b,_,_,hk,t,rfl⟩)))))))
 | bin h b hk hi t u=>obtain rfl:=d h;exact .inr (.inr (.inr (.inr (.inr (.inr (.inr (.inr (.inl ⟨b,_,_,_,_,hk,t,u,rfl⟩))))))))
 | ite h b hk hi t u v=>obtain rfl:=d h;exact .inr (.inr (.inr (.inr (.inr (.inr (.inr (.inr (.inr ⟨b,_,_,_,_,_,_,hk,t,u,v,rfl⟩))))))))
end Go.Proofs.YtdldimphcpojoaaGreatDoor
namespace Go.Proofs.YtdldimphcpojoaaGreatDoor
open Go.RowKit Go.Lib Go.Sort
theorem UU (d g n c:Nat)(a:List (List UInt8))(w:World)(h:w.ownsRow d 9 1 (.slice (some ⟨g,0,none⟩) n c) n (a.map encStr))(j:n≤1048576):
  Calls Tryz.prog 155 #[.slice (some ⟨g,0,none⟩) n c] w fun e w'=>e= .returned (.tuple #[])∧w'.ownsRow d 9 1 (.slice (some ⟨g,0,none⟩) n c) n ((a.mergeSort fun x y=>decide (x≤y)).map encStr)∧w.grownBy w' (some g):=by
 have hl:a.length=n:=by have:=h.1;simpa using this
 subst hl;rcases h.2 with ⟨h0,_⟩ | ⟨k,cap,l,f,i,b,h1,h2,h3,h4⟩
 ·cases h0
 ·simp only[Value.slice.injEq,Option.some.injEq,Addr.mk.injEq,and_true,true_and] at f;obtain ⟨rfl,rfl⟩:=f;refine (Tryz.slices_Sort_string g 0 c a w (holds_of_block b (by simpa using h4)) (Array.getElem?_eq_some_iff.1 b).1 (by omega)).mono ?_;rintro e w' ⟨rfl,q,os,rfl⟩;exact ⟨rfl,ownsRow_sorted (by simp) i b h1 h2 h3,grownBy_sorted _⟩
theorem Jk (b:Array Value)(a rs:List (List UInt8))(h:(a ++rs).length≤b.size):(putCells encStr 0 (a ++rs).toArray b).toList.take a.length=a.map encStr:=by
 have e:=take_putCells b (a ++rs) h;have:=congrArg (List.take a.length) e;rw[List.take_take,Nat.min_eq_left (by simp)] at this;rw[this,List.map_append,List.take_left' (by simp)]
theorem Pd (a:List (List UInt8)):(Lib.compact a).length≤a.length:=by
 unfold Lib.compact compactUpTo;rw[List.length_map];exact Nat.le_trans (List.length_filter_le _ _) (by simp)
theorem Oh (b g n c:Nat)(a:List (List UInt8))(w:World)(h:w.ownsRow b 9 1 (.slice (some ⟨g,0,none⟩) n c) n (a.map encStr))(o:n≤1048576):
  Calls Tryz.prog 156 #[.slice (some ⟨g,0,none⟩) n c] w fun e w'=>e= .returned (.slice (some ⟨g,0,none⟩) (Lib.compact a).length c)∧w'.ownsRow b 9 1 (.slice (some ⟨g,0,none⟩) (Lib.compact a).length c) (Lib.compact a).length ((Lib.compact a).map encStr)∧w.grownBy w' (some g):=by
 have hl:a.length=n:=by have:=h.1;simpa using this
 subst hl;rcases h.2 with ⟨h0,_⟩ | ⟨p,cap,k,d,l,f,h1,h2,h3,h4⟩
 ·cases h0
 ·simp only[Value.slice.injEq,Option.some.injEq,Addr.mk.injEq,and_true,true_and] at d;obtain ⟨rfl,rfl⟩:=d;refine (Tryz.slices_Compact_string g 0 c a w (holds_of_block f (by simpa using h4)) (by omega) h1).mono ?_;rintro e w' ⟨rfl,q,rfl⟩;have m:=(grow_empty (putRow encStr (Sort.ahead w q) g 0 (Lib.compact a ++List.replicate (a.length - (Lib.compact a).length) []).toArray)).symm;have r:=Pd a;have i:=heap_sorted (n:=q) (os:=#[]) (Lib.compact a ++List.replicate (a.length - (Lib.compact a).length) []).toArray f;have j:=grownBy_sorted (w:=w) (g:=g) (n:=q) (os:=#[]) (Lib.compact a ++List.replicate (a.length - (Lib.compact a).length) []).toArray;rw[← m] at i j;refine ⟨rfl,⟨by simp,.inr ⟨g,c,_,rfl,l,i,by omega,h2,by simp[putCells,h3], ?_⟩⟩,j⟩;rw[Nat.mul_one];exact Jk k _ _ (by simp;omega)
end Go.Proofs.YtdldimphcpojoaaGreatDoor
