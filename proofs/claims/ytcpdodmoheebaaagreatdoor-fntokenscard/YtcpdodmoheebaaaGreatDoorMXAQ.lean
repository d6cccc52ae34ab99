/-
  QP, VPI, VPK, VPO. Own work.
-/
import Derived.Test.YtcpdodmoheebaaaGreatDoorMXAK
import Derived.Test.YtcpdodmoheebaaaGreatDoorMXAH
import Derived.Test.YtcpdodmoheebaaaGreatDoorMXAC
import Derived.Deep.RegionWith
import Derived.Test.YtcpdodmoheebaaaGreatDoorMXAE
namespace Go.Proofs.YtcpdodmoheebaaaGreatDoor
set_option maxRecDepth 100000
set_option maxHeartbeats 800000
open Go.RowKit
set_option linter.unusedVariables false
theorem IT {k:Nat}(h:k < 10):EN k=Dy (48+(k:Int)):=by
 have e:(48+(k:Int)).toNat=48+k:=by omega
 unfold EN Dy
 rw [Lib.decDigits,dif_pos h,e]
 rfl
theorem KC {k:Nat}(h: 10≤k):EN k=EN (k / 10) ++EN (k % 10):=by
 apply CV
 rw [ByteArray.data_append]
 unfold EN
 rw [Lib.decDigits,dif_neg (by omega)]
 conv=>rhs;rw [Lib.decDigits.eq_def (k % 10),dif_pos (by omega)]
 simp
theorem Fh (m:Nat)(x:Int){w:World}{a:Ending→World→Prop}(h:Calls Tryz.prog 32 #[.int .i64 m] w a)(e:x=m):Calls Tryz.prog 32 #[.int .i64 x] w a:=by rw [e];exact h
theorem JV (k:Nat)(w:World)(i:k≤9223372036854775807):
  Calls Tryz.prog 32 #[.int .i64 k] w fun e w'=>e= .returned (.string (EN k))∧Below w.heap.size w w':=by
 induction k using Nat.strongRecOn generalizing w with
 | _ k b=>
  by_cases h:k < 10
  ·have d:(k:Int) < 10:=by omega
   have j:(48+(k:Int)) < 256:=by omega
   have l:=FW
   have a:=Ab (IT h)
   go_enter Tryz.func32,Tryz.ntmps32
   go_wp2
   go_ret
   exact ⟨by rw [Aa a];rfl,(Below.refl _ _).alloc (Nat.le_refl _) _⟩
  ·have d:(10 :Int)≤(k:Int):=by omega
   have a:=Ab (KC (k:=k) (by omega))
   have o:=Ee (n:=k / 10) (by omega)
   have p:=Ee (n:=k % 10) (by omega)
   have Hi:Hid (∀ (m:Nat),m < k→∀ (w:World),m≤9223372036854775807→Calls Tryz.prog 32 #[.int .i64 m] w fun e w'=>e= .returned (.string (EN m))∧Below w.heap.size w w'):=b
   clear b
   go_enter Tryz.func32,Tryz.ntmps32
   go_wp2_with fail
   refine (Fh (k / 10) _ (Aa Hi (k / 10) (by omega) w (by omega)) (by omega)).mono ?_
   rintro e f ⟨rfl,c⟩
   go_wp2_with fail
   refine (Fh (k % 10) _ (Aa Hi (k % 10) (by omega) f (by omega)) (by omega)).mono ?_
   rintro e q ⟨rfl,g⟩
   go_wp2_with fail
   go_ret
   exact ⟨by rw [Aa a];rfl,c.trans (g.mono c.size)⟩
def jn (first:Bool):List ByteArray→ByteArray
 | []=>⟨#[]⟩
 | x ::r=>(if first then ⟨#[]⟩ else ⟨#[34,44,32,34]⟩) ++x ++jn false r
theorem Ju (x:ByteArray):∀ (f:Bool) (l:List ByteArray),jn f (l ++ [x])=jn f l ++jn (f && l.isEmpty) [x]
 | f, []=>by simp [jn,DK]
 | f,y ::r=>by
  rw [List.cons_append,jn,jn,Ju x false r,ByteArray.append_assoc]
  simp [ByteArray.append_assoc]
theorem GC:∀ (f:Bool) (l:List ByteArray),(∀ x∈l,x.size≤32)→(jn f l).size≤36 * l.length
 | f, [],_=>by simp [jn,ByteArray.size]
 | f,x ::r,h=>by
  have h1:=GC false r (fun y hy=>h y (List.mem_cons_of_mem _ hy))
  have h2:=h x (List.mem_cons_self ..)
  rw [jn]
  simp only [ByteArray.size_append,List.length_cons]
  have:(if f=true then (⟨#[]⟩:ByteArray) else ⟨#[34,44,32,34]⟩).size≤4:=by cases f <;> simp [ByteArray.size]
  omega
theorem Mb:(⟨#[34]⟩:ByteArray) ++⟨#[44,32]⟩ ++⟨#[34]⟩=⟨#[34,44,32,34]⟩:=by decide
theorem EE:∀ (r:List ByteArray),(⟨#[34]⟩:ByteArray) ++Cu false r=jn false r ++⟨#[34]⟩
 | []=>by simp [Cu,jn,DK,ER]
 | x ::r=>by
  have a:=EE r
  rw [Cu,jn,← Mb]
  simp only [Bool.false_eq_true,if_false,ByteArray.append_assoc]
  rw [a]
theorem IU {c:List ByteArray}(h:c≠ []):(⟨#[123,34]⟩:ByteArray) ++jn true c ++⟨#[34,125]⟩=JU c:=by
 have e1:(⟨#[123,34]⟩:ByteArray)=⟨#[123]⟩ ++⟨#[34]⟩:=by decide
 have e2:(⟨#[34,125]⟩:ByteArray)=⟨#[34]⟩ ++⟨#[125]⟩:=by decide
 match c,h with
 | x ::r,_=>
  have d:=EE r
  rw [JU,Cu,jn,e1,e2]
  simp only [if_true,DK,ByteArray.append_assoc]
  rw [← ByteArray.append_assoc (a:=(⟨#[34]⟩:ByteArray)) (b:=Cu false r),d]
  simp only [ByteArray.append_assoc]
theorem IV (a:Option Addr)(n c:Nat)(d:List ByteArray)(w:World)(h:Bd w a n c d)(h1:n≤64)(h2:∀ x∈d,x.size≤32):
  Calls Tryz.prog 18 #[.slice a n c,.string ⟨#[34,44,32,34]⟩] w fun e w'=>e= .returned (.string (jn true d))∧w'=w:=by
 have l:=Ab h.len
 have m:=Ab h2
 have e4:(⟨#[34,44,32,34]⟩:ByteArray).size=4:=rfl
 have o:=Ab (fun (x:ByteArray)=>show jn false [x]=⟨#[34,44,32,34]⟩ ++x by simp [jn,ER])
 generalize (⟨#[34,44,32,34]⟩:ByteArray)=r at e4 o ⊢
 clear h2
 go_enter Tryz.func18,Tryz.ntmps18
 go_wp2
 go_loop [5,6,7,10] (fun s _ _ i=>∃ k:Nat,k≤n∧i= .int .i64 k∧s= .string (jn true (d.take k))) (fun _ _ _ i=>n - (intOf i).toNat)
 case atStart=>exact ⟨0,Nat.zero_le _,rfl,rfl⟩
 case round=>
  obtain ⟨k,z,rfl,rfl⟩:=hrel
  have p:=GC true (d.take k) (fun x hx=>Aa m x (List.mem_of_mem_take hx))
  rw [List.length_take] at p
  by_cases t:k < n
  ·obtain ⟨b,A,u,_,hc⟩:=h.cells k t
   subst u
   have g:k < d.length:=by have:=Aa l;omega
   have v:(CK d k).size≤32:=by rw [BE _ k g];exact Aa m _ (List.getElem_mem g)
   have f:=Ab (show jn true (d.take (k+1))=jn true (d.take k) ++jn (decide (k=0)) [CK d k] by
    rw [List.take_succ_eq_append_getElem g,Ju,BE _ k g]
    congr 2
    by_cases e:k=0
    ·subst e;rfl
    ·have:d.take k≠ []:=fun e2=>by have:=congrArg List.length e2;simp at this;rcases this with e3 | e3;omega;subst e3;simp at g
     rw [decide_eq_false e,Bool.true_and,List.isEmpty_eq_false_iff.2 this])
   generalize CK d k=x at hc v f
   generalize jn true (d.take k)=q at p f
   by_cases h0:k=0
   ·have y: ¬ ((0 :Int) < (k:Int)):=by omega
    have j:=Ab (show jn true (d.take (k+1))=q ++x by rw [Aa f,decide_eq_true h0];simp [jn,DK,ER])
    clear f h0
    go_wp2
    go_round
    case rel=>exact ⟨k+1,by omega,by go_num,by rw [Aa j]⟩
    case measure=>simp [intOf];omega
   ·have y:(0 :Int) < (k:Int):=by omega
    have j:=Ab (show jn true (d.take (k+1))=q ++r ++x by rw [Aa f,decide_eq_false h0,Aa o,ByteArray.append_assoc])
    clear f h0
    go_wp2
    go_round
    case rel=>exact ⟨k+1,by omega,by go_num,by rw [Aa j]⟩
    case measure=>simp [intOf];omega
  ·have e1:d.take k=d:=List.take_of_length_le (by have:=Aa l;omega)
   rw [e1]
   go_wp2
   go_ret
   exact ⟨rfl,rfl⟩
set_option maxHeartbeats 3200000
def CE (F:Int→Nat) (ks:List Int):Nat:=ks.foldl (fun d k=>max d (F k)) 0
theorem Jd (F:Int→Nat)(a:List Int)(k:Int):CE F (a ++ [k])=max (CE F a) (F k):=by
 rw [CE,List.foldl_append];rfl
theorem It {F:Int→Nat}{M:Nat}(h:∀ k,F k≤M):∀ (a:List Int) (d:Nat),d≤M→a.foldl (fun d k=>max d (F k)) d≤M
 | [],d,hd=>hd
 | k ::a,d,hd=>by
  rw [List.foldl_cons]
  exact It h a _ (by have:=h k;omega)
theorem Et (K:List (List Int)):∀ (n:Nat) (t:Int),AN K n t≤n+1
 | 0,t=>by rw [AN];show 1≤0+1;omega
 | n+1,t=>by
  rw [AN]
  dsimp only
  have:=It (F:=AN K n) (M:=n+1) (Et K n) (K.getD t.toNat []) 0 (by omega)
  omega
theorem Bc (a:Option Addr)(n c:Nat)(N:List Nd)(q:World)(G:Dx q a n c N)(H:∀ t,(h:t < N.length)→∀ y∈N[t].kids,0≤y∧y < (t:Int)):
  ∀ (fuel t:Nat) (w:World),fuel≤4001→t < n→t < fuel→Below q.heap.size q w→
  Calls Tryz.prog 72 #[.slice a n c,.int .i64 t] w fun e w'=>e= .returned (.int .i64 (AN (N.map Nd.kids) fuel (t:Int)))∧Below w.heap.size w w':=by
 have O:=Ab G.len
 have P:=Ab H
 clear H
 intro fuel
 induction fuel with
 | zero=>intro t w _ _ h;omega
 | succ fuel r=>
  intro t w ad Q ae u
  have v:t < N.length:=by rw [Aa O];exact Q
  have af:(t:Int) < (n:Int):=by omega
  have z:=Aa P t v
  have I:=Ab (show AN (N.map Nd.kids) (fuel+1) (t:Int)=CE (AN (N.map Nd.kids) fuel) N[t].kids+1 by
   rw [AN]
   dsimp only
   rw [Int.toNat_natCast,List.getD_eq_getElem?_getD,List.getElem?_map,List.getElem?_eq_getElem v]
   rfl)
  have J:=Ab (Et (N.map Nd.kids) fuel)
  obtain ⟨b,R,rfl,S,an,nn,ag,ah,g,ai,T,c1,c2,c3,c4,U,l⟩:=G.cells t v
  have c4:=(u.cell (p:=⟨b,R+t * 5+4,none⟩) S).trans c4
  rw [Aa I]
  clear I T c1 c2 c3
  generalize N[t]=x at c4 U l z ⊢
  generalize AN (N.map Nd.kids) fuel=F at r J ⊢
  have K:=Ab l.len
  have aj:=l.small
  have V:=Ab z
  clear z
  go_enter Tryz.func72,Tryz.ntmps72
  go_wp2_with fail
  go_loopw [5,15] (fun d A wr=>∃ j:Nat,j≤g∧A= .int .i64 j∧d= .int .i64 (CE F (x.kids.take j))∧CE F (x.kids.take j)≤4001∧Below w.heap.size w wr) (fun _ A _=>g - (intOf A).toNat)
  case atStart=>exact ⟨0,by omega,rfl,rfl,by simp [CE],Below.refl _ _⟩
  case round=>
   obtain ⟨j,ak,rfl,rfl,B,f⟩:=hrel
   have C:=u.trans (f.mono u.size)
   by_cases L:j < g
   ·have al:(j:Int) < (g:Int):=by omega
    have D:j < x.kids.length:=by rw [Aa K];exact L
    obtain ⟨ao,ap,rfl,aq,W⟩:=(l.below C (Nat.le_refl _)).cells j D
    obtain ⟨X,Y⟩:=Aa V x.kids[j] (List.getElem_mem D)
    have m:=Ab (show CE F (x.kids.take (j+1))=max (CE F (x.kids.take j)) (F x.kids[j]) by rw [List.take_succ_eq_append_getElem D,Jd])
    have o:=Ab L
    generalize x.kids[j]=y at W X Y m
    obtain ⟨s,rfl⟩:∃ s:Nat,y=(s:Int):=⟨y.toNat,by omega⟩
    have ar:=Aa J (s:Int)
    generalize CE F (x.kids.take j)=i at B m
    by_cases au:i < F (s:Int)
    ·have Z:(i:Int) < (F (s:Int):Int):=by omega
     have k:=Ab (show CE F (x.kids.take (j+1))=F (s:Int) by rw [Aa m];omega)
     go_wp2_with (go_at_call 72;refine (r s wr (by omega) (by omega) (by omega) C).mono ?_;rintro e aa ⟨rfl,E⟩)
     go_roundw
     case rel=>exact ⟨j+1,Aa o,by go_num,by rw [Aa k],by rw [Aa k];omega,f.trans (E.mono f.size)⟩
     case measure=>have:=Aa o;simp [intOf];omega
    ·have Z: ¬ ((i:Int) < (F (s:Int):Int)):=by omega
     have k:=Ab (show CE F (x.kids.take (j+1))=i by rw [Aa m];omega)
     go_wp2_with (go_at_call 72;refine (r s wr (by omega) (by omega) (by omega) C).mono ?_;rintro e aa ⟨rfl,E⟩)
     go_roundw
     case rel=>exact ⟨j+1,Aa o,by go_num,by rw [Aa k],by rw [Aa k];omega,f.trans (E.mono f.size)⟩
     case measure=>have:=Aa o;simp [intOf];omega
   ·have e:j=g:=by omega
    subst e
    have ab:=Ab (show x.kids.take j=x.kids from List.take_of_length_le (by rw [Aa K];exact Nat.le_refl _))
    rw [Aa ab] at B ⊢
    generalize M:CE F x.kids=i at B ⊢
    have ac:=Ab M
    clear M
    go_wp2_with fail
    go_ret
    exact ⟨by rw [Aa ac,Int.natCast_add];rfl,f⟩
end Go.Proofs.YtcpdodmoheebaaaGreatDoor
