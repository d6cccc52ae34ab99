/-
  Rd, Sorted, FA0, DA, AP, DB, STI, GC, GD, QC, TF, GG. Own work.
-/
import Derived.Test.YtoplnhndilmlcaaGreatDoorRows
import Derived.Test.YtoplnhndilmlcaaGreatDoorMXAA
import Derived.Test.YtoplnhndilmlcaaGreatDoorMXAB
import Derived.WalkKit
import Derived.WalkSpells
import Derived.WalkLawsBesides
import Derived.RegionTactic
import Derived.ChangeAlike
import Derived.Deep.QuietTactic
import Derived.BigQuiet
import Derived.ProofKit
import Derived.OpenShut
import Derived.Test.YtoplnhndilmlcaaGreatDoorMXAC
import Derived.Lib.ItoaNum
import Derived.Deep.RegionWith
import Derived.Deep.RegionHeld3
import Derived.Laws.AppendOwnNone
import Derived.Deep.RegionLaw
import Derived.Test.YtoplnhndilmlcaaGreatDoorMXAL
import Derived.Test.YtoplnhndilmlcaaGreatDoorMXAD
import Derived.Lib.Builder
import Derived.Lib.AppendStr
import Derived.Lib.OthersKept
import Derived.Lib.UnsafeStr
import Derived.Test.YtoplnhndilmlcaaGreatDoorAs
namespace Go.Proofs.YtoplnhndilmlcaaGreatDoor
open Go.RowKit Go.ChangeShapes
structure Om (w:World) (a:Option Addr) (n c:Nat) (zs:List Int):Prop where
 cap:n≤c
 small:c≤maxLen
 cells:∀ j,j < n→∃ b off z,a=some ⟨b,off,none⟩∧b < w.heap.size∧w.cell? ⟨b,off+j,none⟩=some (.int .u8 z)∧0≤z∧z≤255
theorem Om.below {w w':World}{B:Nat}{a:Option Addr}{n c:Nat}{zs:List Int}(h:Om w a n c zs)(d:Below B w w')(i:w.heap.size≤B):Om w' a n c zs:=
 ⟨h.cap,h.small,fun j k=>by
  obtain ⟨b,f,l,m,g,hc,o⟩:=h.cells j k;exact ⟨b,f,l,m,Nat.lt_of_lt_of_le g d.size,by rw[← hc];exact d.cell (p:=⟨b,f+j,none⟩) (Nat.lt_of_lt_of_le g i),o⟩⟩
theorem Om.of_trod {i:Type}{enc:TypeId × Value→i}{P:Program}{w:World}{m:Bool}{t e:TypeId}{fuel:Nat}{x:DataW i × List MemPlace}{a:Option Addr}{n c:Nat}
  (ht:P.underlying t=some (.slice e))(he:P.underlying e=some (.int .u8))(hc:P.cellsOf e=1)
  (h:DataW.trod enc P w 0 (fun _=>true) m fuel t [.slice a n c]=some x):∃ zs,Om w a n c zs:=by
 rcases open_ints ht he hc h with ⟨d,_⟩ | ⟨o,len,cap,zs,d,_,p,hm,q,_,k,r⟩
 ·simp only[List.cons.injEq,Value.slice.injEq,and_true] at d;obtain ⟨rfl,rfl,rfl⟩:=d;exact ⟨[],NLN,Nat.zero_le _,fun j s=>by omega⟩
 ·simp only[List.cons.injEq,Value.slice.injEq,and_true] at d;obtain ⟨rfl,rfl,rfl⟩:=d;simp only[if_true] at q;refine ⟨zs,p,hm,fun j s=>?_⟩;have hs:=World.cell?_spot (k 0 (by omega));obtain ⟨b,f,y⟩:=o;simp only[Addr.add,if_true] at hs;subst hs;have g:=k j (by omega);have u:(⟨b,f,none⟩:Addr).add j=⟨b,f+j,none⟩:=by
   by_cases e:j=0 <;> simp[Addr.add,e]
  rw[u] at g;have l:=bounds_u8 (r (zs.getD j 0) (by simp[List.getD,show j < zs.length from by omega]));refine ⟨b,f,zs.getD j 0,rfl, ?_,g,l.1,l.2⟩;by_cases v:b < w.heap.size
  ·exact v
  ·have:w.heap[b]? =none:=Array.getElem?_eq_none (by omega);simp[World.cell?,this] at g
structure Rd (w:World) (R:Nat) (a:Option Addr) (n c p:Nat):Prop where
 row:Aj w R #[.slice a n c,.int .i64 (p:Int)] 63
 le:p≤n
 small:n≤1048576
 cells:∀ j,j < n→∃ b off z,a=some ⟨b,off,none⟩∧b < R∧w.cell? ⟨b,off+j,none⟩=some (.int .u8 z)∧0≤z∧z≤255
theorem Rd.after {w w':World}{B R:Nat}{a:Option Addr}{n c p:Nat}(h:Rd w R a n c p)(d:Below B w w')(g:R < B):Rd w' R a n c p:=
 ⟨h.row.below d g,h.le,h.small,fun j i=>by
  obtain ⟨b,f,k,l,m,hc,o⟩:=h.cells j i;exact ⟨b,f,k,l,m,by rw[← hc];exact d.cell (p:=⟨b,f+j,none⟩) (by show b < B;omega),o⟩⟩
theorem Rd.new {w:World}{a:Option Addr}{n c:Nat}{zs:List Int}(h:Om w a n c zs)(g:n≤1048576):Rd (w.alloc (.cells #[.slice a n c,.int .i64 0] 63)) w.heap.size a n c 0:=
 ⟨Aj.new _ _ _,Nat.zero_le _,g,fun j i=>by
  obtain ⟨b,d,k,l,f,hc,m⟩:=h.cells j i;exact ⟨b,d,k,l,f,by rw[← hc];exact ((Below.refl w.heap.size w).alloc NLN _).cell (p:=⟨b,d+j,none⟩) f,m⟩⟩
theorem Rd.step {w:World}{R:Nat}{a:Option Addr}{n c p:Nat}(h:Rd w R a n c p)(d:p < n):Rd (w.setCell ⟨R,1,none⟩ (.int .i64 ((p+1 :Nat):Int))) R a n c (p+1):=
 ⟨by simpa using h.row.set 1 (.int .i64 ((p+1 :Nat):Int)),d,h.small,fun j f=>by
  obtain ⟨b,g,i,k,l,hc,m⟩:=h.cells j f;refine ⟨b,g,i,k,l, ?_,m⟩;rw[← hc];exact World.cell?_of_block (heap_setCell_other w ⟨R,1,none⟩ b _ (by show b≠R;omega))⟩
def WG (w:World) (R:Nat) (a:Option Addr) (n c:Nat):Prop:=∃ p,Rd w R a n c p
end Go.Proofs.YtoplnhndilmlcaaGreatDoor
namespace Go.Proofs.YtoplnhndilmlcaaGreatDoor
set_option maxHeartbeats 1600000
open Go.RowKit
def Wg (first:Bool) (s x:ByteArray):Bool:=first || sl s x
structure CN (names:List ByteArray) (first:Bool) (s best:ByteArray) (found:Bool):Prop where
 yes:found=true→best∈names∧Wg first s best=true∧∀ x∈names,Wg first s x=true→sl x best=false
 no:found=false→∀ x∈names,Wg first s x=false
theorem CN.start (first:Bool)(s a:ByteArray):CN [] first s a false:=⟨(fun h=>by cases h),(fun _ x hx=>by cases hx)⟩
theorem CN.skip {names:List ByteArray}{first:Bool}{s b x:ByteArray}{c:Bool}(h:CN names first s b c)(hx:Wg first s x=false):CN (names ++ [x]) first s b c:=by
 refine ⟨fun hf=>?_,fun hf y hy=>?_⟩
 ·obtain ⟨h1,h2,h3⟩:=h.yes hf;refine ⟨List.mem_append_left _ h1,h2,fun y hy a=>?_⟩;rcases List.mem_append.1 hy with hy | hy
  ·exact h3 y hy a
  ·simp only[List.mem_singleton] at hy;subst hy;rw[hx] at a;cases a
 ·rcases List.mem_append.1 hy with hy | hy
  ·exact h.no hf y hy
  ·simp only[List.mem_singleton] at hy;subst hy;exact hx
theorem CN.keep {names:List ByteArray}{first:Bool}{s a x:ByteArray}(h:CN names first s a true)(hx:sl x a=false):CN (names ++ [x]) first s a true:=by
 obtain ⟨h1,h2,h3⟩:=h.yes rfl;refine ⟨fun _=>⟨List.mem_append_left _ h1,h2,fun y hy b=>?_⟩,fun hf=>by cases hf⟩;rcases List.mem_append.1 hy with hy | hy
 ·exact h3 y hy b
 ·simp only[List.mem_singleton] at hy;subst hy;exact hx
theorem CN.take {names:List ByteArray}{first:Bool}{s c x:ByteArray}{a:Bool}(h:CN names first s c a)(hx:Wg first s x=true)(d:a=true→sl x c=true):CN (names ++ [x]) first s x true:=by
 refine ⟨fun _=>⟨by simp,hx,fun y hy b=>?_⟩,fun hf=>by cases hf⟩;rcases List.mem_append.1 hy with hy | hy
 ·cases a with
  | false=>rw[h.no rfl y hy] at b;cases b
  | true=>
   have h3:=(h.yes rfl).2.2 y hy b;rw[Bool.eq_false_iff] at h3 ⊢;intro hk;exact h3 (Gp hk (d rfl))
 ·simp only[List.mem_singleton] at hy;subst hy;exact Dh _
theorem Aan (first:Bool)(s x:ByteArray)(hf:first=false)(h:(Op.bytesLess x.toList s.toList || x.toList== s.toList)=true):Wg first s x=false:=by
 subst hf;simp only[Wg,Bool.false_or];rw[Bool.or_eq_true] at h;rcases h with h | h
 ·exact Lg h
 ·have:x=s:=(KR x s).1 h;subst this;exact Dh _
theorem Abr (first:Bool)(s x:ByteArray)(h:(Op.bytesLess x.toList s.toList || x.toList== s.toList)=false):Wg first s x=true:=by
 rw[Bool.or_eq_false_iff] at h;have h1:sl x s=false:=h.1;have h2:eqS x s=false:=h.2;have:sl s x=true:=by
  cases hk:sl s x with
  | true=>rfl
  | false=>
   have:=Sr _ _ h1 hk;rw[(KR _ _).2 this] at h2;cases h2
 simp[Wg,this]
def Aao (ss:List ByteArray) (first:Bool) (s:ByteArray) (e:Ending):Prop:=∃ best found,e= .returned (.tuple #[.string best,.bool found])∧CN ss first s best found
theorem MD (a:Option Addr)(n c:Nat)(d:List ByteArray)(s:ByteArray)(first:Bool)(w:World)(h:Bb w a n c d):
  Calls Tryz.prog 149 #[.slice a n c,.string s,.bool first] w fun e w'=>Aao d first s e∧w'=w:=by
 have v:n≤9223372036854775807:=by have:=h.cap;have:=h.small;unfold maxLen at this;omega
 have q:=Ab h.len;go_enter Tryz.func149,Tryz.ntmps149
 go_wp2
 go_loop [8,9,11,14] (fun b f _ i=>∃ (k:Nat) (m:ByteArray) (g:Bool),k≤n∧i= .int .i64 k∧b= .string m∧f= .bool g∧CN (d.take k) first s m g) (fun _ _ _ i=>n - (intOf i).toNat)
 case atStart=>exact ⟨0,_,false,Nat.zero_le _,rfl,rfl,rfl,CN.start _ _ _⟩
 case round=>
  obtain ⟨k,m,g,hk,rfl,rfl,rfl,hi⟩:=hrel;by_cases t:k < n
  ·obtain ⟨b,x,u,_,hc⟩:=h.cells k t;subst u;have j:=Ab (Nh d k (by have:=Aa q;omega));cases r:(Op.bytesLess (DL d k).toList s.toList || (DL d k).toList== s.toList)
   ·have o:=Abr first s (DL d k) r
    have l:=Ab o;clear o;cases g
    ·cases first
     all_goals
      go_wp2
      go_round
      case rel=>exact ⟨k+1,_,true,by omega,by go_num,rfl,rfl,by rw[Aa j];exact hi.take (Aa l) (fun h=>by cases h)⟩
      case measure=>simp[intOf];omega
    ·cases p:Op.bytesLess (DL d k).toList m.toList
     ·cases first
      all_goals
       go_wp2
       go_round
       case rel=>exact ⟨k+1,_,true,by omega,by go_num,rfl,rfl,by rw[Aa j];exact hi.keep p⟩
       case measure=>simp[intOf];omega
     ·cases first
      all_goals
       go_wp2
       go_round
       case rel=>exact ⟨k+1,_,true,by omega,by go_num,rfl,rfl,by rw[Aa j];exact hi.take (Aa l) (fun _=>p)⟩
       case measure=>simp[intOf];omega
   ·cases first
    ·have l:=Ab (Aan false s (DL d k) rfl r);go_wp2
     go_round
     case rel=>exact ⟨k+1,_,g,by omega,by go_num,rfl,rfl,by rw[Aa j];exact hi.skip (Aa l)⟩
     case measure=>simp[intOf];omega
    ·have o:Wg true s (DL d k)=true:=rfl;have l:=Ab o;clear o;cases g
     ·go_wp2
      go_round
      case rel=>exact ⟨k+1,_,true,by omega,by go_num,rfl,rfl,by rw[Aa j];exact hi.take (Aa l) (fun h=>by cases h)⟩
      case measure=>simp[intOf];omega
     ·cases p:Op.bytesLess (DL d k).toList m.toList
      ·go_wp2
       go_round
       case rel=>exact ⟨k+1,_,true,by omega,by go_num,rfl,rfl,by rw[Aa j];exact hi.keep p⟩
       case measure=>simp[intOf];omega
      ·go_wp2
       go_round
       case rel=>exact ⟨k+1,_,true,by omega,by go_num,rfl,rfl,by rw[Aa j];exact hi.take (Aa l) (fun _=>p)⟩
       case measure=>simp[intOf];omega
  ·have e1:d.take k=d:=List.take_of_length_le (by have:=Aa q;omega);rw[e1] at hi;go_wp2
   go_ret2
   exact ⟨⟨m,g,rfl,hi⟩,rfl⟩
theorem ME {K:List ByteArray}(h:EZ K=true):K.Nodup:=by
 rw[EZ,decide_eq_true_eq] at h;exact h.imp (fun {a b} hab e=>by subst e;rw[Dh] at hab;cases hab)
theorem MF:∀ (K l:List ByteArray),K.Nodup→(∀ x∈K,x∈l)→K.length≤l.length
 | [],_,_,_=>Nat.zero_le _
 | x ::K,l,hn,hs=>by
  obtain ⟨a,b,rfl⟩:=List.append_of_mem (hs x (by simp));rw[List.nodup_cons] at hn;have:=MF K (a ++b) hn.2 (fun y hy=>by
   have c:y≠x:=fun e=>hn.1 (by rw[← e];exact hy);have hm:=hs y (by simp[hy]);simp only[List.mem_append,List.mem_cons] at hm ⊢;rcases hm with h | h | h
   ·exact .inl h
   ·exact absurd h c
   ·exact .inr h)
  simp only[List.length_append,List.length_cons] at this ⊢;omega
theorem Ku:∀ (K M:List ByteArray),EZ K=true→EZ M=true→(∀ x,x∈K↔x∈M)→K=M
 | [], [],_,_,_=>rfl
 | [],y ::M,_,_,h=>by have:=(h y).2 (by simp);cases this
 | x ::K, [],_,_,h=>by have:=(h x).1 (by simp);cases this
 | x ::K,y ::M,hK,hM,h=>by
  rw[EZ,decide_eq_true_eq,List.pairwise_cons] at hK hM;have c:x=y:=by
   rcases List.mem_cons.1 ((h x).1 (by simp)) with e | hx
   ·exact e
   ·rcases List.mem_cons.1 ((h y).2 (by simp)) with e | hy
    ·exact e.symm
    ·have h1:=hM.1 x hx;have h2:=hK.1 y hy;rw[Lg h1] at h2;cases h2
  subst c
  congr 1
  refine Ku K M (by rw[EZ,decide_eq_true_eq];exact hK.2) (by rw[EZ,decide_eq_true_eq];exact hM.2) fun b=>?_;constructor
  ·intro a;rcases List.mem_cons.1 ((h b).1 (by simp[a])) with e | hz'
   ·subst e;have:=hK.1 b a;rw[Dh] at this;cases this
   ·exact hz'
  ·intro a;rcases List.mem_cons.1 ((h b).2 (by simp[a])) with e | hz'
   ·subst e;have:=hM.1 b a;rw[Dh] at this;cases this
   ·exact hz'
structure Bz (l K:List ByteArray):Prop where
 rise:EZ K=true
 mem:∀ x,x∈K↔x∈l
theorem Bz.unique {l K M:List ByteArray}(h:Bz l K)(k:Bz l M):K=M:=Ku K M h.rise k.rise fun x=>(h.mem x).trans (k.mem x).symm
theorem Bz.len {l K:List ByteArray}(h:Bz l K):K.length≤l.length:=MF K l (ME h.rise) fun x hx=>(h.mem x).1 hx
structure PJ (l K:List ByteArray) (s:ByteArray) (ok:Bool):Prop where
 rise:EZ K=true
 yes:ok=true→s∈l∧∀ x,x∈K↔x∈l∧sl x s=true
 no:ok=false→∀ x,x∈K↔x∈l
theorem PJ.start {l:List ByteArray}{t s:ByteArray}{ok:Bool}(h:CN l true t s ok):PJ l [] s ok:=by
 refine ⟨rfl,fun hk=>⟨(h.yes hk).1,fun x=>⟨(fun hx=>by cases hx),fun ⟨hx,a⟩=>?_⟩⟩,fun hk x=>⟨(fun hx=>by cases hx),fun hx=>?_⟩⟩
 ·have:=(h.yes hk).2.2 x hx rfl;rw[this] at a;cases a
 ·have:=h.no hk x hx;cases this
theorem IE (x s:ByteArray):sl x s=true∨x=s∨sl s x=true:=by
 cases h1:sl x s with
 | true=>exact .inl rfl
 | false=>cases h2:sl s x with
  | true=>exact .inr (.inr rfl)
  | false=>exact .inr (.inl (Sr _ _ h1 h2))
theorem PJ.step {l K:List ByteArray}{s s':ByteArray}{ok:Bool}(h:PJ l K s true)(k:CN l false s s' ok):PJ l (K ++ [s]) s' ok:=by
 obtain ⟨hs,hm⟩:=h.yes rfl;have rise:EZ (K ++ [s])=true:=by
  rw[EZ,decide_eq_true_eq,List.pairwise_append];refine ⟨by have:=h.rise;rwa[EZ,decide_eq_true_eq] at this,by simp,fun x hx y hy=>?_⟩;simp only[List.mem_singleton] at hy;subst hy;exact ((hm x).1 hx).2
 refine ⟨rise,fun hk=>?_,fun hk=>?_⟩
 ·obtain ⟨h1,h2,h3⟩:=k.yes hk;have a:sl s s'=true:=by simpa[Wg] using h2
  refine ⟨h1,fun x=>⟨fun hx=>?_,fun ⟨hx,b⟩=>?_⟩⟩
  ·rcases List.mem_append.1 hx with hx | hx
   ·exact ⟨((hm x).1 hx).1,Gp ((hm x).1 hx).2 a⟩
   ·simp only[List.mem_singleton] at hx;subst hx;exact ⟨hs,a⟩
  ·rcases IE x s with hc | hc | hc
   ·exact List.mem_append_left _ ((hm x).2 ⟨hx,hc⟩)
   ·subst hc;simp
   ·have:=h3 x hx (by simpa[Wg] using hc);rw[this] at b;cases b
 ·intro x;constructor
  ·intro hx;rcases List.mem_append.1 hx with hx | hx
   ·exact ((hm x).1 hx).1
   ·simp only[List.mem_singleton] at hx;subst hx;exact hs
  ·intro hx;rcases IE x s with hc | hc | hc
   ·exact List.mem_append_left _ ((hm x).2 ⟨hx,hc⟩)
   ·subst hc;simp
   ·have:=k.no hk x hx;simp[Wg,hc] at this
theorem PJ.lt {l K:List ByteArray}{s:ByteArray}(h:PJ l K s true):K.length < l.length:=by
 obtain ⟨hs,hm⟩:=h.yes rfl;have a:s ∉ K:=fun hk=>by have:=((hm s).1 hk).2;rw[Dh] at this;cases this
 have:=MF (s ::K) l (List.nodup_cons.2 ⟨a,ME h.rise⟩) (fun x hx=>by
  rcases List.mem_cons.1 hx with e | hx
  ·subst e;exact hs
  ·exact ((hm x).1 hx).1)
 simp only[List.length_cons] at this;omega
def Eg:Value→Nat | .slice _ n _=>n | _=>0
def Aap (w:World) (ss:List ByteArray) (e:Ending) (w':World):Prop:=
 ∃ x cx K,e= .returned (.slice x K.length cx)∧w'.ownsRow w.heap.size 9 1 (.slice x K.length cx) K.length (K.map Value.string)∧Below w.heap.size w w'∧Bz ss K
theorem IG (a:Option Addr)(n c:Nat)(g:List ByteArray)(w:World)(h:Bb w a n c g)(P:n≤1048576):
  Calls Tryz.prog 139 #[.slice a n c] w fun e w'=>Aap w g e w':=by
 obtain ⟨i,hi,z,A,B⟩:=info_parts La;have C:=Ab h.len;go_enter Tryz.func139,Tryz.ntmps139
 go_wp2_with fail
 refine (MD _ _ _ _ _ _ _ h).mono ?_;rintro e m ⟨⟨E,F,rfl,b⟩,o⟩;rw[o];clear o;have H:=PJ.start b;clear b;go_wp2_with fail
 go_loopw [3,4,5] (fun v s ok wr=>∃ (K:List ByteArray) (t:ByteArray) (q:Bool) (x:Option Addr) (d:Nat),s= .string t∧ok= .bool q∧v= .slice x K.length d∧wr.ownsRow w.heap.size 9 1 (.slice x K.length d) K.length (K.map Value.string)∧PJ g K t q∧Below w.heap.size w wr) (fun v _ _ _=>n - Eg v)
 case atStart=>exact ⟨[],E,F,none,0,rfl,rfl,rfl,World.ownsRow_nil _ _ _ _,H,BRN⟩
 case round=>
  obtain ⟨K,t,q,x,d,rfl,rfl,rfl,f,hu,j⟩:=hrel;cases q
  ·go_wp2
   go_ret
   exact ⟨x,d,K,rfl,f,j,⟨hu.rise,hu.no rfl⟩⟩
  ·have Q:K.length < n:=by have:=hu.lt;have:=Aa C;omega
   have I:=j.size;go_wp2_with (at_builtin;refine wpList_append_own _ rfl _ _ 78 rfl w.heap.size 9 i (.string ByteArray.empty) 1 16 Tryz.underlying78 hi z A B rfl (by decide) _ _ _ rfl (f.alloc _) ⟨wr.heap.size,0,none⟩ 1 1 [.string t] rfl rfl ?c1 ?c2 ?c3 ?c4 ?c5 ?_)
   case c1=>exact cell_one_new _ _ _
   case c2=>intro u hu;simp at hu;subst hu;rfl
   case c3=>unfold maxLen;omega
   case c4=>omega
   case c5=>simp;omega
   intro R m l p _;have r:Below w.heap.size w m:=(j.alloc I _).grown p (by simp;omega) (fun k hk=>(f.lt k hk).1);obtain ⟨J,L,hf⟩:=AK l;rw[hf] at l ⊢;clear p f hf;go_wp2_with fail
   refine (MD _ _ _ _ _ _ _ (h.below r NLN)).mono ?_;rintro e S ⟨⟨M,N,rfl,b⟩,y⟩;rw[y];clear y;have O:=hu.step b;clear b hu;go_wp2
   go_roundw
   case rel=>exact ⟨K ++ [t],M,N,J,L,rfl,rfl,by rw[List.length_append];rfl,by rw[List.map_append,List.length_append];exact l,O,r⟩
   case measure=>simp[Eg];omega
set_option maxRecDepth 100000
set_option maxHeartbeats 800000
def Fq (k:Nat):ByteArray:=⟨(Lib.decDigits k).toArray⟩
theorem Ig {k:Nat}(h:k < 10):Fq k=Lc (48+(k:Int)):=by
 have e:(48+(k:Int)).toNat=48+k:=by omega
 unfold Fq Lc;rw[Lib.decDigits,dif_pos h,e];rfl
theorem Qe {k:Nat}(h: 10≤k):Fq k=Fq (k / 10) ++Fq (k % 10):=by
 apply GR;rw[ByteArray.data_append];unfold Fq;rw[Lib.decDigits,dif_neg (by omega)]
 conv=>rhs;rw[Lib.decDigits.eq_def (k % 10),dif_pos (by omega)]
 simp
theorem DE (k:Nat):(Fq k).size≤k+1:=by
 induction k using Nat.strongRecOn with
 | _ k a=>
  by_cases h:k < 10
  ·rw[Ig h,Ld];omega
  ·rw[Qe (by omega),EB,Ig (k:=k % 10) (by omega),Ld];have:=a (k / 10) (by omega);omega
theorem Ll (m:Nat)(x:Int){w:World}{a:Ending→World→Prop}(h:Calls Tryz.prog 32 #[.int .i64 m] w a)(e:x=m):Calls Tryz.prog 32 #[.int .i64 x] w a:=by rw[e];exact h
theorem M2 (k:Nat)(w:World)(hk:k≤9999999):
  Calls Tryz.prog 32 #[.int .i64 k] w fun e w'=>e= .returned (.string (Fq k))∧Below w.heap.size w w':=by
 induction k using Nat.strongRecOn generalizing w with
 | _ k b=>
  by_cases h:k < 10
  ·have d:(k:Int) < 10:=by omega
   have i:(48+(k:Int)) < 256:=by omega
   have j:=AaA;have a:=Ab (Ig h);go_enter Tryz.func32,Tryz.ntmps32
   go_wp2
   go_ret
   exact ⟨by rw[Aa a];rfl,BRN.alloc NLN _⟩
  ·have d:(10 :Int)≤(k:Int):=by omega
   have a:=Ab (Qe (k:=k) (by omega));have l:=DE (k / 10);have n:=DE (k % 10);have Hi:Hid (∀ (m:Nat),m < k→∀ (w:World),m≤9999999→Calls Tryz.prog 32 #[.int .i64 m] w fun e w'=>e= .returned (.string (Fq m))∧Below w.heap.size w w'):=b;clear b;go_enter Tryz.func32,Tryz.ntmps32
   go_wp2_with fail
   refine (Ll (k / 10) _ (Aa Hi (k / 10) (by omega) w (by omega)) (by omega)).mono ?_;rintro e f ⟨rfl,c⟩;go_wp2_with fail
   refine (Ll (k % 10) _ (Aa Hi (k % 10) (by omega) f (by omega)) (by omega)).mono ?_;rintro e o ⟨rfl,g⟩;go_wp2_with fail
   go_ret
   exact ⟨by rw[Aa a];rfl,c.trans (g.mono c.size)⟩
theorem CQ (x:Int)(w:World)(h0: 0≤x)(hk:x≤9999999):
  Calls Tryz.prog 32 #[.int .i64 x] w fun e w'=>e= .returned (.string (Fq x.toNat))∧Below w.heap.size w w':=by
 obtain ⟨k,rfl⟩:=Int.eq_ofNat_of_zero_le h0;exact M2 k w (by omega)
set_option linter.unusedVariables false
theorem Ai.drewN {lo hi:Nat}(w:World)(k:Nat):Ai lo hi w (w.drewN k):=Ai.of_below (below_drewN (Below.refl w.heap.size w) k) NLN
theorem Ai.then_below {lo hi B:Nat}{w a b:World}(t:Ai lo hi w a)(h:Below B a b)(d:w.heap.size≤B):Ai lo hi w b:=
 ⟨h.os.trans t.os,h.tape.trans t.tape,h.output.trans t.output,Nat.le_trans t.size h.size,fun k hk c=>(h.block k (by omega)).trans (t.block k hk c)⟩
theorem Rd.setFar {w w':World}{R:Nat}{a:Option Addr}{n c p:Nat}(h:Rd w R a n c p)(b:Below (R+1) w w'):Rd w' R a n c p:=h.after b (Nat.lt_succ_self _)
theorem WG.after {w w':World}{B R:Nat}{a:Option Addr}{n c:Nat}(h:WG w R a n c)(b:Below B w w')(d:R < B):WG w' R a n c:=by
 obtain ⟨p,h⟩:=h;exact ⟨p,h.after b d⟩
theorem WG.lt {w:World}{R:Nat}{a:Option Addr}{n c:Nat}(h:WG w R a n c):R < w.heap.size:=by
 obtain ⟨p,h⟩:=h;exact h.row.lt
theorem Bb.cellsAt {w:World}{b:Addr}{n c:Nat}{a:List ByteArray}(hq:Bb w (some b) n c a):∀ j u,(a.map Value.string)[j]? =some u→w.cell? (b.add j)=some u:=fun j u hu=>by
 rw[List.getElem?_map,Option.map_eq_some_iff] at hu;obtain ⟨s,hs,rfl⟩:=hu;have d:j < a.length:=(List.getElem?_eq_some_iff.1 hs).1;obtain ⟨b1,f,g,_,hc⟩:=hq.cells j (by have:=hq.len;omega);simp only[Option.some.injEq] at g;subst g;have h:(⟨b1,f,none⟩:Addr).add j=⟨b1,f+j,none⟩:=by by_cases e:j=0 <;> simp[Addr.add,e]
 rw[h,hc,Cz _ j d];rw[List.getElem?_eq_getElem d] at hs;cases hs;rfl
theorem J8 {w:World}{o:Array Oper}{p:List Oper}{f:Oper}{a:Act}{q:Exit→Act→World→Prop}(r:f.guard=none)(s x:Operand)
  (t:f.op= .call { callee:= .builtin .append,args:=#[s,x],argTypes:=#[78,78] })
  (d:Nat)(v:Value)(n:Nat)(g:List Value)(hs:a.eval s=v)(l:w.ownsRow d 9 1 v n g)
  (b:Option Addr)(m c:Nat)(j:List ByteArray)(hx:a.eval x= .slice b m c)(hq:Bb w b m c j)(y:b=none→c=0)
  (F:n+m≤1048576)(z:d≤w.heap.size)
  (h:∀ k w',w'.ownsRow d 9 1 k (n+m) (g ++j.map Value.string)→w.grownBy w' v.ownBlock→wpList Tryz.prog o q p (a.put f.dst k) w'):wpList Tryz.prog o q (f ::p) a w:=by
 obtain ⟨i,hi,A,B,C⟩:=info_parts La;cases b with
 | none=>
  obtain rfl:=y rfl;have hm:m=0:=by have:=hq.cap;omega
  subst hm;have E:j= []:=List.eq_nil_of_length_eq_zero (by have:=hq.len;omega);subst E;refine wpList_append_own_none r s x 78 t d 9 i 1 Tryz.underlying78 hi v n g hs l hx (h v w (by simpa using l) ?_);exact ⟨rfl,rfl,rfl,NLN,fun _ _ _=>rfl⟩
 | some b=>
  refine wpList_append_own _ r s x 78 t d 9 i (.string ByteArray.empty) 1 16 Tryz.underlying78 hi A B C rfl (by decide) v n g hs l b m c (j.map Value.string) hx ?_ hq.cellsAt ?_ ?_ ?_ z (fun k w' h1 h2 _=>h k w' h1 h2)
  ·have:=hq.len;simp;omega
  ·intro u hu;obtain ⟨s,_,rfl⟩:=List.mem_map.1 hu;rfl
  ·unfold maxLen;omega
  ·omega
theorem PX {w:World}{b n c:Nat}{x:Option Addr}{d:List Value}(h:w.ownsRow b 9 1 (.slice x n c) n d):x=none→c=0:=fun e=>by
 rcases h.2 with ⟨a,_⟩ | ⟨g,cap,f,a,_⟩
 ·simp only[Value.slice.injEq] at a;exact a.2.2
 ·subst e;simp only[Value.slice.injEq] at a;cases a.1
theorem Ai.grown {lo hi:Nat}{w a b:World}{row:Option Nat}(t:Ai lo hi w a)(c:a.grownBy b row)(d:∀ k,row=some k→w.heap.size≤k):Ai lo hi w b:=
 t.then_below (B:=w.heap.size) ((Below.refl w.heap.size a).grown c t.size d) NLN
structure AZ (w:World) (base:Nat) (x:Option Addr) (K:List ByteArray) (cx:Nat):Prop where
 own:w.ownsRow base 9 1 (.slice x K.length cx) K.length (K.map Value.string)
 small:∀ s∈K,s.size≤1000
theorem AZ.sizes {w:World}{b c:Nat}{x:Option Addr}{K:List ByteArray}(h:AZ w b x K c):∀ j,j < K.length→(DL K j).size≤maxLen:=fun j a=>by
 rw[Cz K j a];have:=h.small _ (List.getElem_mem a);unfold maxLen;omega
theorem AZ.strs {w:World}{b a:Nat}{x:Option Addr}{K:List ByteArray}(h:AZ w b x K a):Bb w x K.length a K:=Bb.of_owns h.own h.sizes
theorem AZ.nil (w:World)(a:Nat):AZ w a none [] 0:=⟨World.ownsRow_nil _ _ _ _,by simp⟩
theorem AZ.touch {w w':World}{a lo hi b:Nat}{x:Option Addr}{K:List ByteArray}(h:AZ w a x K b)(t:Ai lo hi w w')(c:hi≤a):AZ w' a x K b:=
 ⟨DM h.own (fun y hy=>by subst hy;have:=h.own.lt _ rfl;exact t.block _ this.2 (.inr (by omega))),h.small⟩
theorem AZ.below {w w':World}{a B b:Nat}{x:Option Addr}{K:List ByteArray}(h:AZ w a x K b)(c:Below B w w')(d:w.heap.size≤B):AZ w' a x K b:=
 ⟨DM h.own (fun y hy=>by subst hy;have:=h.own.lt _ rfl;exact c.block _ (by omega)),h.small⟩
theorem AZ.mono {w:World}{a base' b:Nat}{x:Option Addr}{K:List ByteArray}(h:AZ w a x K b)(c:base'≤a):AZ w base' x K b:=⟨Jy h.own c,h.small⟩
theorem IF {K M:List ByteArray}(h:Bz K M)(hs:∀ s∈K,s.size≤1000):∀ s∈M,s.size≤1000:=fun s hm=>hs s ((h.mem s).1 hm)
structure Acu (p:Prop):Prop where
 out:p
theorem VD {P a:Prop}(h:Acu P→a)(p:P):a:=h ⟨p⟩
theorem G5 {P:Program}{g:Array Oper}{b:Oper}{a:Act}{w:World}{K:Act→World→Prop}{j:Exit→Act→World→Prop}{k:Prop}(l:b.guard=none)(x:Operand)(name:String)(m:Array TypeId)(n:b.op= .call { callee:= .invoke x name,args:=#[],argTypes:=m })(T:TypeId)(u:Value)(hx:a.eval x= .iface T u)
  (F:Nat)(o:P.types.size+Made.depth=F)(f:FuncId)(c:Value)(hm:∀ w,(method F T u name).run P w= .ok (f,c) w)(d:Func)(hf:P.funcs[f]? =some d)(p:(d.name== "runtime.NumGoroutine")=false)(i:d.body.isNone=false)
  (R:Value→World→Prop)(hc:Calls P f #[c] w fun e w'=>∃ v,e= .returned v∧R v w')(h:∀ v w',R v w'→K (a.put b.dst v) w'):
  if Region.wanted b (yielded g a.tmps)=true then Oper.wp P b a w K j else k:=by
 have q:Region.wanted b (yielded g a.tmps)=true:=by simp[Region.wanted,l]
 rw[if_pos q];unfold Oper.wp;have r:(execOp a.eval b).run P w= .ok (.enter f #[c]) w:=by
  have h1:d.name≠ "runtime.NumGoroutine" :=by simpa using p
  have h2:(callFunc f #[c]).run P w= .ok (.enter f #[c]) w:=by
   have h3:d.body≠none:=fun e=>by rw[e] at i;cases i
   simp[callFunc,hf,h1,h3]
  have h4:(callMethod (.iface T u) name #[]).run P w= .ok (.enter f #[c]) w:=by
   subst o;have:(method (P.types.size+100) T u name).run P w= .ok (f,c) w:=hm w;simpa[callMethod,Result.andThen,go_sem,this] using h2
  generalize a.eval=t at hx ⊢;simp only[execOp,n,resolve,invoke,Sem.run_bind,Sem.run_pure,Result.andThen_ok,List.map_toArray,List.map_nil,hx];exact h4
 rw[r,Oper.upon_enter];refine hc.mono ?_;rintro e w' ⟨v,rfl,s⟩;exact h v w' s
def scT (t:Ae):Prop:=t.kind=2∨see Dr t=true
def Lp:List Ae→List ByteArray
 | []=> []
 | t ::r=>if t.kind=2 then t.text ::Lp r else Lp r
theorem Ug:∀ (f:List Ae) (a b:List ByteArray) (q:List Ae),H7 f a=(b,true,q)→∃ c,f=c ++q∧(∀ x∈c,scT x)∧b=a ++Lp c
 | [],a,b,q,h=>by simp[H7] at h
 | [t],a,b,q,h=>by
  rw[H7] at h;by_cases hc:FT t
  ·rw[if_pos hc] at h;simp only[Prod.mk.injEq,true_and] at h;exact ⟨[t],by rw[← h.2];rfl,fun x hx=>by rw[List.mem_singleton.1 hx];exact .inl hc.1,by rw[← h.1,Lp,if_pos hc.1];rfl⟩
  ·rw[if_neg hc] at h;simp at h
 | t ::d ::r,a,b,q,h=>by
  rw[H7] at h;by_cases hc:FT t
  ·rw[if_pos hc] at h;cases hk:see Dr d
   ·rw[hk,if_neg (by decide)] at h;simp only[Prod.mk.injEq,true_and] at h;exact ⟨[t],by rw[← h.2];rfl,fun x hx=>by rw[List.mem_singleton.1 hx];exact .inl hc.1,by rw[← h.1,Lp,if_pos hc.1];rfl⟩
   ·rw[hk,if_pos rfl] at h;obtain ⟨c,h1,h2,h3⟩:=Ug r _ b q h;have g:d.kind≠2:=by rcases Lm hk with e | e <;> omega
    refine ⟨t ::d ::c,by rw[h1];rfl,fun x hx=>?_,by rw[h3,Lp,if_pos hc.1,Lp,if_neg g,List.append_assoc];rfl⟩;rcases List.mem_cons.1 hx with rfl | hx
    ·exact .inl hc.1
    ·rcases List.mem_cons.1 hx with rfl | hx
     ·exact .inr hk
     ·exact h2 x hx
  ·rw[if_neg hc] at h;simp at h
theorem Y9 {a q:List Ae}{b:List ByteArray}(h:FR a=(b,true,q)):∃ c,a=c ++q∧(∀ x∈c,scT x)∧b=Lp c:=by
 rw[FR] at h;split at h
 ·simp only[Prod.mk.injEq,true_and] at h;exact ⟨[],by rw[← h.2];rfl,(fun x hx=>by cases hx),by rw[← h.1];rfl⟩
 ·obtain ⟨c,h1,h2,h3⟩:=Ug a [] b q h;exact ⟨c,h1,h2,by simpa using h3⟩
inductive G:Nat→List Ae→Pt→Prop
 | up {k:Nat} {c:List Ae} {p:Pt} (hk:k < 8) (g:G (k+1) c p):G k c p
 | ite {t u v:Ae} {a b d:List Ae} {pa pb pd:Pt} (ht:see Gm t=true) (hu:see Cm u=true) (hv:see AE v=true) (ga:G 0 a pa) (gb:G 0 b pb) (gd:G 0 d pd):G 0 (t ::(a ++u ::(b ++v ::d))) (.ite t.at_ pa pb pd)
 | bin {k:Nat} {l r:List Ae} {t:Ae} {op:Int} {pl pr:Pt} (hk:k=1∨k=2∨k=5∨k=6) (gl:G k l pl) (ht:Co k t=some op) (gr:G (k+1) r pr):G k (l ++t ::r) (.bin t.at_ op pl pr)
 | cmp {l r:List Ae} {t:Ae} {op:Int} {pl pr:Pt} (gl:G 5 l pl) (ht:Co 4 t=some op) (gr:G 5 r pr):G 4 (l ++t ::r) (.bin t.at_ op pl pr)
 | not {t:Ae} {r:List Ae} {p:Pt} (ht:see FE t=true) (g:G 3 r p):G 3 (t ::r) (.un t.at_ 9 p)
 | neg {t:Ae} {r:List Ae} {p:Pt} (ht:see Cs t=true) (g:G 7 r p):G 7 (t ::r) (.un t.at_ 8 p)
 | par {t u:Ae} {r:List Ae} {p:Pt} (ht:see AV t=true) (g:G 0 r p) (hu:see Br u=true):G 8 (t ::(r ++ [u])) p
 | size {t u v:Ae} {r:List Ae} {p:Pt} (ht:see Dp t=true) (hu:see AV u=true) (g:G 0 r p) (hv:see Br v=true):G 8 (t ::u ::(r ++ [v])) (.un t.at_ 10 p)
 | set {t u:Ae} {c:List Ae} (ht:see Dq t=true) (hc:∀ x∈c,scT x) (hu:see BT u=true):G 8 (t ::(c ++ [u])) (.set t.at_ (Lp c))
 | num {t:Ae} (h:t.kind=1):G 8 [t] (.int t.at_ t.num)
 | text {t:Ae} (h:t.kind=2):G 8 [t] (.text t.at_ t.text)
 | name {t:Ae} (h:t.kind=3):G 8 [t] (.name t.at_ t.text)
 | tru {t:Ae} (h:see Ca t=true):G 8 [t] (.bool t.at_ true)
 | fls {t:Ae} (h:see Bu t=true):G 8 [t] (.bool t.at_ false)
theorem G.lift {c:List Ae}{p:Pt} :∀ (n k:Nat),k+n≤8→G (k+n) c p→G k c p
 | 0,k,_,h=>h
 | n+1,k,hk,h=> .up (by omega) (G.lift n (k+1) (by omega) (by rw[Nat.add_right_comm];exact h))
theorem G.le8 {k:Nat}{c:List Ae}{p:Pt}(h:G k c p):k≤8:=by
 cases h <;> omega
theorem G.low {k j:Nat}{c:List Ae}{p:Pt}(h:G k c p)(a:j≤k):G j c p:=by
 have h8:=h.le8;obtain ⟨n,rfl⟩:∃ n,k=j+n:=⟨k - j,by omega⟩
 exact G.lift n j h8 h
def Tr:NT→List Ae→Pt→List Ae→Prop
 | .more k e0,ts,e,q=>∀ c0,G k c0 e0→∃ c,ts=c ++q∧G k (c0 ++c) e
 | .beh s,ts,e,q=>∃ t c,ts=t ::(c ++q)∧see s t=true∧G 0 c e
 | .encl,ts,e,q=>∃ t c u,ts=t ::(c ++u ::q)∧see AV t=true∧see Br u=true∧G 0 c e
 | .chain k,ts,e,q=>∃ c,ts=c ++q∧G k c e
 | .opd k,ts,e,q=>∃ c,ts=c ++q∧G (k+1) c e
 | .expr,ts,e,q=>∃ c,ts=c ++q∧G 0 c e
 | .neg,ts,e,q=>∃ c,ts=c ++q∧G 3 c e
 | .cmp,ts,e,q=>∃ c,ts=c ++q∧G 4 c e
 | .una,ts,e,q=>∃ c,ts=c ++q∧G 7 c e
 | .prim,ts,e,q=>∃ c,ts=c ++q∧G 8 c e
theorem D.tree {nt:NT}{w:List Ae}{x:PR}(d:D nt w x):nt.good→∀ e q,x= .ok e q→Tr nt w e q:=by
 induction d with
 | beh_no | expr_if1 | expr_if2 | expr_if3 | chain_bad | more_bad | neg_bad | cmp_bad | cmp_two_bad | una_bad | size_bad | set_bad | set_end | prim_nil | prim_no | encl_bad | encl_end=>intro _ e q h;cases h
 | @beh s t r x h d i=>
  intro _ e q hx;obtain ⟨c,hc,g⟩:=i trivial e q hx;exact ⟨t,c,by rw[hc],h,g⟩
 | expr_no h d i=>
  intro _ e q hx;obtain ⟨c,hc,g⟩:=i (.inl rfl) e q hx;exact ⟨c,hc,g.low (by omega)⟩
 | @expr_if t r q p L a b c h d1 d2 d3 j l C=>
  intro _ e q hx;cases hx;obtain ⟨o,c1,h1,m,g1⟩:=j trivial _ _ rfl;obtain ⟨E,c2,h2,y,g2⟩:=l trivial _ _ rfl;obtain ⟨F,c3,h3,H,g3⟩:=C trivial _ _ rfl;injection h1 with h0 h1;subst h0;exact ⟨t ::(c1 ++E ::(c2 ++F ::c3)),by rw[h1,h2,h3];simp,.ite m y H g1 g2 g3⟩
 | chain d1 d2 j l=>
  intro n e q hx;obtain ⟨c,hc,g⟩:=j (by simp only[NT.good] at n ⊢;omega) _ _ rfl;have M:=g.le8;obtain ⟨z,A,v⟩:=l n e q hx c (g.low (by omega));exact ⟨c ++z,by rw[List.append_assoc,← A];exact hc,v⟩
 | @more_no k I w h=>
  intro n e q hx;cases hx;exact fun B g=>⟨[],rfl,by rw[List.append_nil];exact g⟩
 | @more k I f t r q op x h d1 d2 j l=>
  intro n e J hx B K;obtain ⟨c,hc,g⟩:=j (by simp only[NT.good] at n ⊢;omega) _ _ rfl;obtain ⟨z,A,v⟩:=l n e J hx (B ++t ::c) (.bin n K h g);exact ⟨t ::(c ++z),by rw[List.cons_append,List.append_assoc,← A,← hc],by rw[List.append_assoc] at v;exact v⟩
 | opd1 d i=>intro _ e q hx;exact i (.inr (.inl rfl)) e q hx
 | opd2 d i=>intro _ e q hx;exact i trivial e q hx
 | opd4 d i=>intro _ e q hx;exact i (.inr (.inr (.inl rfl))) e q hx
 | opd5 d i=>intro _ e q hx;exact i (.inr (.inr (.inr rfl))) e q hx
 | opd6 d i=>intro _ e q hx;exact i trivial e q hx
 | neg_no h d i=>intro _ e q hx;obtain ⟨c,hc,g⟩:=i trivial e q hx;exact ⟨c,hc,g.low (by omega)⟩
 | @neg t r q e h d i=>intro _ e q hx;cases hx;obtain ⟨c,hc,g⟩:=i trivial _ _ rfl;exact ⟨t ::c,by rw[hc];rfl,.not h g⟩
 | cmp_one d h i=>intro _ e q hx;cases hx;obtain ⟨c,hc,g⟩:=i (.inr (.inr (.inl rfl))) _ _ rfl;exact ⟨c,hc,g.low (by omega)⟩
 | @cmp_two w r q e f t op d h d2 j l=>
  intro _ e q hx;cases hx;obtain ⟨c,hc,g⟩:=j (.inr (.inr (.inl rfl))) _ _ rfl;obtain ⟨z,A,v⟩:=l (.inr (.inr (.inl rfl))) _ _ rfl;exact ⟨c ++t ::z,by rw[List.append_assoc,List.cons_append,← A];exact hc,.cmp g h v⟩
 | una_no h d i=>intro _ e q hx;obtain ⟨c,hc,g⟩:=i trivial e q hx;exact ⟨c,hc,g.low (by omega)⟩
 | @una t r q e h d i=>intro _ e q hx;cases hx;obtain ⟨c,hc,g⟩:=i trivial _ _ rfl;exact ⟨t ::c,by rw[hc];rfl,.neg h g⟩
 | @num t r h=>intro _ e q hx;cases hx;exact ⟨[t],rfl,.num h⟩
 | @text t r h=>intro _ e q hx;cases hx;exact ⟨[t],rfl,.text h⟩
 | @name t r h=>intro _ e q hx;cases hx;exact ⟨[t],rfl,.name h⟩
 | @tru t r h=>intro _ e q hx;cases hx;exact ⟨[t],rfl,.tru h⟩
 | @fls t r h=>intro _ e q hx;cases hx;exact ⟨[t],rfl,.fls h⟩
 | @size t r q e h d i=>
  intro _ e q hx;cases hx;obtain ⟨o,c,u,hc,m,y,g⟩:=i trivial _ _ rfl;exact ⟨t ::o ::(c ++ [u]),by rw[hc];simp,.size h m g y⟩
 | @par t r x h d i=>
  intro _ e q hx;obtain ⟨o,c,u,hc,m,y,g⟩:=i trivial e q hx;exact ⟨o ::(c ++ [u]),by rw[hc];simp,.par m g y⟩
 | @set t u r q N h hs hq=>
  intro _ e q hx;cases hx;obtain ⟨c,hc,h1,h2⟩:=Y9 hs;exact ⟨t ::(c ++ [u]),by rw[hc];simp,by rw[h2];exact .set h h1 hq⟩
 | @encl w r e t d h i=>
  intro _ e q hx;cases hx;obtain ⟨o,c,hc,m,g⟩:=i trivial _ _ rfl;exact ⟨o,c,t,hc,m,h,g⟩
def IK (t:Ae):Bool:=(!decide (t.kind=4) && !decide (t.kind=5)) || see Br t || see BT t || see Ca t || see Bu t
def Qh (t:Ae):Bool:=see AV t || see Dq t
def Sv (t:Ae):Bool:=see Br t || see BT t
structure LS where
 pe:Bool
 d:Int
 i:Int
 acc:Int
def dL (d:Int) (t:Ae):Int:=if Sv t then (if Qh t then d+1 else d) - 1 else if Qh t then d+1 else d
def NB (of:List (List UInt8)) (s:LS) (t:Ae):LS:=
 ⟨IK t,dL s.d t,s.i+1,if dL s.d t > 0∨s.pe=false then s.acc else if of.any (fun x=>see x t) then s.i else s.acc⟩
theorem DN {s:List UInt8}{t:Ae}(h:see s t=true)(hs:s ∉ [AV,Dq,Br,BT])(d:Int):dL d t=d:=by
 have e1:=Am h (s':=AV) (fun e=>hs (by rw[e];decide));have e2:=Am h (s':=Dq) (fun e=>hs (by rw[e];decide));have e3:=Am h (s':=Br) (fun e=>hs (by rw[e];decide));have e4:=Am h (s':=BT) (fun e=>hs (by rw[e];decide));simp[dL,Qh,Sv,e1,e2,e3,e4]
theorem WL {s:List UInt8}{t:Ae}(h:see s t=true)(hs:s ∉ [Br,BT,Ca,Bu]):IK t=false:=by
 have e1:=Am h (s':=Br) (fun e=>hs (by rw[e];decide));have e2:=Am h (s':=BT) (fun e=>hs (by rw[e];decide));have e3:=Am h (s':=Ca) (fun e=>hs (by rw[e];decide));have e4:=Am h (s':=Bu) (fun e=>hs (by rw[e];decide));have hk:=Lm h;rw[IK,e1,e2,e3,e4];rcases hk with hk | hk <;> simp[hk]
theorem Ba {s:List UInt8}{t:Ae}(h4:t.kind≠4)(h5:t.kind≠5):see s t=false:=by
 simp[see,h4,h5]
theorem Uh {t:Ae}(h4:t.kind≠4)(h5:t.kind≠5)(d:Int):dL d t=d:=by
 simp[dL,Qh,Sv,Ba h4 h5]
theorem WM {t:Ae}(h4:t.kind≠4)(h5:t.kind≠5):IK t=true:=by
 simp[IK,h4,h5]
theorem WN {k:Nat}{s:List UInt8}{op:Int}(h:(s,op)∈Cn k):s ∉ [AV,Dq,Br,BT,Ca,Bu,Gm,Cm,AE,FE,Ax,Ce]:=by
 match k,h with
 | 0,h | 3,h=>cases h
 | 1,h=>revert h;simp only[Cn,List.mem_cons,List.mem_nil_iff,Prod.mk.injEq,or_false];rintro ⟨rfl,rfl⟩;decide
 | 2,h=>revert h;simp only[Cn,List.mem_cons,List.mem_nil_iff,Prod.mk.injEq,or_false];rintro ⟨rfl,rfl⟩;decide
 | 4,h=>revert h;simp only[Cn,List.mem_cons,List.mem_nil_iff,Prod.mk.injEq,or_false];rintro (⟨rfl,rfl⟩ | ⟨rfl,rfl⟩ | ⟨rfl,rfl⟩ | ⟨rfl,rfl⟩ | ⟨rfl,rfl⟩ | ⟨rfl,rfl⟩) <;> decide
 | 5,h=>revert h;simp only[Cn,List.mem_cons,List.mem_nil_iff,Prod.mk.injEq,or_false];rintro (⟨rfl,rfl⟩ | ⟨rfl,rfl⟩ | ⟨rfl,rfl⟩ | ⟨rfl,rfl⟩) <;> decide
 | 6,h=>revert h;simp only[Cn,List.mem_cons,List.mem_nil_iff,Prod.mk.injEq,or_false];rintro (⟨rfl,rfl⟩ | ⟨rfl,rfl⟩ | ⟨rfl,rfl⟩ | ⟨rfl,rfl⟩) <;> decide
 | k+7,h=>cases h
theorem Gq {k:Nat}{t:Ae}{op:Int}(h:Co k t=some op):(∀ d,dL d t=d)∧IK t=false∧(∀ s∈ [AV,Dq,Br,BT,Ca,Bu,Gm,Cm,AE,FE,Ax,Ce],see s t=false):=by
 obtain ⟨s,h1,h2⟩:=Ln h;have a:=WN h1;refine ⟨fun d=>DN h2 (fun e=>a ?_) d,WL h2 (fun e=>a ?_),fun x hx=>Am h2 (fun e=>a (by rw[e];exact hx))⟩
 ·simp only[List.mem_cons,List.mem_nil_iff,or_false] at e ⊢;grind
 ·simp only[List.mem_cons,List.mem_nil_iff,or_false] at e ⊢;grind
theorem Ui (of:List (List UInt8)):∀ (c:List Ae),(∀ x∈c,scT x)→∀ (s:LS),0 < s.d→∃ pe,c.foldl (NB of) s=⟨pe,s.d,s.i+c.length,s.acc⟩
 | [],_,s,_=>⟨s.pe,by simp⟩
 | t ::c,h,s,hd=>by
  have a:dL s.d t=s.d:=by
   rcases h t (List.mem_cons_self ..) with e | e
   ·exact Uh (by omega) (by omega) _
   ·exact DN e (by decide) _
  have e1:NB of s t=⟨IK t,s.d,s.i+1,s.acc⟩:=by rw[NB,a,if_pos (.inl hd)]
  obtain ⟨pe,he⟩:=Ui of c (fun x hx=>h x (List.mem_cons_of_mem _ hx)) ⟨IK t,s.d,s.i+1,s.acc⟩ hd;refine ⟨pe, ?_⟩;rw[List.foldl_cons,e1,he];simp only[List.length_cons,LS.mk.injEq,true_and,and_true];omega
theorem OH {t:Ae}(h:see AV t=true∨see Dq t=true)(d:Int):dL d t=d+1:=by
 rcases h with h | h
 ·simp[dL,Qh,Sv,h,Am h (s':=Br) (by decide),Am h (s':=BT) (by decide)]
 ·simp[dL,Qh,Sv,h,Am h (s':=Br) (by decide),Am h (s':=BT) (by decide)]
theorem Lq {t:Ae}(h:see Br t=true∨see BT t=true)(d:Int):dL d t=d - 1:=by
 rcases h with h | h
 ·simp[dL,Qh,Sv,h,Am h (s':=AV) (by decide),Am h (s':=Dq) (by decide)]
 ·simp[dL,Qh,Sv,h,Am h (s':=AV) (by decide),Am h (s':=Dq) (by decide)]
theorem Jz {t:Ae}(h:see Br t=true∨see BT t=true):IK t=true:=by
 rcases h with h | h <;> simp[IK,h]
theorem Qi {t:Ae}(h:see Ca t=true∨see Bu t=true):IK t=true:=by
 rcases h with h | h <;> simp[IK,h]
theorem AM (of:List (List UInt8)){s:LS}{t:Ae}(h: 0 < dL s.d t):NB of s t=⟨IK t,dL s.d t,s.i+1,s.acc⟩:=by
 rw[NB,if_pos (.inl h)]
theorem G.deep (of:List (List UInt8)){k:Nat}{c:List Ae}{p:Pt}(g:G k c p):∀ (s:LS),0 < s.d→c.foldl (NB of) s=⟨true,s.d,s.i+c.length,s.acc⟩:=by
 induction g with
 | up hk g f=>exact f
 | @ite t u v a b d B C E ht hu m F H I q w id=>
  intro s hs;have e1:=DN ht (by decide) s.d;have e2:=DN hu (by decide) s.d;have e3:=DN m (by decide) s.d;rw[List.foldl_cons,AM of (by rw[e1];exact hs),List.foldl_append,q _ (by show 0 < dL s.d t;rw[e1];exact hs),List.foldl_cons,AM of (by show 0 < dL (dL s.d t) u;rw[e1,e2];exact hs),List.foldl_append,w _ (by show 0 < dL (dL s.d t) u;rw[e1,e2];exact hs),List.foldl_cons,AM of (by show 0 < dL (dL (dL s.d t) u) v;rw[e1,e2,e3];exact hs),id _ (by show 0 < dL (dL (dL s.d t) u) v;rw[e1,e2,e3];exact hs)];simp only[e1,e2,e3,LS.mk.injEq,true_and,and_true,List.length_cons,List.length_append];omega
 | @bin k l r t op x y hk z ht A n o=>
  intro s hs;have e1:=(Gq ht).1;rw[List.foldl_append,n s hs,List.foldl_cons,AM of (by rw[e1];exact hs),o _ (by show 0 < dL _ t;rw[e1];exact hs)];simp only[e1,LS.mk.injEq,true_and,and_true,List.length_cons,List.length_append];omega
 | @cmp l r t op x y z ht A n o=>
  intro s hs;have e1:=(Gq ht).1;rw[List.foldl_append,n s hs,List.foldl_cons,AM of (by rw[e1];exact hs),o _ (by show 0 < dL _ t;rw[e1];exact hs)];simp only[e1,LS.mk.injEq,true_and,and_true,List.length_cons,List.length_append];omega
 | @not t r p ht g f=>
  intro s hs;have e1:=DN ht (by decide) s.d;rw[List.foldl_cons,AM of (by rw[e1];exact hs),f _ (by show 0 < dL _ t;rw[e1];exact hs)];simp only[e1,LS.mk.injEq,true_and,and_true,List.length_cons];omega
 | @neg t r p ht g f=>
  intro s hs;have e1:=DN ht (by decide) s.d;rw[List.foldl_cons,AM of (by rw[e1];exact hs),f _ (by show 0 < dL _ t;rw[e1];exact hs)];simp only[e1,LS.mk.injEq,true_and,and_true,List.length_cons];omega
 | @par t u r p ht g hu f=>
  intro s hs;have e1:=OH (.inl ht) s.d;have e2:=Lq (.inl hu) (s.d+1);rw[List.foldl_cons,AM of (by rw[e1];omega),List.foldl_append,f _ (by show 0 < dL _ t;rw[e1];omega),List.foldl_cons,List.foldl_nil,AM of (by show 0 < dL (dL _ t) u;rw[e1,e2];omega)];simp only[e1,e2,LS.mk.injEq,List.length_cons,List.length_append,List.length_nil];exact ⟨Jz (.inl hu),by omega,by omega,trivial⟩
 | @size t u v r p ht hu g m f=>
  intro s hs;have j:=DN ht (by decide) s.d;have e1:=OH (.inl hu) s.d;have e2:=Lq (.inl m) (s.d+1);rw[List.foldl_cons,AM of (by rw[j];omega),List.foldl_cons,AM of (by show 0 < dL (dL _ t) u;rw[j,e1];omega),List.foldl_append,f _ (by show 0 < dL (dL _ t) u;rw[j,e1];omega),List.foldl_cons,List.foldl_nil,AM of (by show 0 < dL (dL (dL _ t) u) v;rw[j,e1,e2];omega)];simp only[j,e1,e2,LS.mk.injEq,List.length_cons,List.length_append,List.length_nil];exact ⟨Jz (.inl m),by omega,by omega,trivial⟩
 | @set t u c ht hc hu=>
  intro s hs;have e1:=OH (.inr ht) s.d;have e2:=Lq (.inr hu) (s.d+1);obtain ⟨pe,he⟩:=Ui of c hc ⟨IK t,s.d+1,s.i+1,s.acc⟩ (by show 0 < s.d+1;omega);rw[List.foldl_cons,AM of (by rw[e1];omega),e1,List.foldl_append,he,List.foldl_cons,List.foldl_nil,AM of (by show 0 < dL (s.d+1) u;rw[e2];omega)];simp only[e2,LS.mk.injEq,List.length_cons,List.length_append,List.length_nil];exact ⟨Jz (.inr hu),by omega,by omega,trivial⟩
 | @num t h | @text t h | @name t h=>
  intro s hs;have e1:=Uh (t:=t) (by omega) (by omega) s.d;rw[List.foldl_cons,List.foldl_nil,AM of (by rw[e1];exact hs),e1,WM (by omega) (by omega)];rfl
 | @tru t h=>
  intro s hs;have e1:=DN h (by decide) s.d;rw[List.foldl_cons,List.foldl_nil,AM of (by rw[e1];exact hs),e1,Qi (.inl h)];rfl
 | @fls t h=>
  intro s hs;have e1:=DN h (by decide) s.d;rw[List.foldl_cons,List.foldl_nil,AM of (by rw[e1];exact hs),e1,Qi (.inr h)];rfl
theorem G.head {k:Nat}{c:List Ae}{p:Pt}(g:G k c p):∃ t r,c=t ::r∧(1≤k→see Gm t=false)∧(4≤k→see FE t=false)∧(8≤k→see Cs t=false):=by
 induction g with
 | up hk g b=>
  obtain ⟨t,r,e,h1,h2,h3⟩:=b;exact ⟨t,r,e,fun h=>h1 (by omega),fun h=>h2 (by omega),fun h=>h3 (by omega)⟩
 | ite=>exact ⟨_,_,rfl,fun h=>by omega,fun h=>by omega,fun h=>by omega⟩
 | @bin k l r t op d f hk i ht j a m=>
  obtain ⟨u,q,e,h1,h2,h3⟩:=a;exact ⟨u,q ++t ::r,by rw[e];rfl,h1,h2,h3⟩
 | @cmp l r t op d f i ht j a m=>
  obtain ⟨u,q,e,h1,h2,h3⟩:=a;exact ⟨u,q ++t ::r,by rw[e];rfl,fun _=>h1 (by omega),fun _=>h2 (by omega),fun h=>by omega⟩
 | not ht g=>exact ⟨_,_,rfl,fun _=>Am ht (by decide),fun h=>by omega,fun h=>by omega⟩
 | neg ht g=>exact ⟨_,_,rfl,fun _=>Am ht (by decide),fun _=>Am ht (by decide),fun h=>by omega⟩
 | par ht g hu=>exact ⟨_,_,rfl,fun _=>Am ht (by decide),fun _=>Am ht (by decide),fun _=>Am ht (by decide)⟩
 | size ht hu g n=>exact ⟨_,_,rfl,fun _=>Am ht (by decide),fun _=>Am ht (by decide),fun _=>Am ht (by decide)⟩
 | set ht hc hu=>exact ⟨_,_,rfl,fun _=>Am ht (by decide),fun _=>Am ht (by decide),fun _=>Am ht (by decide)⟩
 | num h | text h | name h=>exact ⟨_,_,rfl,fun _=>Ba (by omega) (by omega),fun _=>Ba (by omega) (by omega),fun _=>Ba (by omega) (by omega)⟩
 | tru h | fls h=>exact ⟨_,_,rfl,fun _=>Am h (by decide),fun _=>Am h (by decide),fun _=>Am h (by decide)⟩
set_option maxHeartbeats 2000000
theorem UM:(Tryz.prog.info? 39).map (·.size)=some 2:=by kernel_rfl
theorem ZT:liesAt Tryz.prog Tryz.prog.depth 41 (2 / Tryz.prog.cellsOf 41) 0 39 1=true:=by kernel_rfl
theorem V6: Tryz.prog.cellsOf 5 =1:=by kernel_rfl
theorem Yo:(Tryz.prog.info? 5).map (fun i=>(i.zero,i.size,i.bytes))=some (some (.int .u8 0),1,1):=by kernel_rfl
structure Kp (B b:Nat) (w w':World):Prop where
 low:Below B w w'
 oth:Lib.OthersKept 5 (some b) w w'
theorem Kp.refl (B b:Nat)(w:World):Kp B b w w:=⟨BRN,Lib.OthersKept.refl _ _ _⟩
theorem Kp.trans {B b:Nat}{w a c:World}(h:Kp B b w a)(k:Kp B b a c):Kp B b w c:=⟨h.low.trans k.low,h.oth.trans k.oth⟩
theorem Kp.size {B b:Nat}{w w':World}(h:Kp B b w w'):w.heap.size≤w'.heap.size:=h.low.size
theorem Kp.of_all {B b:Nat}{w w':World}(h:Below w.heap.size w w')(a:B≤w.heap.size):Kp B b w w':=
 ⟨h.mono a,fun k c hk _ _=>(h.block k (Array.getElem?_eq_some_iff.1 hk).1).trans hk⟩
theorem Kp.row {B b:Nat}{w w':World}(h:Kp B b w w'){g:Nat}{cs:Array Value}{t:TypeId}(R:Aj w g cs t)(a:g≠b)(ht:t≠5):Aj w' g cs t:=
 ⟨h.oth g _ R.out (fun e=>a (Option.some.inj e)) (fun c d e=>ht (by injection e))⟩
def Pr (B b:Nat) (acc:ByteArray) (w:World):Prop:=Lib.IsBuilder 41 5 B b (Lib.strCells acc) w
theorem Pr.at {B b:Nat}{acc:ByteArray}{w:World}(h:Pr B b acc w):∃ p,Lib.BuilderAt 41 5 B b p (Lib.strCells acc) w:=by
 rcases h with h | h
 ·exact ⟨_,h⟩
 ·exact ⟨_,h⟩
theorem Pr.le {B b:Nat}{acc:ByteArray}{w:World}(h:Pr B b acc w):B≤b∧b < w.heap.size:=by
 obtain ⟨p,h⟩:=h.at;exact ⟨h.1,h.lt⟩
theorem Kq {B b:Nat}{p:Value}{a:List Value}{w w':World}(h:Lib.BuilderAt 41 5 B b p a w)(c:Below w.heap.size w w'):Lib.BuilderAt 41 5 B b p a w':=by
 have f:=h.lt;obtain ⟨i,v,h1,h2,h3⟩:=h;refine ⟨i,v,(c.block b f).trans h1,⟨h2.1, ?_⟩,h3⟩;rcases h2.2 with k | ⟨g,cap,j,l,m,d,n⟩
 ·exact .inl k
 ·exact .inr ⟨g,cap,j,l,m,(c.block g (Array.getElem?_eq_some_iff.1 d).1).trans d,n⟩
theorem Pr.below {B b:Nat}{acc:ByteArray}{w w':World}(h:Pr B b acc w)(a:Below w.heap.size w w'):Pr B b acc w':=by
 rcases h with h | h
 ·exact .inl (Kq h a)
 ·exact .inr (Kq h a)
theorem PD (a b:ByteArray):Lib.strCells (a ++b)=Lib.strCells a ++Lib.strCells b:=by
 simp[Lib.strCells,ByteArray.data_append]
theorem Mq (b:Nat)(w:World)(h0:w.cell? ⟨b,0,none⟩=some (.pointer (some ⟨b,0,none⟩))):
  Calls Tryz.prog 99 #[.pointer (some ⟨b,0,none⟩)] w fun e w'=>e= .returned (.tuple #[])∧w'=w:=by
 obtain ⟨j,a,_⟩:=Option.map_eq_some_iff.1 UM;go_enter Tryz.func99,Tryz.ntmps99
 go_wp2
 rw[Lib.run_neq_ptr_same w _ Tryz.underlying37 a];go_wp2
 go_end0
 exact ⟨rfl,rfl⟩
theorem KK (b:Nat)(w:World)(h0:w.cell? ⟨b,0,none⟩=some (.pointer none))(a:w.shape? b=some (41,2))(f:w.frozen? ⟨b,0,none⟩=false):
  Calls Tryz.prog 99 #[.pointer (some ⟨b,0,none⟩)] w fun e w'=>e= .returned (.tuple #[])∧w'=w.setCell ⟨b,0,none⟩ (.pointer (some ⟨b,0,none⟩)):=by
 obtain ⟨j,c,d⟩:=Option.map_eq_some_iff.1 UM;go_enter Tryz.func99,Tryz.ntmps99
 go_wp2
 rw[Lib.run_to_unsafe w ⟨b,0,none⟩ Tryz.underlying37 Tryz.underlying162 c (by rw[d];decide) a (Nat.zero_lt_succ 1)];simp only[Result.andThen];rw[Oper.upon_value];go_wp2
 rw[run_callFunc_extern Tryz.func126 (by kernel_rfl) (by kernel_rfl) (by kernel_rfl) (e:=Extern.AbiNoEscape.same) (by kernel_rfl)];rw[Lib.run_noEscape];simp only[Result.andThen];rw[Oper.upon_value];go_wp2
 rw[Lib.run_from_unsafe w ⟨b,0,none⟩ Tryz.underlying162 Tryz.underlying37 c a ZT];simp only[Result.andThen];rw[Oper.upon_value];go_wp2
 go_end0
 exact ⟨rfl,rfl⟩
theorem Ni (B b:Nat)(a:List Value)(w:World)(h:Lib.IsBuilder 41 5 B b a w):
  Calls Tryz.prog 99 #[.pointer (some ⟨b,0,none⟩)] w fun e w'=>e= .returned (.tuple #[])∧Lib.BuilderAt 41 5 B b (.pointer (some ⟨b,0,none⟩)) a w'∧Kp B b w w':=by
 rcases h with h | h
 ·refine (KK b w h.cell0 h.shape h.frozen0).mono ?_;rintro e w' ⟨rfl,rfl⟩;exact ⟨rfl,h.used _,(Below.refl B w).setCell (p:=⟨b,0,none⟩) h.1 _,(Lib.OthersKept.refl _ _ w).setCell ⟨b,0,none⟩ rfl _⟩
 ·refine (Mq b w h.cell0).mono ?_;rintro e w' ⟨rfl,rfl⟩;exact ⟨rfl,h,Kp.refl _ _ _⟩
theorem KL (B b:Nat)(acc s:ByteArray)(w:World)(h:Pr B b acc w)(J:acc.size+s.size≤140737488355328):
  Calls Tryz.prog 61 #[.pointer (some ⟨b,0,none⟩),.string s] w fun e w'=>e= .returned (.tuple #[.int .i64 s.size,.nilIface])∧Pr B b (acc ++s) w'∧Kp B b w w':=by
 obtain ⟨y,hi,z,A,C⟩:=info_parts Yo;have K:B≤w.heap.size:=by have:=h.le;omega
 go_enter Tryz.func61,Tryz.ntmps61
 go_wp2_with (go_at_call 99;refine (Ni B b _ _ h).mono ?_)
 rintro e i ⟨rfl,h1,o⟩;obtain ⟨q,v,a,c,E⟩:=h1;have j:=o.low;have L:i.cell? ⟨b,0,none⟩=some (.pointer (some ⟨b,0,none⟩)):=by rw[Lib.cell_of_heap a];rfl
 have c1:i.cell? ⟨b,1,none⟩=some v:=by rw[Lib.cell_of_heap a];rfl
 rw[Lib.strCells_length] at c;go_wp2_with (at_builtin;refine Lib.wpList_append_own_string _ rfl _ _ 22 9 rfl B 5 y Tryz.underlying22 Tryz.underlying9 hi z A C _ _ _ rfl c s rfl ?c3 ?c4 ?c5 ?_)
 case c3=>unfold maxLen;omega
 case c4=>omega
 case c5=>have:=j.size;omega
 intro F d r l _;have H:b < i.heap.size:=(Array.getElem?_eq_some_iff.1 a).1;have f:d.heap[b]? =some (.cells #[.pointer (some ⟨b,0,none⟩),v] 41 (0,0)):=by
  rw[l.block b H (fun e=>E e.symm)];exact a
 have M:d.cell? ⟨b,0,none⟩=some (.pointer (some ⟨b,0,none⟩)):=by rw[Lib.cell_of_heap f];rfl
 have d1:d.cell? ⟨b,1,none⟩=some v:=by rw[Lib.cell_of_heap f];rfl
 have f1:d.frozen? ⟨b,1,none⟩=false:=Lib.frozen_of_heap f 1;obtain ⟨t,u,cap,rfl⟩:∃ t u cap,F= .slice t u cap:=by
  rcases r.2 with ⟨m,_⟩ | ⟨g,cap,x,m,_⟩
  ·exact ⟨_,_,_,m⟩
  ·exact ⟨_,_,_,m⟩
 go_wp2
 go_ret2
 refine ⟨rfl,Or.inr ?_, ?_, ?_⟩
 ·exact Lib.BuilderAt.put (T:=41) (e:=5) q f (bs':=Lib.strCells (acc ++s)) (by rw[Lib.strCells_length,PD,ByteArray.size_append];exact r) (by decide)
 ·exact (j.grown l (by have:=j.size;omega) (fun k hk=>(c.lt k hk).1)).setCell (p:=⟨b,1,none⟩) q _
 ·refine Lib.OthersKept.setCell (o.oth.grown l ?_) ⟨b,1,none⟩ rfl _;intro g n;rcases c.2 with ⟨rfl,_⟩ | ⟨N,O,x,rfl,_,I,_⟩
  ·simp[Value.ownBlock] at n
  ·simp[Value.ownBlock] at n;subst n;exact ⟨x,_,I⟩
end Go.Proofs.YtoplnhndilmlcaaGreatDoor
namespace Go.Proofs.YtoplnhndilmlcaaGreatDoor
set_option maxHeartbeats 1600000
open Go.RowKit
set_option linter.unusedVariables false
structure M3 (w:World) (aS aB aT:Addr):Prop where
 gS:w.cell? ⟨0,0,none⟩=some (.iface 256 (.pointer (some aS)))
 gB:w.cell? ⟨4,0,none⟩=some (.iface 256 (.pointer (some aB)))
 gT:w.cell? ⟨5,0,none⟩=some (.iface 256 (.pointer (some aT)))
 gE:w.cell? ⟨3,0,none⟩=some (.iface 195 (.agg #[.pointer (some ⟨17,55,none⟩)]))
 gR:∃ tp p,w.var? Tryz.prog "strconv.ErrRange" =some #[.iface tp p]
 big: 16≤w.heap.size
 rS:∃ c t,w.heap[aS.block]? =some (.cells c t (0,0))
 rB:∃ c t,w.heap[aB.block]? =some (.cells c t (0,0))
 rT:∃ c t,w.heap[aT.block]? =some (.cells c t (0,0))
 nSB:aS≠aB
 nST:aS≠aT
 nBT:aB≠aT
theorem GT {w w':World}{B:Nat}{a:Addr}(h:∃ c t,w.heap[a.block]? =some (.cells c t (0,0)))(b:Below B w w')(d:w.heap.size≤B):∃ c t,w'.heap[a.block]? =some (.cells c t (0,0)):=by
 obtain ⟨c,t,h⟩:=h;have f:a.block < w.heap.size:=(Array.getElem?_eq_some_iff.1 h).1;exact ⟨c,t,(b.block _ (by omega)).trans h⟩
theorem Abv: Tryz.prog.globalNamed "strconv.ErrRange" =some 15:=by kernel_rfl
theorem M3.below {w w':World}{B:Nat}{aS aB aT:Addr}(h:M3 w aS aB aT)(a:Below B w w')(b:w.heap.size≤B):M3 w' aS aB aT where
 gS:=(a.cell (p:=⟨0,0,none⟩) (by have:=h.big;show 0 < B;omega)).trans h.gS
 gB:=(a.cell (p:=⟨4,0,none⟩) (by have:=h.big;show 4 < B;omega)).trans h.gB
 gT:=(a.cell (p:=⟨5,0,none⟩) (by have:=h.big;show 5 < B;omega)).trans h.gT
 gE:=(a.cell (p:=⟨3,0,none⟩) (by have:=h.big;show 3 < B;omega)).trans h.gE
 gR:=by
  obtain ⟨c,p,e⟩:=h.gR;refine ⟨c,p, ?_⟩;rw[← e];unfold World.var?;rw[Abv];simp only[Option.bind_some];rw[a.block 15 (by have:=h.big;omega)]
 big:=Nat.le_trans h.big a.size
 rS:=GT h.rS a b
 rB:=GT h.rB a b
 rT:=GT h.rT a b
 nSB:=h.nSB
 nST:=h.nST
 nBT:=h.nBT
theorem M3.of_heap {w w':World}{aS aB aT:Addr}(h:M3 w aS aB aT)(e:w'.heap=w.heap):M3 w' aS aB aT:=by
 have c:∀ p,w'.cell? p=w.cell? p:=fun p=>by unfold World.cell?;rw[e]
 refine ⟨by rw[c];exact h.gS,by rw[c];exact h.gB,by rw[c];exact h.gT,by rw[c];exact h.gE, ?_,by rw[e];exact h.big,by rw[e];exact h.rS,by rw[e];exact h.rB,by rw[e];exact h.rT,h.nSB,h.nST,h.nBT⟩;obtain ⟨a,p,k⟩:=h.gR;refine ⟨a,p, ?_⟩;rw[← k];unfold World.var?;rw[e]
variable {aS aB aT : Addr}
def Il (aS aB aT:Addr) (c:Int):Value:=if c=1 then .iface 256 (.pointer (some aS)) else if c=2 then .iface 256 (.pointer (some aB)) else .iface 256 (.pointer (some aT))
theorem Bd {a b:Addr}{w:World}(g:a≠b)(d:∃ c t,w.heap[a.block]? =some (.cells c t (0,0)))(f:∃ c t,w.heap[b.block]? =some (.cells c t (0,0))):
  Calls Tryz.prog 85 #[.iface 256 (.pointer (some a)),.iface 256 (.pointer (some b))] w fun e w'=>e= .returned (.bool false)∧w'=w:=by
 obtain ⟨c,t,d⟩:=d;obtain ⟨h,i,f⟩:=f;exact Xq a b c h t i w g d f
theorem RH (w:World)(hs:M3 w aS aB aT):
  Calls Tryz.prog 45 #[.iface 256 (.pointer (some aS))] w fun e w'=>e= .returned (.int .i64 1)∧w'=w:=by
 have h1:=hs.gS;go_enter Tryz.func45,Tryz.ntmps45
 go_wp2_with fail
 refine (GU aS w).mono ?_;rintro e w' ⟨rfl,rfl⟩;go_wp2_with fail
 go_ret
 exact ⟨rfl,rfl⟩
theorem RI (w:World)(hs:M3 w aS aB aT):
  Calls Tryz.prog 45 #[.iface 256 (.pointer (some aB))] w fun e w'=>e= .returned (.int .i64 2)∧w'=w:=by
 have h1:=hs.gS;have h2:=hs.gB;go_enter Tryz.func45,Tryz.ntmps45
 go_wp2_with fail
 refine (Bd (fun e=>hs.nSB e.symm) hs.rB hs.rS).mono ?_;rintro e w' ⟨rfl,rfl⟩;go_wp2_with fail
 refine (GU aB _).mono ?_;rintro e w' ⟨rfl,rfl⟩;go_wp2_with fail
 go_ret
 exact ⟨rfl,rfl⟩
theorem RJ (w:World)(hs:M3 w aS aB aT):
  Calls Tryz.prog 45 #[.iface 256 (.pointer (some aT))] w fun e w'=>e= .returned (.int .i64 3)∧w'=w:=by
 have h1:=hs.gS;have h2:=hs.gB;have h3:=hs.gT;go_enter Tryz.func45,Tryz.ntmps45
 go_wp2_with fail
 refine (Bd (fun e=>hs.nST e.symm) hs.rT hs.rS).mono ?_;rintro e w' ⟨rfl,rfl⟩;go_wp2_with fail
 refine (Bd (fun e=>hs.nBT e.symm) hs.rT hs.rB).mono ?_;rintro e w' ⟨rfl,rfl⟩;go_wp2_with fail
 refine (GU aT _).mono ?_;rintro e w' ⟨rfl,rfl⟩;go_wp2_with fail
 go_ret
 exact ⟨rfl,rfl⟩
theorem Nr (c:Int)(w:World)(hs:M3 w aS aB aT)(hc: 1≤c∧c≤3):
  Calls Tryz.prog 45 #[Il aS aB aT c] w fun e w'=>e= .returned (.int .i64 c)∧w'=w:=by
 have h:c=1∨c=2∨c=3:=by omega
 rcases h with rfl | rfl | rfl
 ·exact RH w hs
 ·exact RI w hs
 ·exact RJ w hs
theorem DY (i:Int)(t:TypeId)(p:Value)(w:World):
  Calls Tryz.prog 75 #[.int .i64 i,.iface t p] w fun e w'=>e= .returned (.iface 102 (.pointer (some ⟨w.heap.size,0,none⟩)))∧Aj w' w.heap.size #[.int .i64 i,.iface t p] 107∧Below w.heap.size w w':=by
 go_enter Tryz.func75,Tryz.ntmps75
 go_wp2
 go_ret
 exact ⟨rfl,Aj.new _ _ _,(Below.refl w.heap.size w).alloc NLN _⟩
theorem JA {c:Func}{a:Tmp}(h:c.results= #[.cell a 32]){d:Array Value}{w:World}{b:Nat}{v0 v1:Value}(f:d.getD a undef= .pointer (some ⟨b,0,none⟩))
  (g:w.cell? ⟨b,0,none⟩=some v0)(g1:w.cell? ⟨b,1,none⟩=some v1):
  (results c d).run Tryz.prog w= .ok (.agg #[v0,v1]) w:=by
 rw[Array.getD_eq_getD_getElem?] at f;simp[results,h,f,go_sem,g,g1]
theorem QB (w:World):
  Calls Tryz.prog 18 #[.nilIface] w fun e w'=>e= .returned (.agg #[.int .i64 0,.int .i64 0])∧Below w.heap.size w w':=by
 go_enter Tryz.func18,Tryz.ntmps18
 go_wp2
 have R:=Aj.new w #[.int .i64 0,.int .i64 0] 32;have a:=R.cell 0;have g1:=R.cell 1;refine bodyPost_ret (JA Tryz.results18 rfl a g1) rfl ⟨rfl,(Below.refl w.heap.size w).alloc NLN _⟩
theorem Jj (aS aB aT:Addr)(c:Int):∃ a,Il aS aB aT c= .iface 256 (.pointer (some a)):=by
 unfold Il;split
 ·exact ⟨_,rfl⟩
 ·split
  ·exact ⟨_,rfl⟩
  ·exact ⟨_,rfl⟩
theorem QC (b:Nat)(i c:Int)(w:World)(hs:M3 w aS aB aT)(h:Aj w b #[.int .i64 i,Il aS aB aT c] 107)(hc: 1≤c∧c≤3):
  Calls Tryz.prog 18 #[.iface 102 (.pointer (some ⟨b,0,none⟩))] w fun e w'=>e= .returned (.agg #[.int .i64 c,.int .i64 i])∧Below w.heap.size w w':=by
 obtain ⟨l,m⟩:=Jj aS aB aT c;have n:=Ab (fun w hs=>Nr (aS:=aS) (aB:=aB) (aT:=aT) c w hs hc);rw[m] at h n;clear m;have a:=((Below.refl w.heap.size w).alloc NLN (.cells #[.int .i64 0,.int .i64 0] 32)).alloc (by simp) (.cells #[.pointer none] 102);have o:=(Aj.new w #[.int .i64 0,.int .i64 0] 32).alloc (.cells #[.pointer none] 102);have d:=Aj.new (w.alloc (.cells #[.int .i64 0,.int .i64 0] 32)) #[.pointer none] 102;have q:=Ab (hs.below a NLN).gE;have r:=h.after a NLN;have M:=h.lt;have N:((w.alloc (.cells #[.int .i64 0,.int .i64 0] 32)).alloc (.cells #[.pointer none] 102)).heap.size=w.heap.size+2:=by simp
 simp only[World.size_alloc] at d;have y:=Ab hs;clear hs h;go_enter Tryz.func18,Tryz.ntmps18
 go_wp2_with fail
 generalize (w.alloc (.cells #[.int .i64 0,.int .i64 0] 32)).alloc (.cells #[.pointer none] 102)=z at *;have s:=d.cell 0;refine (WF ⟨b,0,none⟩ ⟨w.heap.size+1,0,none⟩ (.pointer none) z (Aa q) (by simpa using s) (d.frozen 0)).mono ?_;rintro e f ⟨rfl,g⟩;have t:Below w.heap.size w f:=by
  rw[g];exact ((((a.alloc a.size _).alloc (by simp;omega) _).alloc (by simp;omega) _).alloc (by simp;omega) _).setCell (p:=⟨w.heap.size+1,0,none⟩) (by show w.heap.size≤w.heap.size+1;omega) _
 have j:Aj f w.heap.size #[.int .i64 0,.int .i64 0] 32:=by
  rw[g];exact ((((o.alloc _).alloc _).alloc _).alloc _).setFar (p:=⟨w.heap.size+1,0,none⟩) (by show w.heap.size≠w.heap.size+1;omega) _
 have A:Aj f (w.heap.size+1) #[.pointer (some ⟨b,0,none⟩)] 102:=by
  rw[g];exact ((((d.alloc _).alloc _).alloc _).alloc _).set 0 _
 have u:Aj f b #[.int .i64 i,.iface 256 (.pointer (some l))] 107:=by
  rw[g];exact ((((r.alloc _).alloc _).alloc _).alloc _).setFar (p:=⟨w.heap.size+1,0,none⟩) (by show b≠w.heap.size+1;omega) _
 have B:=Ab ((Aa y).below t NLN);clear g a o d r q s;have C:=A.cell 0;have E:=u.cell 0;have F:=u.cell 1;have O:=fun k=>j.frozen k;have H:=j.cell 0;have I:=j.cell 1;simp only[List.getElem?_toArray,List.getElem?_cons_zero,List.getElem?_cons_succ] at C E F H I;have J:b≠w.heap.size:=by omega
 have P:w.heap.size≠b:=by omega
 have Q: ¬ (b=w.heap.size):=J;go_wp2_with fail
 go_region_held3 (fun w'=>w'.cell? ⟨w.heap.size+1,0,none⟩=some (.pointer (some ⟨b,0,none⟩))∧w'.cell? ⟨b,0,none⟩=some (.int .i64 i)∧w'.cell? ⟨b,1,none⟩=some (.iface 256 (.pointer (some l)))) (go_keep)
  ((go_at_call 45;refine (Aa n f.drew (M3.of_heap (Aa B) rfl)).mono ?_;rintro e R ⟨rfl,v⟩;rw[v];clear v))
 all_goals
  go_wp2_with fail
  have x:=(j.set 0 (.int .i64 c)).set 1 (.int .i64 i);have K:=((t.setCell (p:=⟨w.heap.size,0,none⟩) NLN (.int .i64 c)).setCell (p:=⟨w.heap.size,1,none⟩) NLN (.int .i64 i)).drew;have L:_=some (Value.int .i64 c):=x.cell 0;have g1:_=some (Value.int .i64 i):=x.cell 1;exact bodyPost_ret (JA Tryz.results18 rfl L g1) rfl ⟨rfl,K⟩
end Go.Proofs.YtoplnhndilmlcaaGreatDoor
namespace Go.Proofs.YtoplnhndilmlcaaGreatDoor
set_option maxHeartbeats 1600000
open Go.RowKit
set_option linter.unusedVariables false
structure S6 (w:World) (a1 a2 a3 a4 a5 a6:Addr):Prop where
 g1:w.cell? ⟨0,0,none⟩=some (.iface 256 (.pointer (some a1)))
 g2:w.cell? ⟨4,0,none⟩=some (.iface 256 (.pointer (some a2)))
 g3:w.cell? ⟨5,0,none⟩=some (.iface 256 (.pointer (some a3)))
 g4:w.cell? ⟨6,0,none⟩=some (.iface 256 (.pointer (some a4)))
 g5:w.cell? ⟨1,0,none⟩=some (.iface 256 (.pointer (some a5)))
 g6:w.cell? ⟨2,0,none⟩=some (.iface 256 (.pointer (some a6)))
 gE:w.cell? ⟨3,0,none⟩=some (.iface 195 (.agg #[.pointer (some ⟨17,55,none⟩)]))
 gR:∃ tp p,w.var? Tryz.prog "strconv.ErrRange" =some #[.iface tp p]
 big: 16≤w.heap.size
 rows:∀ a∈ [a1,a2,a3,a4,a5,a6],∃ c t,w.heap[a.block]? =some (.cells c t (0,0))
 nd:([a1,a2,a3,a4,a5,a6]:List Addr).Nodup
variable {a1 a2 a3 a4 a5 a6 : Addr}
theorem S6.snt {w:World}(h:S6 w a1 a2 a3 a4 a5 a6):M3 w a1 a2 a3:=by
 have nd:=h.nd;simp only[List.nodup_cons,List.mem_cons,not_or] at nd;exact ⟨h.g1,h.g2,h.g3,h.gE,h.gR,h.big,h.rows _ (by simp),h.rows _ (by simp),h.rows _ (by simp),nd.1.1,nd.1.2.1,nd.2.1.1⟩
theorem S6.below {w w':World}{B:Nat}(h:S6 w a1 a2 a3 a4 a5 a6)(b:Below B w w')(c:w.heap.size≤B):S6 w' a1 a2 a3 a4 a5 a6 where
 g1:=(b.cell (p:=⟨0,0,none⟩) (by have:=h.big;show 0 < B;omega)).trans h.g1
 g2:=(b.cell (p:=⟨4,0,none⟩) (by have:=h.big;show 4 < B;omega)).trans h.g2
 g3:=(b.cell (p:=⟨5,0,none⟩) (by have:=h.big;show 5 < B;omega)).trans h.g3
 g4:=(b.cell (p:=⟨6,0,none⟩) (by have:=h.big;show 6 < B;omega)).trans h.g4
 g5:=(b.cell (p:=⟨1,0,none⟩) (by have:=h.big;show 1 < B;omega)).trans h.g5
 g6:=(b.cell (p:=⟨2,0,none⟩) (by have:=h.big;show 2 < B;omega)).trans h.g6
 gE:=(b.cell (p:=⟨3,0,none⟩) (by have:=h.big;show 3 < B;omega)).trans h.gE
 gR:=(h.snt.below b c).gR
 big:=Nat.le_trans h.big b.size
 rows:=fun a d=>GT (h.rows a d) b c
 nd:=h.nd
theorem S6.drew {w:World}(h:S6 w a1 a2 a3 a4 a5 a6):S6 w.drew a1 a2 a3 a4 a5 a6:=h.below (Below.refl w.heap.size w).drew NLN
theorem OM (w:World)(hs:S6 w a1 a2 a3 a4 a5 a6):
  Calls Tryz.prog 45 #[.iface 256 (.pointer (some a4))] w fun e w'=>e= .returned (.int .i64 4)∧w'=w:=by
 have h1:=hs.g1;have h2:=hs.g2;have h3:=hs.g3;have h4:=hs.g4;have d:=Ab hs.nd;have c:=Ab hs.rows;clear hs;go_enter Tryz.func45,Tryz.ntmps45
 go_wp2_with fail
 refine (Bd (a:=a4) (b:=a1) (by have:=Aa d;simp at this;grind) (Aa c _ (by simp)) (Aa c _ (by simp))).mono ?_;rintro e w' ⟨rfl,rfl⟩;go_wp2_with fail
 refine (Bd (a:=a4) (b:=a2) (by have:=Aa d;simp at this;grind) (Aa c _ (by simp)) (Aa c _ (by simp))).mono ?_;rintro e w' ⟨rfl,rfl⟩;go_wp2_with fail
 refine (Bd (a:=a4) (b:=a3) (by have:=Aa d;simp at this;grind) (Aa c _ (by simp)) (Aa c _ (by simp))).mono ?_;rintro e w' ⟨rfl,rfl⟩;go_wp2_with fail
 refine (GU a4 _).mono ?_;rintro e w' ⟨rfl,rfl⟩;go_wp2_with fail
 go_ret
 exact ⟨rfl,rfl⟩
theorem OQ (w:World)(hs:S6 w a1 a2 a3 a4 a5 a6):
  Calls Tryz.prog 45 #[.iface 256 (.pointer (some a5))] w fun e w'=>e= .returned (.int .i64 5)∧w'=w:=by
 have h1:=hs.g1;have h2:=hs.g2;have h3:=hs.g3;have h4:=hs.g4;have h5:=hs.g5;have d:=Ab hs.nd;have c:=Ab hs.rows;clear hs;go_enter Tryz.func45,Tryz.ntmps45
 go_wp2_with fail
 refine (Bd (a:=a5) (b:=a1) (by have:=Aa d;simp at this;grind) (Aa c _ (by simp)) (Aa c _ (by simp))).mono ?_;rintro e w' ⟨rfl,rfl⟩;go_wp2_with fail
 refine (Bd (a:=a5) (b:=a2) (by have:=Aa d;simp at this;grind) (Aa c _ (by simp)) (Aa c _ (by simp))).mono ?_;rintro e w' ⟨rfl,rfl⟩;go_wp2_with fail
 refine (Bd (a:=a5) (b:=a3) (by have:=Aa d;simp at this;grind) (Aa c _ (by simp)) (Aa c _ (by simp))).mono ?_;rintro e w' ⟨rfl,rfl⟩;go_wp2_with fail
 refine (Bd (a:=a5) (b:=a4) (by have:=Aa d;simp at this;grind) (Aa c _ (by simp)) (Aa c _ (by simp))).mono ?_;rintro e w' ⟨rfl,rfl⟩;go_wp2_with fail
 refine (GU a5 _).mono ?_;rintro e w' ⟨rfl,rfl⟩;go_wp2_with fail
 go_ret
 exact ⟨rfl,rfl⟩
theorem OR (w:World)(hs:S6 w a1 a2 a3 a4 a5 a6):
  Calls Tryz.prog 45 #[.iface 256 (.pointer (some a6))] w fun e w'=>e= .returned (.int .i64 6)∧w'=w:=by
 have h1:=hs.g1;have h2:=hs.g2;have h3:=hs.g3;have h4:=hs.g4;have h5:=hs.g5;have h6:=hs.g6;have d:=Ab hs.nd;have c:=Ab hs.rows;clear hs;go_enter Tryz.func45,Tryz.ntmps45
 go_wp2_with fail
 refine (Bd (a:=a6) (b:=a1) (by have:=Aa d;simp at this;grind) (Aa c _ (by simp)) (Aa c _ (by simp))).mono ?_;rintro e w' ⟨rfl,rfl⟩;go_wp2_with fail
 refine (Bd (a:=a6) (b:=a2) (by have:=Aa d;simp at this;grind) (Aa c _ (by simp)) (Aa c _ (by simp))).mono ?_;rintro e w' ⟨rfl,rfl⟩;go_wp2_with fail
 refine (Bd (a:=a6) (b:=a3) (by have:=Aa d;simp at this;grind) (Aa c _ (by simp)) (Aa c _ (by simp))).mono ?_;rintro e w' ⟨rfl,rfl⟩;go_wp2_with fail
 refine (Bd (a:=a6) (b:=a4) (by have:=Aa d;simp at this;grind) (Aa c _ (by simp)) (Aa c _ (by simp))).mono ?_;rintro e w' ⟨rfl,rfl⟩;go_wp2_with fail
 refine (Bd (a:=a6) (b:=a5) (by have:=Aa d;simp at this;grind) (Aa c _ (by simp)) (Aa c _ (by simp))).mono ?_;rintro e w' ⟨rfl,rfl⟩;go_wp2_with fail
 refine (GU a6 _).mono ?_;rintro e w' ⟨rfl,rfl⟩;go_wp2_with fail
 go_ret
 exact ⟨rfl,rfl⟩
def ad6 (a4 a5 a6:Addr) (c:Int):Addr:=if c=4 then a4 else if c=5 then a5 else a6
theorem SA (c:Int)(w:World)(hs:S6 w a1 a2 a3 a4 a5 a6)(hc: 4≤c∧c≤6):
  Calls Tryz.prog 45 #[.iface 256 (.pointer (some (ad6 a4 a5 a6 c)))] w fun e w'=>e= .returned (.int .i64 c)∧w'=w:=by
 have h:c=4∨c=5∨c=6:=by omega
 rcases h with rfl | rfl | rfl
 ·exact OM w hs
 ·exact OQ w hs
 ·exact OR w hs
def ErP (a4 a5 a6:Addr) (c i:Int) (b:Nat) (w:World):Prop:=Aj w b #[.int .i64 i,.iface 256 (.pointer (some (ad6 a4 a5 a6 c)))] 107
theorem WP (b:Nat)(c i:Int)(w:World)(hs:S6 w a1 a2 a3 a4 a5 a6)(a:ErP a4 a5 a6 c i b w)(hc: 4≤c∧c≤6):
  Calls Tryz.prog 18 #[.iface 102 (.pointer (some ⟨b,0,none⟩))] w fun e w'=>e= .returned (.agg #[.int .i64 c,.int .i64 i])∧Below w.heap.size w w':=by
 have l:=Ab (fun w hs=>SA (a1:=a1) (a2:=a2) (a3:=a3) (a4:=a4) (a5:=a5) (a6:=a6) c w hs hc)
 change Aj w b #[.int .i64 i,.iface 256 (.pointer (some (ad6 a4 a5 a6 c)))] 107 at a
 clear hc;generalize ad6 a4 a5 a6 c=m at a l;have d:=((Below.refl w.heap.size w).alloc NLN (.cells #[.int .i64 0,.int .i64 0] 32)).alloc (by simp) (.cells #[.pointer none] 102);have n:=(Aj.new w #[.int .i64 0,.int .i64 0] 32).alloc (.cells #[.pointer none] 102);have f:=Aj.new (w.alloc (.cells #[.int .i64 0,.int .i64 0] 32)) #[.pointer none] 102;have o:=Ab (hs.below d NLN).gE;have q:=a.after d NLN;have L:=a.lt;have M:((w.alloc (.cells #[.int .i64 0,.int .i64 0] 32)).alloc (.cells #[.pointer none] 102)).heap.size=w.heap.size+2:=by simp
 simp only[World.size_alloc] at f;have x:=Ab hs;clear hs a;go_enter Tryz.func18,Tryz.ntmps18
 go_wp2_with fail
 generalize (w.alloc (.cells #[.int .i64 0,.int .i64 0] 32)).alloc (.cells #[.pointer none] 102)=y at *;have r:=f.cell 0;refine (WF ⟨b,0,none⟩ ⟨w.heap.size+1,0,none⟩ (.pointer none) y (Aa o) (by simpa using r) (f.frozen 0)).mono ?_;rintro e g ⟨rfl,h⟩;have s:Below w.heap.size w g:=by
  rw[h];exact ((((d.alloc d.size _).alloc (by simp;omega) _).alloc (by simp;omega) _).alloc (by simp;omega) _).setCell (p:=⟨w.heap.size+1,0,none⟩) (by show w.heap.size≤w.heap.size+1;omega) _
 have j:Aj g w.heap.size #[.int .i64 0,.int .i64 0] 32:=by
  rw[h];exact ((((n.alloc _).alloc _).alloc _).alloc _).setFar (p:=⟨w.heap.size+1,0,none⟩) (by show w.heap.size≠w.heap.size+1;omega) _
 have z:Aj g (w.heap.size+1) #[.pointer (some ⟨b,0,none⟩)] 102:=by
  rw[h];exact ((((f.alloc _).alloc _).alloc _).alloc _).set 0 _
 have t:Aj g b #[.int .i64 i,.iface 256 (.pointer (some m))] 107:=by
  rw[h];exact ((((q.alloc _).alloc _).alloc _).alloc _).setFar (p:=⟨w.heap.size+1,0,none⟩) (by show b≠w.heap.size+1;omega) _
 have A:=Ab ((Aa x).below s NLN);clear h d n f q o r;have B:=z.cell 0;have C:=t.cell 0;have E:=t.cell 1;have N:=fun k=>j.frozen k;have F:=j.cell 0;have H:=j.cell 1;simp only[List.getElem?_toArray,List.getElem?_cons_zero,List.getElem?_cons_succ] at B C E F H;have I:b≠w.heap.size:=by omega
 have O:w.heap.size≠b:=by omega
 have P: ¬ (b=w.heap.size):=I;go_wp2_with fail
 go_region_held3 (fun w'=>w'.cell? ⟨w.heap.size+1,0,none⟩=some (.pointer (some ⟨b,0,none⟩))∧w'.cell? ⟨b,0,none⟩=some (.int .i64 i)∧w'.cell? ⟨b,1,none⟩=some (.iface 256 (.pointer (some m)))) (go_keep)
  ((go_at_call 45;refine (Aa l g.drew ((Aa A).drew)).mono ?_;rintro e Q ⟨rfl,u⟩;rw[u];clear u))
 all_goals
  go_wp2_with fail
  have v:=(j.set 0 (.int .i64 c)).set 1 (.int .i64 i);have J:=((s.setCell (p:=⟨w.heap.size,0,none⟩) NLN (.int .i64 c)).setCell (p:=⟨w.heap.size,1,none⟩) NLN (.int .i64 i)).drew;have K:_=some (Value.int .i64 c):=v.cell 0;have g1:_=some (Value.int .i64 i):=v.cell 1;exact bodyPost_ret (JA Tryz.results18 rfl K g1) rfl ⟨rfl,J⟩
end Go.Proofs.YtoplnhndilmlcaaGreatDoor
