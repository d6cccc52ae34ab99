/-
  Mark, OwnM, OWX, VPD, JT0, Sorted. Own work.
-/
import Derived.Test.YtcpdodmoheebaaaGreatDoorMXAC
import Derived.Test.YtcpdodmoheebaaaGreatDoorMXAD
import Derived.Test.YtcpdodmoheebaaaGreatDoorMXAB
import Derived.Laws.AppendOwn
import Derived.Test.YtcpdodmoheebaaaGreatDoorMXAA
namespace Go.Proofs.YtcpdodmoheebaaaGreatDoor
open Go.RowKit
def MP (k n:Nat):List ByteArray:=(List.range n).map fun j=>LX (k+j)
def MG (ss:List ByteArray) (k n i:Nat):List ByteArray:=(List.range n).map fun j=>if j < i then LX (k+j) else CK ss j
set_option linter.unusedVariables false
theorem BO {w w':World}{a:Nat}{e:TypeId}{size:Nat}{b:Value}{n B:Nat}{c:List Value}(h:w.ownsRow a e size b n c)(d:Below B w w')(f:w.heap.size≤B):w'.ownsRow a e size b n c:=by
 refine ⟨h.1,?_⟩
 rcases h.2 with i | ⟨g,cap,j,k,h1,h2,h3⟩
 ·exact .inl i
 ·exact .inr ⟨g,cap,j,k,h1,(d.block g (Nat.lt_of_lt_of_le (Array.getElem?_eq_some_iff.1 h2).1 f)).trans h2,h3⟩
theorem Av {w:World}{a e size n:Nat}{b:Value}{d:List Value}(h:w.ownsRow a e size b n d):∃ x c,b= .slice x n c∧(0 < n→∃ g,x=some ⟨g,0,none⟩∧a≤g∧∀ j u,d[j]? =some u→w.cell? ⟨g,j,none⟩=some u):=by
 rcases h.2 with ⟨rfl,rfl⟩ | ⟨g,cap,k,rfl,f,_⟩
 ·exact ⟨_,_,rfl,fun h=>absurd h (by omega)⟩
 ·refine ⟨_,_,rfl,fun _=>⟨g,rfl,f,fun j u hu=>?_⟩⟩
  have:=h.cells (g:=g) rfl j u hu
  have i:(⟨g,0,none⟩:Addr).add j=⟨g,j,none⟩:=by unfold Addr.add;split <;> simp_all
  rwa [i] at this
theorem Af {w:World}{B b n size:Nat}{e d:TypeId}{f:Value}{i:List Value}{j:Array Value}(k:Ao w b j d)(h:w.ownsRow B e size f n i)(l:d≠e):f.ownBlock≠some b:=fun a=>by
 rcases h.2 with ⟨c,_⟩ | ⟨g,cap,o,c,_,m,_⟩
 ·rw [c] at a;cases a
 ·rw [c] at a
  obtain rfl:g=b:=by simpa [Value.ownBlock] using a
  have:=k.out.symm.trans m
  simp at this
  exact l this.2
def nz (t:Int):Option Int:=if t=0 then none else some t
set_option maxHeartbeats 1600000
def JZ (first:Bool) (s x:ByteArray):Bool:=first || sl s x
structure Bm (names:List ByteArray) (first:Bool) (s best:ByteArray) (found:Bool):Prop where
 yes:found=true→best∈names∧JZ first s best=true∧∀ x∈names,JZ first s x=true→sl x best=false
 no:found=false→∀ x∈names,JZ first s x=false
theorem Bm.start (first:Bool)(s a:ByteArray):Bm [] first s a false:=⟨(fun h=>by cases h),(fun _ x hx=>by cases hx)⟩
theorem Bm.skip {names:List ByteArray}{first:Bool}{s c x:ByteArray}{d:Bool}(h:Bm names first s c d)(hx:JZ first s x=false):Bm (names ++ [x]) first s c d:=by
 refine ⟨fun a=>?_,fun a y hy=>?_⟩
 ·obtain ⟨h1,h2,h3⟩:=h.yes a
  refine ⟨List.mem_append_left _ h1,h2,fun y hy b=>?_⟩
  rcases List.mem_append.1 hy with hy | hy
  ·exact h3 y hy b
  ·simp only [List.mem_singleton] at hy;subst hy;rw [hx] at b;cases b
 ·rcases List.mem_append.1 hy with hy | hy
  ·exact h.no a y hy
  ·simp only [List.mem_singleton] at hy;subst hy;exact hx
theorem Bm.keep {names:List ByteArray}{first:Bool}{s a x:ByteArray}(h:Bm names first s a true)(hx:sl x a=false):Bm (names ++ [x]) first s a true:=by
 obtain ⟨h1,h2,h3⟩:=h.yes rfl
 refine ⟨fun _=>⟨List.mem_append_left _ h1,h2,fun y hy b=>?_⟩,fun c=>by cases c⟩
 rcases List.mem_append.1 hy with hy | hy
 ·exact h3 y hy b
 ·simp only [List.mem_singleton] at hy;subst hy;exact hx
theorem Bm.take {names:List ByteArray}{first:Bool}{s c x:ByteArray}{a:Bool}(h:Bm names first s c a)(hx:JZ first s x=true)(hl:a=true→sl x c=true):Bm (names ++ [x]) first s x true:=by
 refine ⟨fun _=>⟨by simp,hx,fun y hy b=>?_⟩,fun d=>by cases d⟩
 rcases List.mem_append.1 hy with hy | hy
 ·cases a with
  | false=>rw [h.no rfl y hy] at b;cases b
  | true=>
   have h3:=(h.yes rfl).2.2 y hy b
   rw [Bool.eq_false_iff] at h3 ⊢
   intro f
   exact h3 (Fi f (hl rfl))
 ·simp only [List.mem_singleton] at hy;subst hy;exact BK _
theorem LF (first:Bool)(s x:ByteArray)(a:first=false)(h:(Op.bytesLess x.toList s.toList || x.toList== s.toList)=true):JZ first s x=false:=by
 subst a
 simp only [JZ,Bool.false_or]
 rw [Bool.or_eq_true] at h
 rcases h with h | h
 ·exact H9 h
 ·have:x=s:=(Js x s).1 h
  subst this;exact BK _
theorem Mc (first:Bool)(s x:ByteArray)(h:(Op.bytesLess x.toList s.toList || x.toList== s.toList)=false):JZ first s x=true:=by
 rw [Bool.or_eq_false_iff] at h
 have h1:sl x s=false:=h.1
 have h2:MH x s=false:=h.2
 have:sl s x=true:=by
  cases a:sl s x with
  | true=>rfl
  | false=>
   have:=KI _ _ h1 a
   rw [(Js _ _).2 this] at h2;cases h2
 simp [JZ,this]
def LG (ss:List ByteArray) (first:Bool) (s:ByteArray) (e:Ending):Prop:=∃ best found,e= .returned (.tuple #[.string best,.bool found])∧Bm ss first s best found
theorem Fk (a:Option Addr)(n c:Nat)(d:List ByteArray)(s:ByteArray)(first:Bool)(w:World)(h:Bd w a n c d):
  Calls Tryz.prog 87 #[.slice a n c,.string s,.bool first] w fun e w'=>LG d first s e∧w'=w:=by
 have x:n≤9223372036854775807:=by have:=h.cap;have:=h.small;unfold maxLen at this;omega
 have r:=Ab h.len
 go_enter Tryz.func87,Tryz.ntmps87
 go_wp2
 go_loop [8,9,11,14] (fun b f _ q=>∃ (k:Nat) (m:ByteArray) (i:Bool),k≤n∧q= .int .i64 k∧b= .string m∧f= .bool i∧Bm (d.take k) first s m i) (fun _ _ _ q=>n - (intOf q).toNat)
 case atStart=>exact ⟨0,_,false,Nat.zero_le _,rfl,rfl,rfl,Bm.start _ _ _⟩
 case round=>
  obtain ⟨k,m,i,y,rfl,rfl,rfl,g⟩:=hrel
  by_cases u:k < n
  ·obtain ⟨b,z,v,_,hc⟩:=h.cells k u
   subst v
   have j:=Ab (FT d k (by have:=Aa r;omega))
   cases t:(Op.bytesLess (CK d k).toList s.toList || (CK d k).toList== s.toList)
   ·have o:=Mc first s (CK d k) t
    have l:=Ab o
    clear o
    cases i
    ·cases first
     all_goals
      go_wp2
      go_round
      case rel=>exact ⟨k+1,_,true,by omega,by go_num,rfl,rfl,by rw [Aa j];exact g.take (Aa l) (fun h=>by cases h)⟩
      case measure=>simp [intOf];omega
    ·cases p:Op.bytesLess (CK d k).toList m.toList
     ·cases first
      all_goals
       go_wp2
       go_round
       case rel=>exact ⟨k+1,_,true,by omega,by go_num,rfl,rfl,by rw [Aa j];exact g.keep p⟩
       case measure=>simp [intOf];omega
     ·cases first
      all_goals
       go_wp2
       go_round
       case rel=>exact ⟨k+1,_,true,by omega,by go_num,rfl,rfl,by rw [Aa j];exact g.take (Aa l) (fun _=>p)⟩
       case measure=>simp [intOf];omega
   ·cases first
    ·have l:=Ab (LF false s (CK d k) rfl t)
     go_wp2
     go_round
     case rel=>exact ⟨k+1,_,i,by omega,by go_num,rfl,rfl,by rw [Aa j];exact g.skip (Aa l)⟩
     case measure=>simp [intOf];omega
    ·have o:JZ true s (CK d k)=true:=rfl
     have l:=Ab o
     clear o
     cases i
     ·go_wp2
      go_round
      case rel=>exact ⟨k+1,_,true,by omega,by go_num,rfl,rfl,by rw [Aa j];exact g.take (Aa l) (fun h=>by cases h)⟩
      case measure=>simp [intOf];omega
     ·cases p:Op.bytesLess (CK d k).toList m.toList
      ·go_wp2
       go_round
       case rel=>exact ⟨k+1,_,true,by omega,by go_num,rfl,rfl,by rw [Aa j];exact g.keep p⟩
       case measure=>simp [intOf];omega
      ·go_wp2
       go_round
       case rel=>exact ⟨k+1,_,true,by omega,by go_num,rfl,rfl,by rw [Aa j];exact g.take (Aa l) (fun _=>p)⟩
       case measure=>simp [intOf];omega
  ·have e1:d.take k=d:=List.take_of_length_le (by have:=Aa r;omega)
   rw [e1] at g
   go_wp2
   go_ret2
   exact ⟨⟨m,i,rfl,g⟩,rfl⟩
theorem Fl {K:List ByteArray}(h:CM K=true):K.Nodup:=by
 rw [CM,decide_eq_true_eq] at h
 exact h.imp (fun {a b} hab e=>by subst e;rw [BK] at hab;cases hab)
theorem Fm:∀ (K l:List ByteArray),K.Nodup→(∀ x∈K,x∈l)→K.length≤l.length
 | [],_,_,_=>Nat.zero_le _
 | x ::K,l,hn,hs=>by
  obtain ⟨a,b,rfl⟩:=List.append_of_mem (hs x (by simp))
  rw [List.nodup_cons] at hn
  have:=Fm K (a ++b) hn.2 (fun y hy=>by
   have c:y≠x:=fun e=>hn.1 (by rw [← e];exact hy)
   have hm:=hs y (by simp [hy])
   simp only [List.mem_append,List.mem_cons] at hm ⊢
   rcases hm with h | h | h
   ·exact .inl h
   ·exact absurd h c
   ·exact .inr h)
  simp only [List.length_append,List.length_cons] at this ⊢
  omega
theorem EF:∀ (K M:List ByteArray),CM K=true→CM M=true→(∀ x,x∈K↔x∈M)→K=M
 | [], [],_,_,_=>rfl
 | [],y ::M,_,_,h=>by have:=(h y).2 (by simp);cases this
 | x ::K, [],_,_,h=>by have:=(h x).1 (by simp);cases this
 | x ::K,y ::M,hK,hM,h=>by
  rw [CM,decide_eq_true_eq,List.pairwise_cons] at hK hM
  have c:x=y:=by
   rcases List.mem_cons.1 ((h x).1 (by simp)) with e | hx
   ·exact e
   ·rcases List.mem_cons.1 ((h y).2 (by simp)) with e | hy
    ·exact e.symm
    ·have h1:=hM.1 x hx
     have h2:=hK.1 y hy
     rw [H9 h1] at h2;cases h2
  subst c
  congr 1
  refine EF K M (by rw [CM,decide_eq_true_eq];exact hK.2) (by rw [CM,decide_eq_true_eq];exact hM.2) fun b=>?_
  constructor
  ·intro a
   rcases List.mem_cons.1 ((h b).1 (by simp [a])) with e | hz'
   ·subst e;have:=hK.1 b a;rw [BK] at this;cases this
   ·exact hz'
  ·intro a
   rcases List.mem_cons.1 ((h b).2 (by simp [a])) with e | hz'
   ·subst e;have:=hM.1 b a;rw [BK] at this;cases this
   ·exact hz'
structure Cb (l K:List ByteArray):Prop where
 rise:CM K=true
 mem:∀ x,x∈K↔x∈l
theorem Cb.unique {l K M:List ByteArray}(h:Cb l K)(k:Cb l M):K=M:=EF K M h.rise k.rise fun x=>(h.mem x).trans (k.mem x).symm
theorem Cb.len {l K:List ByteArray}(h:Cb l K):K.length≤l.length:=Fm K l (Fl h.rise) fun x hx=>(h.mem x).1 hx
structure GE (l K:List ByteArray) (s:ByteArray) (ok:Bool):Prop where
 rise:CM K=true
 yes:ok=true→s∈l∧∀ x,x∈K↔x∈l∧sl x s=true
 no:ok=false→∀ x,x∈K↔x∈l
theorem GE.start {l:List ByteArray}{t s:ByteArray}{b:Bool}(h:Bm l true t s b):GE l [] s b:=by
 refine ⟨rfl,fun a=>⟨(h.yes a).1,fun x=>⟨(fun hx=>by cases hx),fun ⟨hx,hl⟩=>?_⟩⟩,fun a x=>⟨(fun hx=>by cases hx),fun hx=>?_⟩⟩
 ·have:=(h.yes a).2.2 x hx rfl
  rw [this] at hl;cases hl
 ·have:=h.no a x hx
  cases this
theorem Ic (x s:ByteArray):sl x s=true∨x=s∨sl s x=true:=by
 cases h1:sl x s with
 | true=>exact .inl rfl
 | false=>cases h2:sl s x with
  | true=>exact .inr (.inr rfl)
  | false=>exact .inr (.inl (KI _ _ h1 h2))
theorem GE.step {l K:List ByteArray}{s a:ByteArray}{c:Bool}(h:GE l K s true)(k:Bm l false s a c):GE l (K ++ [s]) a c:=by
 obtain ⟨hs,hm⟩:=h.yes rfl
 have rise:CM (K ++ [s])=true:=by
  rw [CM,decide_eq_true_eq,List.pairwise_append]
  refine ⟨by have:=h.rise;rwa [CM,decide_eq_true_eq] at this,by simp,fun x hx y hy=>?_⟩
  simp only [List.mem_singleton] at hy;subst hy
  exact ((hm x).1 hx).2
 refine ⟨rise,fun b=>?_,fun b=>?_⟩
 ·obtain ⟨h1,h2,h3⟩:=k.yes b
  have d:sl s a=true:=by simpa [JZ] using h2
  refine ⟨h1,fun x=>⟨fun hx=>?_,fun ⟨hx,hl⟩=>?_⟩⟩
  ·rcases List.mem_append.1 hx with hx | hx
   ·exact ⟨((hm x).1 hx).1,Fi ((hm x).1 hx).2 d⟩
   ·simp only [List.mem_singleton] at hx;subst hx;exact ⟨hs,d⟩
  ·rcases Ic x s with hc | hc | hc
   ·exact List.mem_append_left _ ((hm x).2 ⟨hx,hc⟩)
   ·subst hc;simp
   ·have:=h3 x hx (by simpa [JZ] using hc)
    rw [this] at hl;cases hl
 ·intro x
  constructor
  ·intro hx
   rcases List.mem_append.1 hx with hx | hx
   ·exact ((hm x).1 hx).1
   ·simp only [List.mem_singleton] at hx;subst hx;exact hs
  ·intro hx
   rcases Ic x s with hc | hc | hc
   ·exact List.mem_append_left _ ((hm x).2 ⟨hx,hc⟩)
   ·subst hc;simp
   ·have:=k.no b x hx
    simp [JZ,hc] at this
theorem GE.lt {l K:List ByteArray}{s:ByteArray}(h:GE l K s true):K.length < l.length:=by
 obtain ⟨hs,hm⟩:=h.yes rfl
 have a:s ∉ K:=fun b=>by have:=((hm s).1 b).2;rw [BK] at this;cases this
 have:=Fm (s ::K) l (List.nodup_cons.2 ⟨a,Fl h.rise⟩) (fun x hx=>by
  rcases List.mem_cons.1 hx with e | hx
  ·subst e;exact hs
  ·exact ((hm x).1 hx).1)
 simp only [List.length_cons] at this
 omega
def BV:Value→Nat | .slice _ n _=>n | _=>0
def LH (w:World) (ss:List ByteArray) (e:Ending) (w':World):Prop:=
 ∃ x cx K,e= .returned (.slice x K.length cx)∧w'.ownsRow w.heap.size 9 1 (.slice x K.length cx) K.length (K.map Value.string)∧Below w.heap.size w w'∧Cb ss K
theorem DB (a:Option Addr)(n c:Nat)(i:List ByteArray)(w:World)(h:Bd w a n c i)(R:n≤1048576):
  Calls Tryz.prog 77 #[.slice a n c] w fun e w'=>LH w i e w':=by
 obtain ⟨z,A,B,C,D⟩:=info_parts Kh
 have E:=Ab h.len
 go_enter Tryz.func77,Tryz.ntmps77
 go_wp2_with fail
 refine (Fk _ _ _ _ _ _ _ h).mono ?_
 rintro e o ⟨⟨F,G,rfl,b⟩,p⟩
 rw [p]
 clear p
 have H:=GE.start b
 clear b
 go_wp2_with fail
 go_loopw [3,4,5] (fun j s I wr=>∃ (K:List ByteArray) (t:ByteArray) (d:Bool) (x:Option Addr) (f:Nat),s= .string t∧I= .bool d∧j= .slice x K.length f∧wr.ownsRow w.heap.size 9 1 (.slice x K.length f) K.length (K.map Value.string)∧GE i K t d∧Below w.heap.size w wr) (fun j _ _ _=>n - BV j)
 case atStart=>exact ⟨[],F,G,none,0,rfl,rfl,rfl,World.ownsRow_nil _ _ _ _,H,Below.refl _ _⟩
 case round=>
  obtain ⟨K,t,d,x,f,rfl,rfl,rfl,g,hu,l⟩:=hrel
  cases d
  ·go_wp2
   go_ret
   exact ⟨x,f,K,rfl,g,l,⟨hu.rise,hu.no rfl⟩⟩
  ·have S:K.length < n:=by have:=hu.lt;have:=Aa E;omega
   have J:=l.size
   go_wp2_with (at_builtin;refine wpList_append_own _ rfl _ _ 54 rfl w.heap.size 9 z (.string ByteArray.empty) 1 16 Tryz.underlying54 A B C D rfl (by decide) _ _ _ rfl (g.alloc _) ⟨wr.heap.size,0,none⟩ 1 1 [.string t] rfl rfl ?c1 ?c2 ?c3 ?c4 ?c5 ?_)
   case c1=>exact cell_one_new _ _ _
   case c2=>intro u hu;simp at hu;subst hu;rfl
   case c3=>unfold maxLen;omega
   case c4=>omega
   case c5=>simp;omega
   intro T o m q _
   have r:Below w.heap.size w o:=(l.alloc J _).grown q (by simp;omega) (fun k L=>(g.lt k L).1)
   obtain ⟨M,N,v⟩:=Cy m
   rw [v] at m ⊢
   clear q g v
   go_wp2_with fail
   refine (Fk _ _ _ _ _ _ _ (h.below r (Nat.le_refl _))).mono ?_
   rintro e U ⟨⟨O,P,rfl,b⟩,y⟩
   rw [y]
   clear y
   have Q:=hu.step b
   clear b hu
   go_wp2
   go_roundw
   case rel=>exact ⟨K ++ [t],O,P,M,N,rfl,rfl,by rw [List.length_append];rfl,by rw [List.map_append,List.length_append];exact m,Q,r⟩
   case measure=>simp [BV];omega
end Go.Proofs.YtcpdodmoheebaaaGreatDoor
