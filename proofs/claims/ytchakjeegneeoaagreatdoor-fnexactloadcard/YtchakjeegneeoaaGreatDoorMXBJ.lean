/-
  Laws, Comp, HE, PickH. Own work.
-/
import Derived.Test.YtchakjeegneeoaaGreatDoorMXAG
import Derived.Test.YtchakjeegneeoaaGreatDoorMXAT
import Derived.Test.YtchakjeegneeoaaGreatDoorMXAA
import Derived.Lib.SlicesCompact
import Derived.Test.YtchakjeegneeoaaGreatDoorMXAH
namespace Go.Proofs.YtchakjeegneeoaaGreatDoor
open Go.RowKit
end Go.Proofs.YtchakjeegneeoaaGreatDoor
namespace Go.Proofs.YtchakjeegneeoaaGreatDoor
open Go.RowKit Go.Lib
theorem Abt {x y:List UInt8}(h:AB x=AB y):x=y:=by rw[← DT x,h,DT]
theorem AcW (x y:List UInt8):sl (AB x) (AB y)=true↔x < y:=by rw[Na];simp[AB]
theorem QI (x y:List UInt8):x≤y↔sl (AB y) (AB x)=false:=by
 rw[z2,Ne,AcW];exact List.not_lt.symm
theorem Xp {x y a:ByteArray}(h:sl y x=false)(k:sl a y=false):sl a x=false:=by
 rw[z2];intro hc;rcases JQ y a with h1 | h1 | h1
 ·rw[H7 h1 hc] at h;cases h
 ·subst h1;rw[hc] at h;cases h
 ·rw[h1] at k;cases k
theorem Xq (d:List (List UInt8)):(d.mergeSort fun x y=>decide (x≤y)).Pairwise fun x y=>sl (AB y) (AB x)=false:=by
 have:=List.pairwise_mergeSort (le:=fun x y:List UInt8=>decide (x≤y)) (fun a b c h k=>by
  rw[zG,QI] at h k ⊢;exact Xp h k) (fun a b=>by
  rw[Bool.or_eq_true,zG,zG,QI,QI];cases h:sl (AB b) (AB a) with
  |false=>exact .inl rfl
  |true=>exact .inr (Nb h)) d
 exact this.imp fun {a b} h=>by rwa[zG,QI] at h
theorem Nc (d:Array (List UInt8))(hd:∀ i j,i≤j→j < d.size→sl (AB d[j]!) (AB d[i]!)=false):
  ∀ m,m≤d.size→FU ((compactUpTo d m).map AB)=true∧∀ x,x∈compactUpTo d m↔∃ j,j < m∧d[j]! =x
 | 0,_=>⟨rfl,fun x=>⟨fun h=>by simp[compactUpTo] at h,fun ⟨j,c,_⟩=>by omega⟩⟩
 |m+1,hm=>by
  obtain ⟨h1,h2⟩:=Nc d hd m (by omega);rw[compactUpTo_succ];cases hk:keeps d m with
  |true=>
   rw[if_pos rfl];refine ⟨?_,fun x=>?_⟩
   ·rw[FU,zG] at h1 ⊢;rw[zU,List.pairwise_append];refine ⟨h1,by simp,fun a k b g=>?_⟩;simp only[List.map_cons,z8,zL] at g;subst g;obtain ⟨x,hx,rfl⟩:=zQ.1 k;obtain ⟨j,c,rfl⟩:=(h2 x).1 hx;simp only[keeps,zG] at hk;have l:d[m]! ≠d[m - 1]! :=by
     rcases hk with hk | hk
     ·omega
     ·exact hk
    rcases JQ (AB d[j]!) (AB d[m]!) with h | h | h
    ·exact h
    ·exfalso;have a1:=hd j (m - 1) (by omega) (by omega);rw[h] at a1;have a2:=hd (m - 1) m (by omega) (by omega);exact l (Abt (UW _ _ a2 a1))
    ·have:=hd j m (by omega) (by omega);rw[h] at this;cases this
   ·rw[zK,h2,zL];constructor
    ·rintro (⟨j,c,e⟩ | e)
     ·exact ⟨j,by omega,e⟩
     ·exact ⟨m,by omega,e.symm⟩
    ·rintro ⟨j,c,e⟩;by_cases f:j=m
     ·subst f;exact .inr e.symm
     ·exact .inl ⟨j,by omega,e⟩
  |false=>
   rw[if_neg (by simp),zr];refine ⟨h1,fun x=>?_⟩;rw[h2];simp only[keeps,decide_eq_false_iff_not,not_or,Classical.not_not] at hk;constructor
   ·rintro ⟨j,c,e⟩;exact ⟨j,by omega,e⟩
   ·rintro ⟨j,c,e⟩;by_cases f:j=m
    ·subst f;exact ⟨j - 1,by omega,by rw[← hk.2];exact e⟩
    ·exact ⟨j,by omega,e⟩
def Nf (ss:List ByteArray):List (List UInt8):=Lib.compact ((ss.map Ap).mergeSort fun x y=>decide (x≤y))
theorem Fa (c:List ByteArray):Cw c ((Nf c).map AB):=by
 unfold Nf Lib.compact;generalize d:((c.map Ap).mergeSort fun x y=>decide (x≤y))=b;have f:=Xq (c.map Ap);rw[d] at f;obtain ⟨h1,h2⟩:=Nc b.toArray (fun i j l a=>by
  have k:j < b.length:=by simpa using a
  have g:i < b.length:=by omega
  rw[getElem!_pos _ j a,getElem!_pos _ i (by simpa using g)];simp only[List.getElem_toArray];by_cases e:i=j
  ·subst e;exact Ec _
  ·exact List.pairwise_iff_getElem.1 f i j g k (by omega)) b.length (by simp)
 refine ⟨h1,fun x=>?_⟩;rw[zQ];have h:∀ y,y∈b↔y∈c.map Ap:=fun y=>by rw[← d,List.mem_mergeSort]
 constructor
 ·rintro ⟨y,hy,rfl⟩;obtain ⟨j,a,e⟩:=(h2 y).1 hy;rw[getElem!_pos _ j (by simpa using a)] at e;simp only[List.getElem_toArray] at e;have:y∈b:=by rw[← e];exact zO a
  obtain ⟨s,hs,rfl⟩:=zQ.1 ((h y).1 this);rw[Bs];exact hs
 ·intro hx;have:Ap x∈b:=(h _).2 (zQ.2 ⟨x,hx,rfl⟩);obtain ⟨j,a,e⟩:=Z1 this;refine ⟨Ap x,(h2 _).2 ⟨j,a, ?_⟩,Bs x⟩;rw[getElem!_pos _ j (by simpa using a)];simpa using e
theorem Abu (a:List ByteArray):((a.map Ap).map fun l=>Value.string ⟨l.toArray⟩)=a.map Value.string:=by
 rw[List.map_map];apply List.map_congr_left;intro s _;cases s;simp[Ap]
theorem Abv (ts:List (List UInt8)):(ts.map AB).map Value.string=ts.map fun l=>Value.string ⟨l.toArray⟩:=by
 rw[List.map_map];rfl
end Go.Proofs.YtchakjeegneeoaaGreatDoor
namespace Go.Proofs.YtchakjeegneeoaaGreatDoor
open Go.RowKit
set_option linter.unusedVariables false
def Sy.wt:Sy→Nat
 | .policy=>3 | .decision=>1 | .expr=>6 | .orMore=>1 | .and_=>5 | .andMore=>1 | .not_=>4 | .compared=>1 | .sum=>3 | .sumMore=>1
 | .term=>2 | .termMore=>1 | .unary=>1 | .primary=>1 | .scopes=>2 | .scopesMore=>1 | .scope=>1 | .t _=>1
def Pg:List Sy→Nat
 | []=>0
 |x ::st=>x.wt+Pg st
theorem Ro:∀ (a b:List Sy),Pg (a ++b)=Pg a+Pg b
 | [],b=>by simp[Pg]
 |x ::a,b=>by rw[List.cons_append,Pg,Pg,Ro a b];omega
theorem WU:∀ (st:List Sy),st.length≤Pg st
 | []=>by simp[Pg]
 |x ::st=>by
  have:=WU st;have h1: 1≤x.wt:=by cases x <;> simp[Sy.wt]
  rw[List.length_cons,Pg];omega
theorem Adn {x:Sy}{t:List UInt8}{m:List Sy}(h:An x t=some m):Pg m≤x.wt∨(t≠ []∧(∃ a,m= .t t ::a)∧Pg m≤x.wt+15):=by
 cases x with
 |t s=>cases h
 |scope=>cases h
 |and_=>cases h;left;decide
 |sum=>cases h;left;decide
 |term=>cases h;left;decide
 |policy=>
  simp only[An] at h;split at h
  ·rename_i e;cases h;subst e;right;exact ⟨by decide,⟨_,rfl⟩,by decide⟩
  ·split at h
   ·rename_i e;cases h;subst e;right;exact ⟨by decide,⟨_,rfl⟩,by decide⟩
   ·cases h;left;decide
 |decision=>
  simp only[An] at h;split at h
  ·rename_i e;cases h;subst e;right;exact ⟨by decide,⟨_,rfl⟩,by decide⟩
  ·cases h;left;decide
 |expr=>
  simp only[An] at h;split at h
  ·rename_i e;cases h;subst e;right;exact ⟨by decide,⟨_,rfl⟩,by decide⟩
  ·cases h;left;decide
 |orMore=>
  simp only[An] at h;split at h
  ·rename_i e;cases h;subst e;right;exact ⟨by decide,⟨_,rfl⟩,by decide⟩
  ·cases h;left;decide
 |andMore=>
  simp only[An] at h;split at h
  ·rename_i e;cases h;subst e;right;exact ⟨by decide,⟨_,rfl⟩,by decide⟩
  ·cases h;left;decide
 |not_=>
  simp only[An] at h;split at h
  ·rename_i e;cases h;subst e;right;exact ⟨by decide,⟨_,rfl⟩,by decide⟩
  ·cases h;left;decide
 |compared=>
  simp only[An] at h;split at h
  ·rename_i e;cases h;right;exact ⟨fun h0=>(by rw[h0] at e;revert e;decide),⟨_,rfl⟩,by simp[Pg,Sy.wt]⟩
  ·cases h;left;decide
 |sumMore=>
  simp only[An] at h;split at h
  ·rename_i e;cases h;right;exact ⟨fun h0=>(by rw[h0] at e;revert e;decide),⟨_,rfl⟩,by simp[Pg,Sy.wt]⟩
  ·cases h;left;decide
 |termMore=>
  simp only[An] at h;split at h
  ·rename_i e;cases h;right;exact ⟨fun h0=>(by rw[h0] at e;revert e;decide),⟨_,rfl⟩,by simp[Pg,Sy.wt]⟩
  ·cases h;left;decide
 |unary=>
  simp only[An] at h;split at h
  ·rename_i e;cases h;subst e;right;exact ⟨by decide,⟨_,rfl⟩,by decide⟩
  ·cases h;left;decide
 |primary=>
  simp only[An] at h;split at h
  ·rename_i e;cases h;subst e;right;exact ⟨by decide,⟨_,rfl⟩,by decide⟩
  ·split at h
   ·rename_i e;cases h;subst e;right;exact ⟨by decide,⟨_,rfl⟩,by decide⟩
   ·split at h
    ·rename_i e;cases h;subst e;right;exact ⟨by decide,⟨_,rfl⟩,by decide⟩
    ·split at h
     ·cases h;left;simp[Pg,Sy.wt]
     ·cases h;left;decide
 |scopes=>
  simp only[An] at h;split at h
  ·cases h;left;decide
  ·cases h;left;decide
 |scopesMore=>
  simp only[An] at h;split at h
  ·rename_i e;cases h;subst e;right;exact ⟨by decide,⟨_,rfl⟩,by decide⟩
  ·cases h;left;decide
def Rp (B:Nat) (st:List Sy) (ts:List Af):Prop:=
 Pg st+14 * ts.length≤B∨(ts≠ []∧(∃ st',st= .t (KQ ts) ::st')∧Pg st+14 * ts.length≤B+15)
theorem Rp.len {B:Nat}{st:List Sy}{ts:List Af}(h:Rp B st ts):st.length≤B+15:=by
 have:=WU st;rcases h with h | ⟨_,_,h⟩ <;> omega
theorem Rp.exp {B:Nat}{x:Sy}{st m:List Sy}{ts:List Af}(h:Rp B (x ::st) ts)(he:An x (KQ ts)=some m):Rp B (m ++st) ts:=by
 have h1:Pg (x ::st)+14 * ts.length≤B:=by
  rcases h with h | ⟨_,⟨b,e⟩,_⟩
  ·exact h
  ·injection e with e1 e2;rw[e1] at he;cases he
 rw[Pg] at h1;rcases Adn he with h2 | ⟨h2,⟨a,h3⟩,h4⟩
 ·exact .inl (by rw[Ro];omega)
 ·refine .inr ⟨fun e=>h2 (by rw[e];rfl),⟨a ++st,by rw[h3];rfl⟩,by rw[Ro];omega⟩
theorem Rp.pop {B:Nat}{x:Sy}{st:List Sy}{t:Af}{r:List Af}(h:Rp B (x ::st) (t ::r)):Rp B st r:=by
 have hx: 1≤x.wt:=by cases x <;> simp[Sy.wt]
 refine .inl ?_;rcases h with h | ⟨_,_,h⟩ <;> (rw[Pg,List.length_cons] at h;omega)
def okY:Sy→Prop
 | .t s=>s∈Cq∨s=Pn∨s=FI∨s=ER
 |_=>True
instance (x:Sy):Decidable (okY x):=by cases x <;> (unfold okY;infer_instance)
theorem Aap {x:Sy}{t:List UInt8}{m:List Sy}(h:An x t=some m):∀ y∈m,okY y:=by
 have a:∀ k,t∈AY k→okY (.t t):=fun k hk=> .inl (J8 hk);cases x with
 |t s=>cases h
 |scope=>cases h
 |and_=>cases h;decide
 |sum=>cases h;decide
 |term=>cases h;decide
 |compared=>
  simp only[An] at h;split at h
  ·rename_i e;cases h;intro y hy;simp only[zE,zo,or_false] at hy;rcases hy with rfl | rfl;exact a _ e;trivial
  ·cases h;decide
 |sumMore=>
  simp only[An] at h;split at h
  ·rename_i e;cases h;intro y hy;simp only[zE,zo,or_false] at hy;rcases hy with rfl | rfl | rfl;exact a _ e;trivial;trivial
  ·cases h;decide
 |termMore=>
  simp only[An] at h;split at h
  ·rename_i e;cases h;intro y hy;simp only[zE,zo,or_false] at hy;rcases hy with rfl | rfl | rfl;exact a _ e;trivial;trivial
  ·cases h;decide
 |primary=>
  simp only[An] at h;split at h
  ·cases h;decide
  ·split at h
   ·cases h;decide
   ·split at h
    ·cases h;decide
    ·split at h
     ·rename_i e;cases h;intro y hy;rw[zL.1 hy];rcases e with rfl | rfl | rfl | rfl <;> decide
     ·cases h;decide
 |policy=>
  simp only[An] at h;split at h
  ·cases h;decide
  ·split at h <;> (cases h;decide)
 |_=>
  simp only[An] at h;split at h <;> (cases h;decide)
def unX (T:List Af):Option (List Af)→Int
 |none=>-1
 |some q=>(T.length:Int) - (q.length:Int)
set_option maxHeartbeats 800000
theorem Ye (a:Option Addr)(n c:Nat)(d:List ByteArray)(s:ByteArray)(w:World)(h:Bg w a n c d):
  Calls Tryz.prog 100 #[.slice a n c,.string s] w fun e w'=>e= .returned (.bool (VD d s))∧w'=w:=by
 have r:n≤9223372036854775807:=by have:=h.cap;have:=h.small;unfold maxLen at this;omega
 go_enter Tryz.func100,Tryz.ntmps100
 go_wp2
 go_loop [6,9] (fun _ i=>∃ k:Nat,k≤n∧i= .int .i64 k∧∀ j,j < k→eqS (EU d j) s=false) (fun _ i=>n - (intOf i).toNat)
 case atStart=>exact ⟨0,zF _,rfl,fun j f=>by omega⟩
 case round=>
  obtain ⟨k,hk,rfl,g⟩:=hrel;have l:=Ab g;clear g;by_cases o:k < n
  ·obtain ⟨b,t,p,_,hc⟩:=h.cells k o;subst p;cases m:((EU d k).toList== s.toList)
   ·go_wp2
    go_round
    case rel=>
     refine ⟨k+1,by omega,by go_num,fun j f=>?_⟩
     by_cases e:j=k
     ·subst e;exact m
     ·exact Aa l j (by omega)
    case measure=>simp[intOf];omega
   ·have q:=Ab (Acq d s k (by have:=h.len;omega) m);go_wp2
    go_ret
    exact ⟨Ag (Aa q).symm,rfl⟩
  ·go_wp2
   go_ret
   exact ⟨Ag (YG d s fun j f=>Aa l j (by have:=h.len;omega)).symm,rfl⟩
end Go.Proofs.YtchakjeegneeoaaGreatDoor
