/-
  Mem, PickP, Byte1, MarkT, VPR, Slices0, Slices, Rd. Own work.
-/
import Derived.Test.YtcpdodmoheebaaaGreatDoorMXAB
import Derived.WalkSpells
import Derived.WalkLawsBesides
import Derived.Laws.BytesString
import Derived.Deep.RegionHeld3
import Derived.Test.YtcpdodmoheebaaaGreatDoorNames
import Derived.RegionTactic
import Derived.ChangeAlike
import Derived.Deep.QuietTactic
import Derived.BigQuiet
import Derived.Test.YtcpdodmoheebaaaGreatDoorRows
import Derived.Test.YtcpdodmoheebaaaGreatDoorMXAA
import Derived.WalkKit
import Derived.ProofKit
import Derived.OpenShut
namespace Go.Proofs.YtcpdodmoheebaaaGreatDoor
open Go.RowKit
theorem Bd.setFar {w:World}{a:Option Addr}{n c:Nat}{d:List ByteArray}(h:Bd w a n c d){p:Addr}(g:∀ x,a=some x→p.block≠x.block)(u:Value):Bd (w.setCell p u) a n c d:=
 ⟨h.len,h.cap,h.small,h.sizes,fun j i=>by
  obtain ⟨b,k,f,l,hc⟩:=h.cells j i
  refine ⟨b,k,f,by simpa using l,?_⟩
  rw [← hc]
  exact World.cell?_of_block (heap_setCell_other w p b u (fun e=>g _ f e.symm))⟩
theorem Bd.drewN {w:World}{a:Option Addr}{n c:Nat}{b:List ByteArray}(h:Bd w a n c b)(k:Nat):Bd (w.drewN k) a n c b:=
 h.below (below_drewN (Below.refl w.heap.size w) k) (Nat.le_refl _)
def MH (a b:ByteArray):Bool:=a.toList== b.toList
theorem Js (a b:ByteArray):MH a b=true↔a=b:=by
 rw [MH,beq_iff_eq,ByteArray.toList_eq,ByteArray.toList_eq]
 exact ⟨CV,fun h=>by rw [h]⟩
theorem FT (a:List ByteArray)(k:Nat)(h:k < a.length):a.take (k+1)=a.take k ++ [CK a k]:=by
 rw [BE a k h,List.take_succ_eq_append_getElem h]
theorem Cy {w:World}{b e n:Nat}{a:Value}{d:List Value}(h:w.ownsRow b e 1 a n d):∃ x c,a= .slice x n c:=by
 rcases h.2 with ⟨rfl,rfl⟩ | ⟨g,cap,f,rfl,_⟩
 ·exact ⟨_,_,rfl⟩
 ·exact ⟨_,_,rfl⟩
def Dy (x:Int):ByteArray:=ByteArray.empty.push (UInt8.ofNat x.toNat)
theorem BC (x:Int):(Dy x).size=1:=rfl
theorem FW (a:World)(x:Int):(convert 22 9 (.slice (some ⟨a.heap.size,0,none⟩) 1 1)).run Tryz.prog (a.alloc (.cells #[.int .u8 x] 5))= .ok (.string (Dy x)) (a.alloc (.cells #[.int .u8 x] 5)):=by
 rw [run_convert_bytes_string _ _ _ _ _ _ _ Tryz.underlying22 Tryz.underlying5 Tryz.underlying9]
 rw [run_bytesToString _ _ _ _ [x]]
 ·rfl
 ·have h:(a.alloc (.cells #[.int .u8 x] 5)).cell? ⟨a.heap.size,0,none⟩=some (.int .u8 x):=by simp
  simp [loadCells,h,go_sem]
theorem Ae (a b:ByteArray):(a ++b).size=a.size+b.size:=ByteArray.size_append
def Mr:Nat→Nat→ByteArray→ByteArray
 | 0,_,l=>l
 | f+1,k,l=>if k=0 then l else Mr f (k / 10) (Dy (48+(k:Int) % 10) ++l)
def LX (k:Nat):ByteArray:=if k=0 then ⟨#[109,48]⟩ else ⟨#[109]⟩ ++Mr (k+1) k ⟨#[]⟩
set_option linter.unusedVariables false
structure Nd where
 op:Int
 num:Int
 text:ByteArray
 names:List ByteArray
 kids:List Int
structure St where
 kind:Int
 name:ByteArray
 cond:Int
 grant:Int
def Dl (op:Int):Int:=if 1≤op∧op≤7 then 0 else if 8≤op∧op≤10 then 1 else if 11≤op∧op≤26 then 2 else if op=27 then 3 else -1
def BA (s:ByteArray):Bool:=match Ad s with
 | []=>false
 | c ::r=>decide ((c ::r).length≤32) && GK c && (c ::r).all BU && !Dc (c ::r)
def BP (s:ByteArray):Bool:=decide (s.size≤32) && (Ad s).all Dw
def AI (x:Nd):Bool:=
 decide ((x.kids.length:Int)=Dl x.op) &&
 (if x.op=1 then decide (0≤x.num) && decide (x.text.size=0) && decide (x.names.length=0)
   else if x.op=2 then BP x.text && decide (x.num=0) && decide (x.names.length=0)
   else if x.op=3 then decide (x.num=0∨x.num=1) && decide (x.text.size=0) && decide (x.names.length=0)
   else if x.op=4 then Ff x.names && decide (x.num=0) && decide (x.text.size=0)
   else if x.op=5 then BA x.text && decide (x.num=0) && decide (x.names.length=0)
   else if x.op=6∨x.op=7 then false
   else decide (x.num=0) && decide (x.text.size=0) && decide (x.names.length=0))
def A8 (last:Bool) (s:St):Bool:=
 if s.kind=1 then !last && BA s.name && decide (0≤s.cond) && decide (s.grant= -1)
 else if s.kind=2 then !last && decide (s.name.size=0) && decide (0≤s.cond) && decide (-1≤s.grant)
 else if s.kind=3 then last && decide (s.name.size=0) && decide (s.cond= -1) && decide (-1≤s.grant)
 else false
def H6 (s:St):Bool:=
 if s.kind=1 then BA s.name && decide (s.grant= -1)
 else if s.kind=2 then decide (s.name.size=0)
 else if s.kind=3 then decide (s.name.size=0) && decide (s.cond= -1)
 else false
def Al (s:St):List Int:=(if 0≤s.cond then [s.cond] else []) ++(if 0≤s.grant then [s.grant] else [])
def AG (s:St):List Int:=(if s.kind≠3 then [s.cond] else []) ++(if s.grant≠-1 then [s.grant] else [])
def Cl:List St→Bool
 | []=>true
 | s ::r=>A8 r.isEmpty s && Cl r
def Dn:List St→Bool
 | []=>true
 | s ::r=>H6 s && (decide (s.kind=3)== r.isEmpty) && Dn r
theorem Dt:∀ (L:List St),(∀ x∈L.flatMap AG,0≤x)→(Dn L=true↔Cl L=true)
 | [],_=>Iff.rfl
 | s ::r,h=>by
  have g:=Dt r (fun x hx=>h x (by rw [List.flatMap_cons];exact List.mem_append_right _ hx))
  have hs:∀ x∈AG s,0≤x:=fun x hx=>h x (by rw [List.flatMap_cons];exact List.mem_append_left _ hx)
  rw [Dn,Cl,Bool.and_eq_true,Bool.and_eq_true,Bool.and_eq_true,g]
  have e:(H6 s=true∧(decide (s.kind=3)== r.isEmpty)=true)↔A8 r.isEmpty s=true:=by
   have hc:s.kind≠3→0≤s.cond:=fun k=>hs _ (by rw [AG,if_pos k];simp)
   have b:s.grant≠-1→0≤s.grant:=fun k=>hs _ (by rw [AG,if_pos k];simp)
   generalize r.isEmpty=a
   unfold H6 A8
   by_cases c:s.kind=1
   ·simp [c]
    have:=hc (by omega)
    cases a <;> simp [this]
   ·by_cases d:s.kind=2
    ·simp [d]
     have h1:=hc (by omega)
     have h2: -1≤s.grant:=by by_cases k:s.grant= -1;omega;have:=b k;omega
     cases a <;> simp [h1,h2]
    ·by_cases f:s.kind=3
     ·simp [f]
      have h2: -1≤s.grant:=by by_cases k:s.grant= -1;omega;have:=b k;omega
      cases a <;> simp [h2]
     ·simp [c,d,f]
  rw [← e,and_assoc]
theorem Ix:∀ {f:Bool} {s:St},A8 f s=true→Al s=AG s∧∀ x∈AG s,0≤x:=by
 intro f s h
 unfold A8 at h
 unfold Al AG
 by_cases d:s.kind=1
 ·simp [d] at h
  obtain ⟨⟨_,h1⟩,h2⟩:=h
  simp [d,h1,h2]
 ·by_cases b:s.kind=2
  ·simp [b] at h
   obtain ⟨⟨_,h1⟩,h2⟩:=h
   by_cases a:s.grant= -1
   ·simp [b,h1,a]
   ·have: 0≤s.grant:=by omega
    simp [b,h1,a,this]
  ·by_cases c:s.kind=3
   ·simp [c] at h
    obtain ⟨⟨_,h1⟩,h2⟩:=h
    by_cases a:s.grant= -1
    ·simp [c,h1,a]
    ·have: 0≤s.grant:=by omega
     simp [c,h1,a,this]
   ·simp [d,b,c] at h
theorem Ey:∀ {L:List St},Cl L=true→L.flatMap Al=L.flatMap AG∧∀ x∈L.flatMap AG,0≤x
 | [],_=>⟨rfl,fun x hx=>by cases hx⟩
 | s ::r,h=>by
  rw [Cl,Bool.and_eq_true] at h
  obtain ⟨e1,h1⟩:=Ix h.1
  obtain ⟨e2,h2⟩:=Ey h.2
  refine ⟨by rw [List.flatMap_cons,List.flatMap_cons,e1,e2],fun x hx=>?_⟩
  rw [List.flatMap_cons] at hx
  rcases List.mem_append.1 hx with k | k
  ·exact h1 x k
  ·exact h2 x k
def Du (N:List Nd) (L:List St):Prop:=
 Cl L=true∧((L.flatMap Al).foldl (fun o k=>Az (N.map Nd.kids) N.length k o) []).length=N.length∧good ((L.flatMap Al).foldl (fun o k=>Az (N.map Nd.kids) N.length k o) [])∧∀ r∈L.flatMap Al,AN (N.map Nd.kids) N.length r≤64
def La (N:List Nd) (L:List St):Prop:=Dn L=true∧∃ S,Cv (N.map Nd.kids) N.length [] 0=some S∧AH S=L.flatMap AG
theorem Je (N:List Nd)(L:List St):La N L↔Du N L:=by
 have hs:=Kd (N.map Nd.kids) (L.flatMap AG)
 rw [List.length_map] at hs
 constructor
 ·rintro ⟨h1,a,h2,h3⟩
  have h0:∀ x∈L.flatMap AG,0≤x:=by
   rw [← h3]
   intro x hx
   obtain ⟨p,_,rfl⟩:=List.mem_map.1 hx
   omega
  have h4:=(Dt L h0).1 h1
  have e:=(Ey h4).1
  unfold Du
  rw [e]
  exact ⟨h4,hs.2 ⟨a,h2,h3⟩⟩
 ·rintro ⟨h1,h2⟩
  obtain ⟨e,h0⟩:=Ey h1
  rw [e] at h2
  exact ⟨(Dt L h0).2 h1,hs.1 h2⟩
set_option maxHeartbeats 1600000
theorem Fj (a:Option Addr)(n c:Nat)(d:List ByteArray)(w:World)(h:Bd w a n c d):
  Calls Tryz.prog 80 #[.slice a n c] w fun e w'=>e= .returned (.bool (Ff d))∧w'=w:=by
 have hl:=h.len
 by_cases I:n≤64
 ·have g:(n:Int)≤64:=by omega
  have l:=Ab (IY d (by omega))
  have o:=Ab hl
  clear hl
  go_enter Tryz.func80,Tryz.ntmps80
  go_wp2
  go_loop [2,3,4,5,11] (fun _ _ _ _ f=>∃ k:Nat,k≤n∧f= .int .i64 k∧(∀ j,j < k→vnB (CK d j)=true)∧(∀ f j,f < k→f < j→j < n→sl (CK d f) (CK d j)=true)) (fun _ _ _ _ f=>n - (intOf f).toNat)
  case atStart=>exact ⟨0,Nat.zero_le _,rfl,fun j i=>by omega,fun f j C=>by omega⟩
  case round=>
   obtain ⟨k,J,rfl,t,u⟩:=hrel
   have v:=Ab t
   have x:=Ab u
   clear t u
   by_cases y:k < n
   ·obtain ⟨b,K,D,_,hc⟩:=h.at (by omega)
    have L:=hc k y
    have E:=Ab hc
    clear hc
    have z:=h.sizes k y
    subst D
    cases p:vnB (CK d k)
    ·have q:=Ab p
     have s:=Ab (KJ d k (by have:=Aa o;omega) p)
     clear p
     go_wp2_with (go_at_call 88;refine (Cg _ _ z).mono ?_;rintro e w' ⟨rfl,rfl⟩;rw [Aa q])
     go_ret
     exact ⟨Ak (by rw [Aa l,Aa s];rfl),rfl⟩
    ·have q:=Ab p
     clear p
     go_wp2_with (go_at_call 88;refine (Cg _ _ z).mono ?_;rintro e w' ⟨rfl,rfl⟩;rw [Aa q])
     go_loop [5] (fun f=>∃ m:Nat,k < m∧m≤n∧f= .int .i64 m∧∀ j,k < j→j < m→sl (CK d k) (CK d j)=true) (fun f=>n - (intOf f).toNat)
     case atStart=>exact ⟨k+1,by omega,by omega,by go_num,fun j i F=>by omega⟩
     case round=>
      obtain ⟨m,G,hm,rfl,A⟩:=hrel
      have B:=Ab A
      clear A
      by_cases H:m < n
      ·have M:=Aa E m H
       cases hs:Op.bytesLess (CK d k).toList (CK d m).toList
       ·have s:=Ab (KK d k m G (by have:=Aa o;omega) hs)
        go_wp2
        go_ret
        exact ⟨Ak (by rw [Aa l,Aa s,Bool.and_false]),rfl⟩
       ·go_wp2
        go_round
        case rel=>
         refine ⟨m+1,by omega,by omega,by go_num,fun j i F=>?_⟩
         by_cases e:j=m
         ·subst e;exact hs
         ·exact Aa B j i (by omega)
        case measure=>simp [intOf];omega
      ·go_wp2
       go_round
       case rel=>
        refine ⟨k+1,by omega,by go_num,fun j i=>?_,fun f j C r i=>?_⟩
        ·by_cases e:j=k
         ·subst e;exact Aa q
         ·exact Aa v j (by omega)
        ·by_cases e:f=k
         ·subst e;exact Aa B j r (by omega)
         ·exact Aa x f j (by omega) r i
       case measure=>simp [intOf];omega
   ·go_wp2
    go_ret
    have e1:IX d=true:=LE d fun j i=>Aa v j (by have:=Aa o;omega)
    have e2:CM d=true:=(Ib d).2 fun f j r i=>Aa x f j (by have:=Aa o;omega) r (by have:=Aa o;omega)
    exact ⟨Ak (by rw [Aa l,e1,e2];rfl),rfl⟩
 ·have g:(64 :Int) < (n:Int):=by omega
  have l:=Ab (JY d (by omega))
  clear hl
  go_enter Tryz.func80,Tryz.ntmps80
  go_wp2
  go_ret
  exact ⟨Ak (Aa l).symm,rfl⟩
end Go.Proofs.YtcpdodmoheebaaaGreatDoor
namespace Go.Proofs.YtcpdodmoheebaaaGreatDoor
open Go.RowKit Go.ChangeShapes
structure Co (w:World) (a:Option Addr) (n c:Nat) (zs:List Int):Prop where
 cap:n≤c
 small:c≤maxLen
 cells:∀ j,j < n→∃ b off z,a=some ⟨b,off,none⟩∧b < w.heap.size∧w.cell? ⟨b,off+j,none⟩=some (.int .u8 z)∧0≤z∧z≤255
theorem Co.below {w w':World}{B:Nat}{a:Option Addr}{n c:Nat}{d:List Int}(h:Co w a n c d)(f:Below B w w')(k:w.heap.size≤B):Co w' a n c d:=
 ⟨h.cap,h.small,fun j l=>by
  obtain ⟨b,g,m,o,i,hc,q⟩:=h.cells j l
  exact ⟨b,g,m,o,Nat.lt_of_lt_of_le i f.size,by rw [← hc];exact f.cell (p:=⟨b,g+j,none⟩) (Nat.lt_of_lt_of_le i k),q⟩⟩
theorem Co.of_trod {k:Type}{enc:TypeId × Value→k}{P:Program}{w:World}{o:Bool}{t e:TypeId}{fuel:Nat}{x:DataW k × List MemPlace}{a:Option Addr}{n c:Nat}
  (p:P.underlying t=some (.slice e))(he:P.underlying e=some (.int .u8))(hc:P.cellsOf e=1)
  (h:DataW.trod enc P w 0 (fun _=>true) o fuel t [.slice a n c]=some x):∃ d,Co w a n c d:=by
 rcases open_ints p he hc h with ⟨f,_⟩ | ⟨q,len,cap,d,f,_,hl,hm,r,_,l,s⟩
 ·simp only [List.cons.injEq,Value.slice.injEq,and_true] at f
  obtain ⟨rfl,rfl,rfl⟩:=f
  exact ⟨[],Nat.le_refl _,Nat.zero_le _,fun j u=>by omega⟩
 ·simp only [List.cons.injEq,Value.slice.injEq,and_true] at f
  obtain ⟨rfl,rfl,rfl⟩:=f
  simp only [if_true] at r
  refine ⟨d,hl,hm,fun j u=>?_⟩
  have hs:=World.cell?_spot (l 0 (by omega))
  obtain ⟨b,g,z⟩:=q
  simp only [Addr.add,if_true] at hs
  subst hs
  have i:=l j (by omega)
  have v:(⟨b,g,none⟩:Addr).add j=⟨b,g+j,none⟩:=by
   by_cases e:j=0 <;> simp [Addr.add,e]
  rw [v] at i
  have m:=bounds_u8 (s (d.getD j 0) (by simp [List.getD,show j < d.length from by omega]))
  refine ⟨b,g,d.getD j 0,rfl,?_,i,m.1,m.2⟩
  by_cases y:b < w.heap.size
  ·exact y
  ·have:w.heap[b]? =none:=Array.getElem?_eq_none (by omega)
   simp [World.cell?,this] at i
structure Rd (w:World) (R:Nat) (a:Option Addr) (n c p:Nat):Prop where
 row:Ao w R #[.slice a n c,.int .i64 (p:Int)] 44
 le:p≤n
 small:n≤1048576
 cells:∀ j,j < n→∃ b off z,a=some ⟨b,off,none⟩∧b < R∧w.cell? ⟨b,off+j,none⟩=some (.int .u8 z)∧0≤z∧z≤255
theorem Rd.after {w w':World}{B d:Nat}{a:Option Addr}{n c p:Nat}(h:Rd w d a n c p)(f:Below B w w')(i:d < B):Rd w' d a n c p:=
 ⟨h.row.below f i,h.le,h.small,fun j k=>by
  obtain ⟨b,g,l,m,o,hc,q⟩:=h.cells j k
  exact ⟨b,g,l,m,o,by rw [← hc];exact f.cell (p:=⟨b,g+j,none⟩) (by show b < B;omega),q⟩⟩
theorem Rd.new {w:World}{a:Option Addr}{n c:Nat}{g:List Int}(h:Co w a n c g)(i:n≤1048576):Rd (w.alloc (.cells #[.slice a n c,.int .i64 0] 44)) w.heap.size a n c 0:=
 ⟨Ao.new _ _ _,Nat.zero_le _,i,fun j k=>by
  obtain ⟨b,d,l,m,f,hc,o⟩:=h.cells j k
  exact ⟨b,d,l,m,f,by rw [← hc];exact ((Below.refl w.heap.size w).alloc (Nat.le_refl _) _).cell (p:=⟨b,d+j,none⟩) f,o⟩⟩
theorem Rd.step {w:World}{d:Nat}{a:Option Addr}{n c p:Nat}(h:Rd w d a n c p)(f:p < n):Rd (w.setCell ⟨d,1,none⟩ (.int .i64 ((p+1 :Nat):Int))) d a n c (p+1):=
 ⟨by simpa using h.row.set 1 (.int .i64 ((p+1 :Nat):Int)),f,h.small,fun j g=>by
  obtain ⟨b,i,k,l,m,hc,o⟩:=h.cells j g
  refine ⟨b,i,k,l,m,?_,o⟩
  rw [← hc]
  exact World.cell?_of_block (heap_setCell_other w ⟨d,1,none⟩ b _ (by show b≠d;omega))⟩
def Ba (w:World) (R:Nat) (a:Option Addr) (n c:Nat):Prop:=∃ p,Rd w R a n c p
end Go.Proofs.YtcpdodmoheebaaaGreatDoor
