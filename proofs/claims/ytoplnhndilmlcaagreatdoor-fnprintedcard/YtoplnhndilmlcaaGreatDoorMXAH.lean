/-
  ONC, OND, ONE, ONP, DC0, EX, EY. Own work.
-/
import Derived.Test.YtoplnhndilmlcaaGreatDoorMXAG
import Derived.Test.YtoplnhndilmlcaaGreatDoorMXAJ
namespace Go.Proofs.YtoplnhndilmlcaaGreatDoor
open Go.RowKit
set_option linter.unusedVariables false
theorem BN {w:World}{lo n c:Nat}{a:Option Addr}{L:List Int}(h:w.ownsRow lo 3 1 (.slice a n c) n (At L))(b:L.length=n)(d:n≤1048576):Do w a n c L:=by
 refine ⟨b,d,fun j f=>?_⟩;obtain ⟨x,i,e,hx⟩:=Af h;cases e;obtain ⟨g,rfl,k,hc⟩:=hx (by omega);refine ⟨g,0,rfl,(h.lt g rfl).2, ?_⟩;rw[Nat.zero_add];exact hc j _ (by rw[At,List.getElem?_map,List.getElem?_eq_getElem f];rfl)
def AR (L:List St):List Value:=L.flatMap fun s=> [.int .i64 s.kind,.string s.name,.int .i64 s.cond,.int .i64 s.grant]
theorem KV:∀ (L:List St) (j:Nat) (h:j < L.length),∀ r,r < 4→(AR L)[j * 4+r]? =([Value.int .i64 L[j].kind,.string L[j].name,.int .i64 L[j].cond,.int .i64 L[j].grant]:List Value)[r]?
 | s ::L,0,_,r,hr=>by
  rw[AR,List.flatMap_cons,Nat.zero_mul,Nat.zero_add,List.getElem?_append_left (by simp;omega)];rfl
 | s ::L,j+1,h,r,hr=>by
  have a:=KV L j (by simpa using h) r hr;rw[AR,List.flatMap_cons,List.getElem?_append_right (by simp;omega)];have e:(j+1) * 4+r - ([Value.int .i64 s.kind,.string s.name,.int .i64 s.cond,.int .i64 s.grant]:List Value).length=j * 4+r:=by simp;omega
  rw[e];rw[AR] at a;rw[a];rfl
 | [],_,h,_,_=>absurd h (by simp)
structure Kj (w:World) (lo hi:Nat) (x:Option Addr) (n cx:Nat) (y:Option Addr) (m cy:Nat) (z:Option Addr) (p cz:Nat) (N:List Nd) (nv kv:List Value) (L:List St) (T:List Int):Prop where
 nd:A6 w lo (.slice x n cx) N nv kv
 st:w.ownsRow lo 51 4 (.slice y m cy) m (AR L)
 ty:w.ownsRow lo 3 1 (.slice z p cz) p (At T)
 apart:∀ q,(Value.slice z p cz).ownBlock=some q→∀ j,(hj:j < kv.length)→kv[j].ownBlock≠some q
 inN:InN (.slice x n cx) nv kv hi
 inS:∀ q,(Value.slice y m cy).ownBlock=some q→q < hi
 inT:∀ q,(Value.slice z p cz).ownBlock=some q→q < hi
 top:hi≤w.heap.size
 nn:N.length=n
 ns:L.length=m
 nt:T.length=p
def Aa1 (N:List Nd) (L:List St) (T:List Int):Prop:=(N.length≤65535∧∀ x∈N,okN x∧x.text.size≤1048576∧x.names.length+x.kids.length≤65535)∧(L.length≤65535∧∀ s∈L,s.name.size≤1048576)∧T.length≤65535
theorem Kj.touch {w w':World}{lo hi l u n b m c p d:Nat}{x y f:Option Addr}{N:List Nd}{g i:List Value}{L:List St}{T:List Int}(h:Kj w lo hi x n b y m c f p d N g i L T)(t:Ai l u w w')(k:hi≤l∨u≤lo):Kj w' lo hi x n b y m c f p d N g i L T:=by
 have hk:∀ q,lo≤q→q < hi→w'.heap[q]? =w.heap[q]? :=fun q h1 h2=>t.block q (Nat.lt_of_lt_of_le h2 h.top) (by omega);exact ⟨h.nd.upto (fun q hq=>hk q (h.nd.lts.1 q hq).1 (h.inN.1 q hq)) (fun j a q hq=>hk q (h.nd.lts.2.1 j a q hq).1 (h.inN.2.1 j a q hq)) (fun j a q hq=>hk q (h.nd.lts.2.2 j a q hq).1 (h.inN.2.2 j a q hq)),Ac h.st (fun q hq=>hk q (h.st.lt q hq).1 (h.inS q hq)),Ac h.ty (fun q hq=>hk q (h.ty.lt q hq).1 (h.inT q hq)),h.apart,h.inN,h.inS,h.inT,Nat.le_trans h.top t.size,h.nn,h.ns,h.nt⟩
theorem Kj.below {w w':World}{lo hi B n b m c p d:Nat}{x y f:Option Addr}{N:List Nd}{g i:List Value}{L:List St}{T:List Int}(h:Kj w lo hi x n b y m c f p d N g i L T)(a:Below B w w')(j:hi≤B):Kj w' lo hi x n b y m c f p d N g i L T:=
 h.touch (l:=hi) (u:=w.heap.size+hi) ⟨a.os,a.tape,a.output,a.size,fun k hk o=>a.block k (by omega)⟩ (.inl NLN)
theorem A6.nds {w:World}{lo n c:Nat}{a:Option Addr}{N:List Nd}{d f:List Value}(h:A6 w lo (.slice a n c) N d f)(q:N.length=n)(hs:n≤1048576)(ok:∀ x∈N,okN x∧x.text.size≤1048576):Fe w a n c N:=by
 refine ⟨q,hs,fun x hx=>(ok x hx).2,fun j b=>?_⟩;have l:j < d.length:=by rw[h.len];exact b
 have m:j < f.length:=by rw[h.lenk];exact b
 have k:=Ii N d f j b l m;have r:=k 0 (by decide);have s:=k 1 (by decide);have t:=k 2 (by decide);have o:=k 3 (by decide);have p:=k 4 (by decide);simp only[Gi,Nat.add_zero,List.getElem?_cons_zero,List.getElem?_cons_succ] at r s t o p;obtain ⟨g,A⟩:∃ g,a=some ⟨g,0,none⟩:=by
  rcases h.own.2 with ⟨_,h0⟩ | ⟨g,cap,H,u,_⟩
  ·omega
  ·simp only[Value.slice.injEq] at u;exact ⟨g,u.1⟩
 subst A;subst q;have I:=Pm N d f h.len h.lenk;have cell:∀ i,i < 5→w.cell? ⟨g,0+j * 5+i,none⟩=(DA N d f)[j * 5+i]? :=fun i hi=>by
  rw[Nat.zero_add];exact h.own.cellAt (g:=g) (n:=N.length) (j * 5+i) (by omega)
 obtain ⟨an,B,hu⟩:=AK (h.names j b l);obtain ⟨C,E,F⟩:=AK (h.kids j b m);have v:=h.names j b l;have y:=h.kids j b m;rw[hu] at o v;rw[F] at p y;have z:=ok _ (List.getElem_mem b);refine ⟨g,0,rfl,(h.own.lt g rfl).2,an,_,B,C,_,E,(cell 0 (by omega)).trans r,(cell 1 (by omega)).trans s,(cell 2 (by omega)).trans t,(cell 3 (by omega)).trans o,(cell 4 (by omega)).trans p,Bb.of_owns v (fun i hi=>?_),BN y rfl z.1.2.1⟩;rw[Cz _ i hi];exact z.1.2.2 _ (List.getElem_mem hi)
theorem GD {w:World}{lo n c:Nat}{a:Option Addr}{L:List St}(h:w.ownsRow lo 51 4 (.slice a n c) n (AR L))(l:L.length=n)(m:n≤1048576)(ok:∀ s∈L,s.name.size≤1048576):KU w a n c L:=by
 refine ⟨l,m,ok,fun j o=>?_⟩;have b:=KV L j o;have d:=b 0 (by decide);have f:=b 1 (by decide);have i:=b 2 (by decide);have k:=b 3 (by decide);simp only[Nat.add_zero,List.getElem?_cons_zero,List.getElem?_cons_succ] at d f i k;obtain ⟨x,p,e,hx⟩:=Af h;cases e;obtain ⟨g,rfl,q,hc⟩:=hx (by omega);refine ⟨g,0,rfl,(h.lt g rfl).2, ?_, ?_, ?_, ?_⟩
 ·rw[Nat.zero_add];exact hc _ _ d
 ·rw[Nat.zero_add];exact hc _ _ f
 ·rw[Nat.zero_add];exact hc _ _ i
 ·rw[Nat.zero_add];exact hc _ _ k
theorem Kj.mem {w:World}{lo hi n a m b p c:Nat}{x y d:Option Addr}{N:List Nd}{f g:List Value}{L:List St}{T:List Int}(h:Kj w lo hi x n a y m b d p c N f g L T)(ok:Aa1 N L T):Fe w x n a N∧KU w y m b L∧Do w d p c T:=by
 have e1:=h.nn;have e2:=h.ns;have e3:=h.nt;exact ⟨h.nd.nds e1 (by have:=ok.1.1;omega) (fun x hx=>⟨(ok.1.2 x hx).1,(ok.1.2 x hx).2.1⟩),GD h.st e2 (by have:=ok.2.1.1;omega) ok.2.1.2,BN h.ty e3 (by have:=ok.2.2;omega)⟩
theorem AZ.snoc {w:World}{a b:Nat}{x:Option Addr}{K:List ByteArray}{s:ByteArray}(h:w.ownsRow a 9 1 (.slice x (K.length+1) b) (K.length+1) (K.map Value.string ++ [.string s]))(c:∀ u∈K,u.size≤1000)(hs:s.size≤1000):AZ w a x (K ++ [s]) b:=
 ⟨by rw[List.map_append,List.length_append];exact h,fun u hu=>by
  rcases List.mem_append.1 hu with hu | hu
  ·exact c u hu
  ·simp only[List.mem_singleton] at hu;subst hu;exact hs⟩
theorem AZ.app {w:World}{a b:Nat}{x:Option Addr}{K L:List ByteArray}(h:w.ownsRow a 9 1 (.slice x (K.length+L.length) b) (K.length+L.length) (K.map Value.string ++L.map Value.string))(c:∀ u∈K,u.size≤1000)(d:∀ u∈L,u.size≤1000):AZ w a x (K ++L) b:=
 ⟨by rw[List.map_append,List.length_append];exact h,fun u hu=>by
  rcases List.mem_append.1 hu with hu | hu
  ·exact c u hu
  ·exact d u hu⟩
end Go.Proofs.YtoplnhndilmlcaaGreatDoor
namespace Go.Proofs.YtoplnhndilmlcaaGreatDoor
set_option maxRecDepth 100000
set_option maxHeartbeats 1600000
open Go.RowKit Go.ChangeShapes
set_option linter.unusedVariables false
structure Ed (w:World) (a:Option Addr) (n c:Nat) (zs:List Int):Prop where
 len:n=zs.length
 cap:n≤c
 small:c≤maxLen
 cells:∀ j,j < n→∃ b off,a=some ⟨b,off,none⟩∧b < w.heap.size∧w.cell? ⟨b,off+j,none⟩=some (.int .u8 (zs.getD j 0))∧0≤zs.getD j 0∧zs.getD j 0≤255
theorem Ed.below {w w':World}{B:Nat}{a:Option Addr}{n c:Nat}{zs:List Int}(h:Ed w a n c zs)(d:Below B w w')(i:w.heap.size≤B):Ed w' a n c zs:=
 ⟨h.len,h.cap,h.small,fun j k=>by
  obtain ⟨b,f,l,g,hc,m⟩:=h.cells j k;exact ⟨b,f,l,Nat.lt_of_lt_of_le g d.size,by rw[← hc];exact d.cell (p:=⟨b,f+j,none⟩) (Nat.lt_of_lt_of_le g i),m⟩⟩
theorem Ed.of_trod {i:Type}{enc:TypeId × Value→i}{P:Program}{w:World}{o:Bool}{t e:TypeId}{fuel:Nat}{x:DataW i × List MemPlace}{a:Option Addr}{n c:Nat}
  (ht:P.underlying t=some (.slice e))(he:P.underlying e=some (.int .u8))(hc:P.cellsOf e=1)
  (h:DataW.trod enc P w 0 (fun _=>true) o fuel t [.slice a n c]=some x):∃ zs,Ed w a n c zs:=by
 rcases open_ints ht he hc h with ⟨d,_⟩ | ⟨p,len,cap,zs,d,_,q,hm,r,_,k,s⟩
 ·simp only[List.cons.injEq,Value.slice.injEq,and_true] at d;obtain ⟨rfl,rfl,rfl⟩:=d;exact ⟨[],rfl,NLN,Nat.zero_le _,fun j l=>by omega⟩
 ·simp only[List.cons.injEq,Value.slice.injEq,and_true] at d;obtain ⟨rfl,rfl,rfl⟩:=d;simp only[if_true] at r;refine ⟨zs.take n,by simp;omega,q,hm,fun j l=>?_⟩;have u:(zs.take n).getD j 0=zs.getD j 0:=by simp[List.getD,l]
  rw[u];have hs:=World.cell?_spot (k 0 (by omega));obtain ⟨b,f,z⟩:=p;simp only[Addr.add,if_true] at hs;subst hs;have g:=k j (by omega);have v:(⟨b,f,none⟩:Addr).add j=⟨b,f+j,none⟩:=by
   by_cases e:j=0 <;> simp[Addr.add,e]
  rw[v] at g;have m:=bounds_u8 (s (zs.getD j 0) (by simp[List.getD,show j < zs.length from by omega]));refine ⟨b,f,rfl, ?_,g,m.1,m.2⟩;by_cases y:b < w.heap.size
  ·exact y
  ·have:w.heap[b]? =none:=Array.getElem?_eq_none (by omega);simp[World.cell?,this] at g
structure H6 (w:World) (R:Nat) (a:Option Addr) (n c:Nat) (zs:List Int) (p:Nat):Prop where
 row:Aj w R #[.slice a n c,.int .i64 (p:Int)] 63
 len:n=zs.length
 le:p≤n
 small:n≤1048576
 cells:∀ j,j < n→∃ b off,a=some ⟨b,off,none⟩∧b < R∧w.cell? ⟨b,off+j,none⟩=some (.int .u8 (zs.getD j 0))∧0≤zs.getD j 0∧zs.getD j 0≤255
theorem H6.after {w w':World}{B R:Nat}{a:Option Addr}{n c:Nat}{zs:List Int}{p:Nat}(h:H6 w R a n c zs p)(d:Below B w w')(g:R < B):H6 w' R a n c zs p:=
 ⟨h.row.below d g,h.len,h.le,h.small,fun j i=>by
  obtain ⟨b,f,k,l,hc,m⟩:=h.cells j i;exact ⟨b,f,k,l,by rw[← hc];exact d.cell (p:=⟨b,f+j,none⟩) (by show b < B;omega),m⟩⟩
theorem H6.new {w:World}{a:Option Addr}{n c:Nat}{zs:List Int}(h:Ed w a n c zs)(g:n≤1048576):H6 (w.alloc (.cells #[.slice a n c,.int .i64 0] 63)) w.heap.size a n c zs 0:=
 ⟨Aj.new _ _ _,h.len,Nat.zero_le _,g,fun j i=>by
  obtain ⟨b,d,k,f,hc,l⟩:=h.cells j i;exact ⟨b,d,k,f,by rw[← hc];exact ((Below.refl w.heap.size w).alloc NLN _).cell (p:=⟨b,d+j,none⟩) f,l⟩⟩
theorem H6.step {w:World}{R:Nat}{a:Option Addr}{n c:Nat}{zs:List Int}{p:Nat}(h:H6 w R a n c zs p)(d:p < n):H6 (w.setCell ⟨R,1,none⟩ (.int .i64 ((p+1 :Nat):Int))) R a n c zs (p+1):=
 ⟨by simpa using h.row.set 1 (.int .i64 ((p+1 :Nat):Int)),h.len,d,h.small,fun j f=>by
  obtain ⟨b,g,i,k,hc,l⟩:=h.cells j f;refine ⟨b,g,i,k, ?_,l⟩;rw[← hc];exact World.cell?_of_block (heap_setCell_other w ⟨R,1,none⟩ b _ (by show b≠R;omega))⟩
theorem H6.lt {w:World}{R:Nat}{a:Option Addr}{n c:Nat}{zs:List Int}{p:Nat}(h:H6 w R a n c zs p):R < w.heap.size:=h.row.lt
def nx (zs:List Int) (p:Nat):Int × Nat:=if p < zs.length then (zs.getD p 0,p+1) else (0,p)
theorem Cd (R:Nat)(a:Option Addr)(n c:Nat)(zs:List Int)(p:Nat)(w:World)(h:H6 w R a n c zs p):
  Calls Tryz.prog 21 #[.pointer (some ⟨R,0,none⟩)] w fun e w'=>∃ (r:Int) (q:Nat),e= .returned (.int .i64 r)∧Hid (nx zs p=(r,q))∧0≤r∧r≤255∧H6 w' R a n c zs q∧Ai R (R+1) w w':=by
 have j:=h.row.cell 0;have c1:=h.row.cell 1;have f1:=h.row.frozen 1;simp at j c1;have o:=h.small;by_cases f:p < n
 ·obtain ⟨b,s,k,t,l,g,i⟩:=h.cells p f;have d:=Ab (show nx zs p=(zs.getD p 0,p+1) by rw[nx,if_pos (by have:=h.len;omega)]);generalize zs.getD p 0=u at l g i d;subst k;have m:(p:Int) < (n:Int):=by omega
  go_enter Tryz.func21,Tryz.ntmps21
  go_wp2
  go_quiet (fail)
  go_wp2
  go_quiet (fail)
  go_wp2
  go_ret
  refine ⟨_,p+1,rfl,d,g,i, ?_, ?_⟩
  ·rw[show ((p:Int)+1)=((p+1 :Nat):Int) from by omega];exact (h.after (below_drewN (Below.refl (R+1) w) _) (by omega)).step f
  ·exact (Ai.drewN w _).trans (Ai.setCell _ ⟨R,1,none⟩ _ (Nat.le_refl R) (Nat.lt_succ_self R))
 ·have d:=Ab (show nx zs p=(0,p) by rw[nx,if_neg (by have:=h.len;omega)]);have m:(n:Int)≤(p:Int):=by omega
  go_enter Tryz.func21,Tryz.ntmps21
  go_wp2
  go_quiet (fail)
  go_wp2
  go_ret
  exact ⟨_,p,rfl,d,by omega,by omega,h.after (below_drewN (Below.refl (R+1) w) _) (by omega),Ai.drewN w _⟩
def Qd (k:Nat):ByteArray:= [⟨#[114,101,97,100]⟩,⟨#[119,114,105,116,101]⟩,⟨#[97,100,109,105,110]⟩,⟨#[109,97,105,108]⟩,⟨#[97]⟩,⟨#[98]⟩,⟨#[99,46,100]⟩,⟨#[122,95,57]⟩].getD k ⟨#[]⟩
theorem WH (w:World)(k:Nat)(hk:k < 8):(Qd k).size≤10∧(w.alloc (.cells #[.string ⟨#[114,101,97,100]⟩,.string ⟨#[119,114,105,116,101]⟩,.string ⟨#[97,100,109,105,110]⟩,.string ⟨#[109,97,105,108]⟩,.string ⟨#[97]⟩,.string ⟨#[98]⟩,.string ⟨#[99,46,100]⟩,.string ⟨#[122,95,57]⟩] 9)).cell? ⟨w.heap.size,k,none⟩=some (.string (Qd k)):=by
 have h:=(Aj.new w #[.string ⟨#[114,101,97,100]⟩,.string ⟨#[119,114,105,116,101]⟩,.string ⟨#[97,100,109,105,110]⟩,.string ⟨#[109,97,105,108]⟩,.string ⟨#[97]⟩,.string ⟨#[98]⟩,.string ⟨#[99,46,100]⟩,.string ⟨#[122,95,57]⟩] 9).cell k
 match k,hk with
 | 0,_=>exact ⟨by decide,h⟩
 | 1,_=>exact ⟨by decide,h⟩
 | 2,_=>exact ⟨by decide,h⟩
 | 3,_=>exact ⟨by decide,h⟩
 | 4,_=>exact ⟨by decide,h⟩
 | 5,_=>exact ⟨by decide,h⟩
 | 6,_=>exact ⟨by decide,h⟩
 | 7,_=>exact ⟨by decide,h⟩
def Gf (zs:List Int) (p:Nat):ByteArray × Nat:=
 if (nx zs p).1 % 8=6 then ((((⟨#[115]⟩:ByteArray) ++Fq ((nx zs p).1 / 8).toNat) ++⟨#[58]⟩) ++Fq (nx zs (nx zs p).2).1.toNat,(nx zs (nx zs p).2).2)
 else if (nx zs p).1 % 8=7 then
  if 240 < (nx zs p).1 then (⟨#[97,45,110,97,109,101,45,116,104,97,116,45,105,115,45,116,104,105,114,116,121,45,116,119,111,45,98,121,116,101,115,46]⟩,(nx zs p).2)
  else ((⟨#[120,46]⟩:ByteArray) ++Fq ((nx zs (nx zs p).2).1 % 90).toNat,(nx zs (nx zs p).2).2)
 else (Qd ((nx zs p).1 / 8 % 8).toNat,(nx zs p).2)
def AbL (R:Nat) (a:Option Addr) (n c:Nat) (zs:List Int) (p:Nat) (w:World) (e:Ending) (w':World):Prop:=
 ∃ (s:ByteArray) (q:Nat),e= .returned (.string s)∧Hid (Gf zs p=(s,q))∧s.size≤1000∧H6 w' R a n c zs q∧Ai R (R+1) w w'
theorem Lj (R:Nat)(a:Option Addr)(n c:Nat)(zs:List Int)(p:Nat)(w:World)(h:H6 w R a n c zs p):
  Calls Tryz.prog 122 #[.pointer (some ⟨R,0,none⟩)] w fun e w'=>AbL R a n c zs p w e w':=by
 go_enter Tryz.func122,Tryz.ntmps122
 go_wp2_with fail
 refine (Cd R a n c zs p w h).mono ?_;rintro e k ⟨x,l,rfl,m,K,L,h1,d⟩;by_cases b:x % 8=6
 ·have u:(x % 8== 6)=true:=beq_iff_eq.2 b;have g:=Ab b;clear b;go_wp2_with fail
  refine (Cd R a n c zs l _ h1).mono ?_;rintro e B ⟨y,r,rfl,t,C,E,h2,i⟩;go_wp2_with fail
  refine (CQ _ _ (by omega) (by omega)).mono ?_;rintro e F ⟨rfl,f⟩;have H:=DE (x / 8).toNat;have M:(⟨#[115]⟩:ByteArray).size=1:=rfl;have N:(⟨#[58]⟩:ByteArray).size=1:=rfl;go_wp2_with fail
  refine (CQ _ _ (by omega) (by omega)).mono ?_;rintro e O ⟨rfl,v⟩;have P:=DE y.toNat;have o:=h2.lt;go_wp2_with fail
  go_ret
  refine ⟨_,r,rfl,Ab ?_, ?_,(h2.after f o).after v (Nat.lt_of_lt_of_le o f.size),((d.trans i).then_below f (Nat.le_trans d.size i.size)).then_below v (Nat.le_trans (Nat.le_trans d.size i.size) f.size)⟩
  ·rw[Gf,Aa m,if_pos (Aa g),Aa t]
  ·rw[EB,EB,EB];omega
 by_cases j:x % 8=7
 ·have u:(x % 8== 6)=false:=beq_eq_false_iff_ne.2 b;have I:(x % 8== 7)=true:=beq_iff_eq.2 j;have g:=Ab b;have q:=Ab j;clear b j;by_cases z: 240 < x
  ·go_wp2_with fail
   go_ret
   exact ⟨_,l,rfl,Ab (by rw[Gf,Aa m,if_neg (Aa g),if_pos (Aa q),if_pos z]),by decide,h1,d⟩
  ·have Q: ¬ (240 < x):=z;go_wp2_with fail
   refine (Cd R a n c zs l _ h1).mono ?_;rintro e B ⟨y,r,rfl,t,C,E,h2,i⟩;go_wp2_with fail
   refine (CQ _ _ (by omega) (by omega)).mono ?_;rintro e F ⟨rfl,f⟩;have H:=DE (y % 90).toNat;have o:=h2.lt;go_wp2_with fail
   go_ret
   refine ⟨_,r,rfl,Ab ?_, ?_,h2.after f o,(d.trans i).then_below f (Nat.le_trans d.size i.size)⟩
   ·rw[Gf,Aa m,if_neg (Aa g),if_pos (Aa q),if_neg (by omega),Aa t]
   ·rw[EB];have:(⟨#[120,46]⟩:ByteArray).size=2:=rfl;omega
 have u:(x % 8== 6)=false:=beq_eq_false_iff_ne.2 b;have I:(x % 8== 7)=false:=beq_eq_false_iff_ne.2 j;have g:=Ab b;have q:=Ab j;clear b j;obtain ⟨hs,hc⟩:=WH k (x / 8 % 8).toNat (by omega);have J:=h1.lt;have A:=Ab (show Gf zs p=(Qd (x / 8 % 8).toNat,l) by rw[Gf,Aa m,if_neg (Aa g),if_neg (Aa q)]);generalize Qd (x / 8 % 8).toNat=s at hs hc A;go_wp2_with fail
 go_ret
 exact ⟨s,l,rfl,A,by omega,h1.after ((Below.refl k.heap.size k).alloc NLN _) J,d.then_below ((Below.refl k.heap.size k).alloc NLN _) d.size⟩
end Go.Proofs.YtoplnhndilmlcaaGreatDoor
namespace Go.Proofs.YtoplnhndilmlcaaGreatDoor
set_option maxRecDepth 100000
set_option maxHeartbeats 3200000
open Go.RowKit
set_option linter.unusedVariables false
def Lk (m:Nat) (f:Int):List ByteArray:=(List.range m).map fun (i:Nat)=>(⟨#[119]⟩:ByteArray) ++Fq (f+(i:Int)).toNat
theorem Ss (m:Nat)(f:Int):Lk (m+1) f=Lk m f ++ [(⟨#[119]⟩:ByteArray) ++Fq (f+(m:Int)).toNat]:=by
 simp[Lk,List.range_succ]
def AaB (w:World) (m:Nat) (f:Int) (e:Ending) (w':World):Prop:=∃ x cx K,e= .returned (.slice x K.length cx)∧Hid (K=Lk m f)∧K.length≤m∧AZ w' w.heap.size x K cx∧Below w.heap.size w w'
theorem WI (m:Nat)(f:Int)(w:World)(hm:m≤64)(H: 0≤f)(f1:f≤200):
  Calls Tryz.prog 89 #[.int .i64 m,.int .i64 f] w fun e w'=>AaB w m f e w':=by
 obtain ⟨i,hi,q,r,s⟩:=info_parts La;go_enter Tryz.func89,Tryz.ntmps89
 go_wp2_with fail
 go_loopw [5,6] (fun v c wr=>∃ (k:Nat) (K:List ByteArray) (x:Option Addr) (a:Nat),k≤m∧c= .int .i64 k∧v= .slice x K.length a∧Hid (K=Lk k f)∧K.length≤k∧AZ wr w.heap.size x K a∧Below w.heap.size w wr) (fun _ c _=>m - (intOf c).toNat)
 case atStart=>exact ⟨0, [],none,0,Nat.zero_le _,rfl,rfl,Ab rfl,NLN,AZ.nil _ _,BRN⟩
 case round=>
  obtain ⟨k,K,x,a,hk,rfl,rfl,j,t,d,b⟩:=hrel;by_cases I:k < m
  ·have y:(k:Int) < (m:Int):=by omega
   go_wp2_with fail
   refine (CQ _ _ (by omega) (by omega)).mono ?_;rintro e z ⟨rfl,g⟩;have J:=DE (f+(k:Int)).toNat;have L:(⟨#[119]⟩:ByteArray).size=1:=rfl;have l:=b.trans (g.mono b.size);have n:=d.below g NLN;have o:=n.own;have A:=l.size;clear d g b;go_wp2_with (at_builtin;refine wpList_append_own _ rfl _ _ 78 rfl w.heap.size 9 i (.string ByteArray.empty) 1 16 Tryz.underlying78 hi q r s rfl (by decide) _ _ _ rfl (o.alloc _) ⟨z.heap.size,0,none⟩ 1 1 [.string (⟨#[119]⟩ ++Fq (f+(k:Int)).toNat)] rfl rfl ?c1 ?c2 ?c3 ?c4 ?c5 ?_)
   case c1=>exact cell_one_new _ _ _
   case c2=>intro u hu;simp at hu;subst hu;rfl
   case c3=>unfold maxLen;omega
   case c4=>omega
   case c5=>simp;omega
   intro M B h p _;have C:Below w.heap.size w B:=(l.alloc A _).grown p (by simp;omega) (fun k hk=>(o.lt k hk).1);obtain ⟨E,F,hf⟩:=AK h;rw[hf] at h ⊢;clear p hf;go_wp2
   go_roundw
   case rel=>exact ⟨k+1,K ++ [⟨#[119]⟩ ++Fq (f+(k:Int)).toNat],E,F,by omega,by go_num,by rw[List.length_append];rfl,Ab (by rw[Ss,Aa j]),by simp;omega,AZ.snoc h n.small (by rw[EB];omega),C⟩
   case measure=>simp[intOf] <;> omega
  ·have y: ¬ ((k:Int) < (m:Int)):=by omega
   obtain rfl:k=m:=by omega
   go_wp2
   go_ret
   exact ⟨x,a,K,rfl,j,t,d,b⟩
theorem Nx (m f:Int)(w:World)(m0: 0≤m)(hm:m≤64)(a: 0≤f)(f1:f≤200):
  Calls Tryz.prog 89 #[.int .i64 m,.int .i64 f] w fun e w'=>AaB w m.toNat f e w':=by
 obtain ⟨k,rfl⟩:=Int.eq_ofNat_of_zero_le m0;exact WI k f w (by omega) a f1
def CK (zs:List Int):Nat→Nat→List ByteArray × Nat
 | 0,p=>([],p)
 | k+1,p=>((Gf zs p).1 ::(CK zs k (Gf zs p).2).1,(CK zs k (Gf zs p).2).2)
def U4 (zs:List Int) (p:Nat) (K:List ByteArray) (q:Nat):Prop:=
 ((nx zs p).1 % 13=12→Bz (Lk (64 - (nx zs p).1 / 13 % 3).toNat ((nx zs (nx zs p).2).1 % 40)) K∧q=(nx zs (nx zs p).2).2)∧
 ((nx zs p).1 % 13≠12→Bz (CK zs ((nx zs p).1 % 13 % 7).toNat (nx zs p).2).1 K∧q=(CK zs ((nx zs p).1 % 13 % 7).toNat (nx zs p).2).2)
theorem U4.unique {zs:List Int}{p q a:Nat}{K b:List ByteArray}(h:U4 zs p K q)(c:U4 zs p b a):K=b∧q=a:=by
 by_cases e:(nx zs p).1 % 13=12
 ·obtain ⟨a1,a2⟩:=h.1 e;obtain ⟨b1,b2⟩:=c.1 e;exact ⟨a1.unique b1,by rw[a2,b2]⟩
 ·obtain ⟨a1,a2⟩:=h.2 e;obtain ⟨b1,b2⟩:=c.2 e;exact ⟨a1.unique b1,by rw[a2,b2]⟩
def AbM (R:Nat) (a:Option Addr) (n c:Nat) (zs:List Int) (S:List ByteArray→Nat→Prop) (w:World) (top:Nat) (e:Ending) (w':World):Prop:=
 ∃ x cx K q,e= .returned (.slice x K.length cx)∧Hid (S K q)∧K.length≤top∧AZ w' w.heap.size x K cx∧H6 w' R a n c zs q∧Ai R (R+1) w w'
theorem Uc (R:Nat)(a:Option Addr)(n c:Nat)(zs:List Int)(p:Nat)(w:World)(h:H6 w R a n c zs p):
  Calls Tryz.prog 123 #[.pointer (some ⟨R,0,none⟩)] w fun e w'=>AbM R a n c zs (U4 zs p) w 64 e w':=by
 obtain ⟨i,hi,V,W,X⟩:=info_parts La;have Y:=h.lt;go_enter Tryz.func123,Tryz.ntmps123
 go_wp2_with fail
 refine (Cd R a n c zs p w h).mono ?_;rintro e Z ⟨x,b,rfl,m,ap,aq,h1,B⟩;clear h;by_cases g:x % 13=12
 ·have aa:(x % 13== 12)=true:=beq_iff_eq.2 g;have C:=Ab g;clear g;go_wp2_with fail
  refine (Cd R a n c zs b Z h1).mono ?_;rintro e o ⟨y,ab,rfl,ac,ar,au,h2,j⟩;have l:=B.trans j;clear h1 B j;go_wp2_with fail
  refine (Nx _ _ _ (by omega) (by omega) (by omega) (by omega)).mono ?_;rintro e M ⟨av,c3,ad,rfl,ae,af,N,b3⟩;have aw:ad.length≤64:=by omega
  clear af;go_wp2_with fail
  refine (IG _ _ _ _ _ N.strs (by omega)).mono ?_;rintro e ag ⟨E,c4,F,rfl,H,b4,f⟩;have O:=b3.trans (b4.mono b3.size);have ah:=f.len;go_wp2_with fail
  go_ret
  refine ⟨E,c4,F,ab,rfl,Ab ⟨fun _=>?_,fun P=>?_⟩,by omega,⟨Jy H (Nat.le_trans l.size b3.size),IF f N.small⟩,h2.after O h2.lt,l.then_below O l.size⟩
  ·rw[Aa m,Aa ac,← Aa ae];exact ⟨f,rfl⟩
  ·rw[Aa m] at P;exact absurd (Aa C) P
 ·have aa:(x % 13== 12)=false:=beq_eq_false_iff_ne.2 g;have C:=Ab g;clear g;go_wp2_with fail
  go_loopw [4,5] (fun v I wr=>∃ (k:Int) (K:List ByteArray) (y:Option Addr) (J:Nat) (q:Nat),0≤k∧k≤6∧(K.length:Int)+k≤6∧I= .int .i64 k∧v= .slice y K.length J∧Hid (K ++(CK zs k.toNat q).1=(CK zs (x % 13 % 7).toNat b).1∧(CK zs k.toNat q).2=(CK zs (x % 13 % 7).toNat b).2)∧AZ wr w.heap.size y K J∧H6 wr R a n c zs q∧Ai R (R+1) w wr) (fun _ I _=>(intOf I).toNat)
  case atStart=>exact ⟨x % 13 % 7, [],none,0,b,by omega,by omega,by simp;omega,rfl,rfl,Ab ⟨rfl,rfl⟩,AZ.nil _ _,h1,B⟩
  case round=>
   obtain ⟨k,K,y,J,q,ax,ay,az,rfl,rfl,r,t,z,ht⟩:=hrel;by_cases hk: 0 < k
   ·go_wp2_with fail
    refine (Lj R a n c zs q wr z).mono ?_;rintro e o ⟨s,q2,rfl,ai,aj,h2,j⟩;have Q:=t.touch j (by omega);have l:=ht.trans j;have S:=Q.own;have ak:=l.size;have A:=Ab (show (K ++ [s]) ++(CK zs (k - 1).toNat q2).1=(CK zs (x % 13 % 7).toNat b).1∧(CK zs (k - 1).toNat q2).2=(CK zs (x % 13 % 7).toNat b).2 by
     have d:=Aa r;rw[show k.toNat=(k - 1).toNat+1 by omega] at d;simp only[CK,Aa ai] at d;exact ⟨by rw[← d.1];simp,d.2⟩)
    clear t z ht j r;go_wp2_with (at_builtin;refine wpList_append_own _ rfl _ _ 78 rfl w.heap.size 9 i (.string ByteArray.empty) 1 16 Tryz.underlying78 hi V W X rfl (by decide) _ _ _ rfl (S.alloc _) ⟨o.heap.size,0,none⟩ 1 1 [.string s] rfl rfl ?c1 ?c2 ?c3 ?c4 ?c5 ?_)
    case c1=>exact cell_one_new _ _ _
    case c2=>intro u hu;simp at hu;subst hu;rfl
    case c3=>unfold maxLen;omega
    case c4=>omega
    case c5=>simp;omega
    intro aA M L T _;have U:Below w.heap.size o M:=((Below.refl w.heap.size o).alloc ak _).grown T (by simp;omega) (fun k hk=>(S.lt k hk).1);obtain ⟨al,ao,hf⟩:=AK L;rw[hf] at L ⊢;clear T hf;go_wp2
    go_roundw
    case rel=>exact ⟨k - 1,K ++ [s],al,ao,q2,by omega,by omega,by simp;omega,by go_num,by rw[List.length_append];rfl,A,AZ.snoc L Q.small aj,h2.after U Y,l.then_below U NLN⟩
    case measure=>simp[intOf] <;> omega
   ·have aB: ¬ (0 < k):=hk;have aC:K.length≤6:=by omega
    have A:=Ab (show K=(CK zs (x % 13 % 7).toNat b).1∧q=(CK zs (x % 13 % 7).toNat b).2 by
     have d:=Aa r;rw[show k.toNat=0 by omega] at d;simp only[CK,List.append_nil] at d;exact d)
    clear r;go_wp2_with fail
    refine (IG _ _ _ _ _ t.strs (by omega)).mono ?_;rintro e ag ⟨E,c4,F,rfl,H,b4,f⟩;have ah:=f.len;go_wp2_with fail
    go_ret
    refine ⟨E,c4,F,q,rfl,Ab ⟨fun he=>?_,fun _=>?_⟩,by omega,⟨Jy H ht.size,IF f t.small⟩,z.after b4 z.lt,ht.then_below b4 ht.size⟩
    ·rw[Aa m] at he;exact absurd he (Aa C)
    ·rw[Aa m,← (Aa A).1];exact ⟨f,(Aa A).2⟩
end Go.Proofs.YtoplnhndilmlcaaGreatDoor
