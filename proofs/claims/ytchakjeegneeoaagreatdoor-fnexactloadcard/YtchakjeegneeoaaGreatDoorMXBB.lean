/-
  OwnM, Own, ONA, OWS. Own work.
-/
import Derived.Test.YtchakjeegneeoaaGreatDoorMXAH
import Derived.Test.YtchakjeegneeoaaGreatDoorMXAD
import Derived.Test.YtchakjeegneeoaaGreatDoorMXAM
namespace Go.Proofs.YtchakjeegneeoaaGreatDoor
set_option maxHeartbeats 1600000
open Go.RowKit
def Dy (k n:Nat):List ByteArray:=(List.range n).map fun j=>BL (k+j)
def En (ss:List ByteArray) (k n i:Nat):List ByteArray:=(List.range n).map fun j=>if j < i then BL (k+j) else EU ss j
theorem Ue (a:List ByteArray)(k n:Nat)(h:n=a.length):En a k n 0=a:=by
 apply List.ext_getElem
 ·simp[En,h]
 ·intro i h1 h2;simp[En,Cv a i h2]
theorem Uf (a:List ByteArray)(k n:Nat):En a k n n=Dy k n:=by
 apply List.ext_getElem
 ·simp[En,Dy]
 ·intro i h1 h2;have:i < n:=by simpa[En] using h1
  simp[En,Dy,this]
theorem VV (a:List ByteArray)(k n i:Nat):((En a k n i).map Value.string).set i (.string (BL (k+i)))=(En a k n (i+1)).map Value.string:=by
 apply List.ext_getElem
 ·simp[En]
 ·intro j h1 h2;rw[List.getElem_set];simp only[En,List.getElem_map,List.getElem_range];by_cases e:i=j
  ·subst e;simp
  ·rw[if_neg e];by_cases h:j < i
   ·rw[if_pos h,if_pos (by omega)]
   ·rw[if_neg h,if_neg (by omega)]
theorem YF (a:List ByteArray)(k n i:Nat)(h:i < n):((En a k n i).map Value.string)[i]? =some (.string (EU a i)):=by
 simp[En,h]
theorem Qp (k n j:Nat)(h:j < n):EU (Dy k n) j=BL (k+j):=by
 rw[Cv _ j (by simpa[Dy] using h)];simp[Dy]
theorem Me (k n:Nat)(hk:k+n≤35184372088832):∀ j,j < n→(EU (Dy k n) j).size≤maxLen:=fun j a=>by
 rw[Qp k n j a];have:=VP (k+j);unfold maxLen;omega
theorem MF (lo hi:Nat)(a:Option Addr)(n c:Nat)(d:List ByteArray)(k:Nat)(w:World)(h:VU w lo hi a n c d)(hk:k+n≤35184372088832):
  Calls Tryz.prog 40 #[.slice a n c,.int .i64 k] w fun e w'=>e= .returned (.int .i64 ((k:Int)+n))∧VU w' lo hi a n c (Dy k n)∧Aj lo hi w w':=by
 have m:=h.strs.len;have p:=Ab m;clear m;go_enter Tryz.func40,Tryz.ntmps40
 go_wp2
 go_loopw [1,5] (fun q i wr=>∃ j:Nat,j≤n∧i= .int .i64 j∧q= .int .i64 ((k:Int)+j)∧wr.ownsRow lo 9 1 (.slice a n c) n ((En d k n j).map Value.string)∧Aj lo hi w wr) (fun _ i _=>n - (intOf i).toNat)
 case atStart=>exact ⟨0,zF _,rfl,by go_num,by rw[Ue d k n (Aa p)];exact h.own,Aj.refl _ _ _⟩
 case round=>
  obtain ⟨j,B,rfl,rfl,b,ht⟩:=hrel;by_cases r:j < n
  ·obtain ⟨g,s⟩:∃ g,a=some ⟨g,0,none⟩:=by
    rcases b.2 with ⟨_,h0⟩ | ⟨g,cap,C,o,_⟩
    ·omega
    ·simp only[Value.slice.injEq] at o;exact ⟨g,o.1⟩
   subst s;have t:lo≤g:=(b.lt g rfl).1;have u:g < hi:=h.lt _ rfl;have v:g < wr.heap.size:=(b.lt g rfl).2;have E:(j:Int) < (n:Int):=by omega
   go_wp2_with fail
   refine (Dx _ wr (by omega) (by omega)).mono ?_;rintro e y ⟨rfl,l⟩;rw[show ((k:Int)+(j:Int)).toNat=k+j from by omega];have f:=PD (w':=y) b (fun x hx=>by cases hx;exact l.block g v);have F:=(f.cellAt j (by omega)).trans (YF d k n j r);have H:=f.frozenAt j;have z:=Ab (f.stored j (.string (BL (k+j)))).1;have A:=ht.trans (Aj.of_below (lo:=lo) (hi:=hi) l NLN);clear b f l ht;go_wp2
   go_roundw
   case rel=>exact ⟨j+1,by omega,by go_num,by go_num,by rw[← VV];exact Aa z,A.trans (Aj.setCell _ _ _ t u)⟩
   case measure=>simp[intOf];omega
  ·have e:j=n:=by omega
   subst e;go_wp2
   go_ret
   rw[Uf] at b;exact ⟨rfl,⟨b,h.lt,Me k j hk,zD h.top ht.size⟩,ht⟩
theorem MA (lo hi:Nat)(a:Option Addr)(n c:Nat)(b:List ByteArray)(x:Int)(w:World)(h:VU w lo hi a n c b)(h0: 0≤x)(hk:x+n≤35184372088832):
  Calls Tryz.prog 40 #[.slice a n c,.int .i64 x] w fun e w'=>e= .returned (.int .i64 (x+n))∧VU w' lo hi a n c (Dy x.toNat n)∧Aj lo hi w w':=by
 obtain ⟨k,rfl⟩:=yA h0;rw[zj];exact MF lo hi a n c b k w h (by omega)
theorem ME (a:Option Addr)(n c:Nat)(k:Nat)(w:World)(h:Bg w a n c (Dy k n))(hk:k+n≤35184372088832):
  Calls Tryz.prog 41 #[.slice a n c,.int .i64 k] w fun e w'=>e= .returned (.int .i64 ((k:Int)+n))∧Below w.heap.size w w':=by
 go_enter Tryz.func41,Tryz.ntmps41
 go_wp2
 go_loopw [1,5] (fun q i wr=>∃ j:Nat,j≤n∧i= .int .i64 j∧q= .int .i64 ((k:Int)+j)∧Below w.heap.size w wr) (fun _ i _=>n - (intOf i).toNat)
 case atStart=>exact ⟨0,zF _,rfl,by go_num,BRN⟩
 case round=>
  obtain ⟨j,r,rfl,rfl,d⟩:=hrel;by_cases f:j < n
  ·obtain ⟨b,g,m,o,hc⟩:=(h.below d NLN).cells j f;rw[Qp k n j f] at hc;subst m;have s:(j:Int) < (n:Int):=by omega
   go_wp2_with fail
   go_region_held3 (fun w'=>w'.cell? ⟨b,g+j,none⟩=some (.string (BL (k+j)))) (go_keep)
    ((go_at_call 39;refine (Dx _ _ (by omega) (by omega)).mono ?_;rintro e t ⟨rfl,l⟩;rw[show ((k:Int)+(j:Int)).toNat=k+j from by omega];have hq:=(l.cell (p:=⟨b,g+j,none⟩) o).trans hc))
   go_wp2
   go_roundw
   case rel=>exact ⟨j+1,by omega,by go_num,by go_num,d.drew.trans (l.mono d.size)⟩
   case measure=>simp[intOf];omega
  ·have e:j=n:=by omega
   subst e;go_wp2
   go_ret
   exact ⟨rfl,d⟩
theorem MB (a:Option Addr)(n c:Nat)(x:Int)(w:World)(h:Bg w a n c (Dy x.toNat n))(h0: 0≤x)(hk:x+n≤35184372088832):
  Calls Tryz.prog 41 #[.slice a n c,.int .i64 x] w fun e w'=>e= .returned (.int .i64 (x+n))∧Below w.heap.size w w':=by
 obtain ⟨k,rfl⟩:=yA h0;rw[zj] at h;exact ME a n c k w h (by omega)
set_option maxRecDepth 100000
set_option linter.unusedVariables false
def Ca (k n:Nat):List Int:=(List.range n).map fun j=>((k+j:Nat):Int)
theorem CQ (k n:Nat):(Ca k n).length=n:=by simp[Ca]
theorem Yy (k n j:Nat)(h:j < (Ca k n).length):(Ca k n)[j]=((k+j:Nat):Int):=by simp[Ca]
def IE (L:List Int) (k j:Nat):List Int:=Ca k j ++L.drop j
theorem Yz (L:List Int)(k:Nat):IE L k 0=L:=by simp[IE,Ca]
theorem YA (L:List Int)(k:Nat):IE L k L.length=Ca k L.length:=by simp[IE]
theorem AaV (L:List Int)(k j:Nat)(h:j≤L.length):(IE L k j).length=L.length:=by
 rw[IE,zA,CQ,zp];omega
theorem AaW (L:List Int)(k j:Nat)(h:j < L.length):(IE L k j).set j ((k+j:Nat):Int)=IE L k (j+1):=by
 rw[IE,zg h,yD _ _ (by rw[CQ];exact NLN),CQ,Nat.sub_self,zw,IE];have:Ca k (j+1)=Ca k j ++ [((k+j:Nat):Int)]:=by simp[Ca,List.range_succ]
 rw[this,zC];rfl
theorem Kp (lo hi:Nat)(a:Option Addr)(n c:Nat)(L:List Int)(x:Int)(w:World)(h:w.ownsRow lo 3 1 (.slice a n c) n (Ar L))(t:∀ q,(Value.slice a n c).ownBlock=some q→q < hi)(l:L.length=n)(hx: 0≤x)(hk:x+n≤35184372088832):
  Calls Tryz.prog 19 #[.slice a n c,.int .i64 x] w fun e w'=>e= .returned (.int .i64 (x+n))∧w'.ownsRow lo 3 1 (.slice a n c) n (Ar (Ca x.toNat n))∧Aj lo hi w w':=by
 obtain ⟨k,rfl⟩:=yA hx;rw[zj];have m:=Ab l;clear l;go_enter Tryz.func19,Tryz.ntmps19
 go_wp2
 go_loopw [1,5] (fun q i wr=>∃ (j:Nat) (b:Int),j≤n∧i= .int .i64 j∧q= .int .i64 b∧b=((k+j:Nat):Int)∧wr.ownsRow lo 3 1 (.slice a n c) n (Ar (IE L k j))∧Aj lo hi w wr) (fun _ i _=>n - (intOf i).toNat)
 case atStart=>exact ⟨0,k,zF _,rfl,rfl,by simp,by rw[Yz];exact h,Aj.refl _ _ _⟩
 case round=>
  obtain ⟨j,b,F,rfl,rfl,f,d,ht⟩:=hrel;by_cases o:j < n
  ·have u:j < L.length:=by rw[Aa m];exact o
   have H:(IE L k j).length=L.length:=AaV L k j (by omega);have v:j < (IE L k j).length:=by omega
   have I:(j:Int) < (n:Int):=by omega
   have J: 0≤b:=by omega
   have K:b+1≤35184372088832:=by omega
   obtain ⟨g,y⟩:∃ g,a=some ⟨g,0,none⟩:=by
    rcases d.2 with ⟨_,h0⟩ | ⟨g,cap,M,p,_⟩
    ·omega
    ·simp only[Value.slice.injEq] at p;exact ⟨g,p.1⟩
   subst y;have z:=(d.lt g rfl).1;have A:g < hi:=t g rfl;have x0:(Ar (IE L k j))[j]? =some (.int .i64 (IE L k j)[j]):=by rw[Ar,zh,zH v];rfl
   have c0:=(d.cellAt j (by omega)).trans x0;have N:=fun i=>d.frozenAt i;have B:=Ab (d.stored j (.int .i64 b)).1;have C:=ht.trans (Aj.setCell (lo:=lo) (hi:=hi) wr ⟨g,j,none⟩ (.int .i64 b) z A);have r:=Ab f;have s:=Ab o;generalize (IE L k j)[j]=O at c0;clear f d x0 ht;go_wp2_with fail
   go_roundw
   case rel=>
    refine ⟨j+1,b+1,Aa s,by go_num,by go_num,by have:=Aa r;omega, ?_,C⟩
    have f:=Aa r;rw[← AaW L k j u,Ar,List.map_set,← f];exact Aa B
   case measure=>have:=Aa s;simp[intOf];omega
  ·have e:j=n:=by omega
   subst e;go_wp2
   go_ret
   have E:IE L k j=Ca k j:=by have:=YA L k;rwa[Aa m] at this
   rw[E] at d;exact ⟨by rw[f];push_cast;rfl,d,ht⟩
theorem Kr (a:Option Addr)(n c:Nat)(x:Int)(w:World)(h:BT w a n c (Ca x.toNat n))(hx: 0≤x)(hk:x+n≤35184372088832):
  Calls Tryz.prog 22 #[.slice a n c,.int .i64 x] w fun e w'=>e= .returned (.int .i64 (x+n))∧Below w.heap.size w w':=by
 obtain ⟨k,rfl⟩:=yA hx;rw[zj] at h;have r:=Ab h;have hs:=h.small;clear h;go_enter Tryz.func22,Tryz.ntmps22
 go_wp2
 go_loopw [1,5] (fun q i wr=>∃ (j:Nat) (d:Int),j≤n∧i= .int .i64 j∧q= .int .i64 d∧d=((k+j:Nat):Int)∧wr=w) (fun _ i _=>n - (intOf i).toNat)
 case atStart=>exact ⟨0,k,zF _,rfl,rfl,by simp,rfl⟩
 case round=>
  obtain ⟨j,d,t,rfl,rfl,g,f⟩:=hrel;by_cases o:j < n
  ·have u:(j:Int) < (n:Int):=by omega
   have l:j < (Ca k n).length:=by rw[CQ];exact o
   have v: 0≤d:=by omega
   have y:d+1≤35184372088832:=by omega
   obtain ⟨b,z,rfl,A,c0⟩:=(Aa r).cells j l;rw[Yy k n j l,← g] at c0;rw[← f] at c0;have m:=Ab f;have s:=Ab g;have p:=Ab o;clear g f l;go_wp2_with fail
   go_roundw
   case rel=>exact ⟨j+1,d+1,Aa p,by go_num,by go_num,by have:=Aa s;omega,Aa m⟩
   case measure=>have:=Aa p;simp[intOf];omega
  ·have e:j=n:=by omega
   subst e;have m:=Ab f;clear f;go_wp2
   go_ret
   exact ⟨by rw[g];push_cast;rfl,by rw[Aa m];exact BRN⟩
theorem Aj.wide {l h lo hi:Nat}{w w':World}(t:Aj l h w w')(hd:(l=0∧h=0)∨(lo≤l∧h≤hi)):Aj lo hi w w':=
 ⟨t.os,t.tape,t.output,t.size,fun k hk a=>t.block k hk (by omega)⟩
theorem Aco {w:World}{lo hi m c:Nat}{a:Option Addr}{b:List ByteArray}(h:w.ownsRow lo 9 1 (.slice a m c) m (b.map Value.string))(hs:∀ s∈b,s.size≤maxLen)(t:b.length=m)(k:∀ q,(Value.slice a m c).ownBlock=some q→q < hi)(v:hi≤w.heap.size):
  ∃ l u,VU w l u a m c b∧((l=0∧u=0)∨(lo≤l∧u≤hi∧l < u))∧(∀ q,(Value.slice a m c).ownBlock≠some q→q < l∨u≤q):=by
 have f:∀ j,j < m→(EU b j).size≤maxLen:=fun j y=>by
  rw[Cv _ j (by omega)];exact hs _ (zO _)
 rcases h.2 with ⟨d,h0⟩ | ⟨g,cap,n,d,o,p,h4⟩
 ·simp only[Value.slice.injEq] at d;obtain ⟨rfl,rfl,rfl⟩:=d;exact ⟨0,0,⟨⟨h.1,.inl ⟨rfl,h0⟩⟩,(fun x hx=>by cases hx),f,zF _⟩,.inl ⟨rfl,rfl⟩,fun q _=> .inr (zF _)⟩
 ·have i:=d;simp only[Value.slice.injEq] at i;obtain ⟨rfl,-,rfl⟩:=i;have r:g < hi:=k g rfl;refine ⟨g,g+1,⟨⟨h.1,.inr ⟨g,_,n,rfl,NLN,p,h4⟩⟩,(fun x hx=>by cases hx;exact Z3 _),f,by omega⟩,.inr ⟨o,r,Z3 _⟩,fun q hq=>?_⟩;have:g≠q:=fun e=>hq (by rw[← e];rfl);omega
end Go.Proofs.YtchakjeegneeoaaGreatDoor
