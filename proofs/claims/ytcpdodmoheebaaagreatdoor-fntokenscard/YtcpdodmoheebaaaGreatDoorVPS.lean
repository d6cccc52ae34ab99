/-
  The model's whole look at a policy. Own work.
-/
import Derived.Test.YtcpdodmoheebaaaGreatDoorMXAN
namespace Go.Proofs.YtcpdodmoheebaaaGreatDoor
set_option maxRecDepth 100000
set_option maxHeartbeats 32000000
open Go.RowKit
set_option linter.unusedVariables false
def BS (n m:Nat) (N:List Nd) (L:List St) (e:Ending):Prop:=∃ b:Bool,e= .returned (.bool b)∧(b=true↔(n≤4000∧1≤m∧m≤600)∧N.all AI=true∧Du N L)
theorem BT {n m:Nat}{N:List Nd}{L:List St}(h: ¬ ((n≤4000∧1≤m∧m≤600)∧N.all AI=true∧Du N L)):BS n m N L (.returned (.bool false)):=⟨false,rfl,by constructor <;> intro k;cases k;exact absurd k h⟩
theorem Iy {s:ByteArray}(h:s.size=0):s.toList.isEmpty=true:=List.isEmpty_iff.2 ((Ja s).2 h)
theorem Gp {s:ByteArray}(h:s.size≠0):s.toList.isEmpty=false:=by rw [Bool.eq_false_iff];intro k;exact h ((Ja s).1 (List.isEmpty_iff.1 k))
theorem Jf {w:World}{b:Nat}{e:TypeId}{size:Nat}{a:Value}{n:Nat}{c:List Value}(h:w.ownsRow b e size a n c):a.ownBlock≠some w.heap.size:=fun k=>by have:=(h.lt _ k).2;omega
theorem Iz (a b:Option Addr)(n c m d:Nat)(N:List Nd)(L:List St)(w:World)(h1:Dx w a n c N)(h2:Ku w b m d L):
  Calls Tryz.prog 52 #[.slice a n c,.slice b m d,.bool false] w fun e w'=>BS n m N L e∧Below w.heap.size w w':=by
 have cd:=h1.small
 have ce:=h2.small
 have Z:=Ab h1.len
 have av:=Ab h2.len
 go_enter Tryz.func52,Tryz.ntmps52
 by_cases aU: 4000 < n
 ·have bN:(4000 :Int) < (n:Int):=by omega
  have l:=Ab (BT (n:=n) (m:=m) (N:=N) (L:=L) (fun h=>by omega))
  clear aU
  go_wp2_with fail
  go_ret
  exact ⟨Aa l,Below.refl _ _⟩
 have bN: ¬ ((4000 :Int) < (n:Int)):=by omega
 by_cases hm:m < 1
 ·have bO:(m:Int) < 1:=by omega
  have l:=Ab (BT (n:=n) (m:=m) (N:=N) (L:=L) (fun h=>by omega))
  clear aU hm
  go_wp2_with fail
  go_ret
  exact ⟨Aa l,Below.refl _ _⟩
 have bO: ¬ ((m:Int) < 1):=by omega
 by_cases bo: 600 < m
 ·have bP:(600 :Int) < (m:Int):=by omega
  have l:=Ab (BT (n:=n) (m:=m) (N:=N) (L:=L) (fun h=>by omega))
  clear aU hm bo
  go_wp2_with fail
  go_ret
  exact ⟨Aa l,Below.refl _ _⟩
 have bP: ¬ ((600 :Int) < (m:Int)):=by omega
 have R:n≤4000:=by omega
 have bQ:m≤600:=by omega
 have bR: 1≤m:=by omega
 clear aU hm bo
 go_wp2_with fail
 go_loopw [33] (fun J wr=>∃ k:Nat,k≤n∧J= .int .i64 k∧Below w.heap.size w wr∧Hid (∀ j,(af:j < N.length)→j < k→AI N[j]=true)) (fun J _=>n - (intOf J).toNat)
 case atStart=>exact ⟨0,by omega,rfl,Below.refl _ _,Ab (fun j af h=>absurd h (by omega))⟩
 case round=>
  obtain ⟨k,cf,rfl,E,ag⟩:=hrel
  by_cases ah:k < n
  ·have ba:(k:Int) < (n:Int):=by omega
   have O:k < N.length:=by rw [Aa Z];exact ah
   have aa:=h1.sizes N[k] (List.getElem_mem O)
   obtain ⟨bp,bq,rfl,br,an,nn,aV,aW,aX,aY,aw,c1,c2,c3,c4,bb,aZ⟩:=(h1.below E (Nat.le_refl _)).cells k O
   have q:=Ab (show AI N[k]=false→BS n m N L (.returned (.bool false)) from fun e=>BT (fun h=>by
    have:=(FD N).1 h.2.1 k O
    rw [this] at e
    cases e))
   have v:=Ab (show AI N[k]=true→∀ j,(af:j < N.length)→j < k+1→AI N[j]=true from fun e j af aC=>by
    by_cases aM:j=k
    ·subst aM;exact e
    ·exact Aa ag j af (by omega))
   have B:=Ab ah
   clear ag
   generalize N[k]=x at aw c1 c2 c3 c4 bb aZ aa q v
   have bs:=Ab aZ.len
   have bt:=aZ.small
   have f:=E.alloc E.size (.cells #[.int .i64 x.op,.int .i64 x.num,.string x.text,.slice an nn aV,.slice aW aX aY] 99)
   have bS:=(Below.refl wr.heap.size wr).alloc (Nat.le_refl _) (.cells #[.int .i64 x.op,.int .i64 x.num,.string x.text,.slice an nn aV,.slice aW aX aY] 99)
   have bu:=bb.below bS (Nat.le_refl _)
   clear bb aZ
   cases aD:AI x
   ·have l:=Ab (Aa q aD)
    have bc:=Ab aD
    clear aD q v
    go_wp2_with (go_at_call 69;refine (DW x an nn aV aW aX aY _ bu (Aa bs).symm aa bt).mono ?_;rintro e aE ⟨rfl,A⟩;rw [Aa bc])
    go_ret
    exact ⟨Aa l,f.trans (A.mono f.size)⟩
   ·have S:=Ab (Aa v aD)
    have bc:=Ab aD
    clear aD q v
    go_wp2_with (go_at_call 69;refine (DW x an nn aV aW aX aY _ bu (Aa bs).symm aa bt).mono ?_;rintro e aE ⟨rfl,A⟩;rw [Aa bc])
    go_roundw
    case rel=>exact ⟨k+1,Aa B,by go_num,f.trans (A.mono f.size),S⟩
    case measure=>have:=Aa B;simp [intOf];omega
  ·have e:k=n:=by omega
   have bv:=Ab (show N.all AI=true from (FD N).2 (fun j af=>Aa ag j af (by have:=Aa Z;omega)))
   have aF:=Ab (Jg (Aa bv))
   have bT:=Ab (show (N.map Nd.kids).length=n by rw [List.length_map];exact Aa Z)
   subst e
   have bd:=Ab E
   clear ag ah E
   go_wp2_with fail
   go_loopw [9,44] (fun bU J wr=>∃ (o:Nat) (i:List Int),o≤m∧J= .int .i64 o∧Below w.heap.size w wr∧Hid (∀ j,(h:j < L.length)→j < o→FK L j h=true)∧Hid (DY (N.map Nd.kids) k ((L.take o).flatMap Al)=i)∧i.length≤4 * k+2 * o∧wr.ownsRow w.heap.size 3 1 bU i.length (Bk i)) (fun _ J _=>m - (intOf J).toNat)
   case atStart=>exact ⟨0, [],by omega,rfl,Aa bd,Ab (fun j h aC=>absurd aC (by omega)),Ab (by simp [DY]),by simp,World.ownsRow_nil _ _ _ _⟩
   case round=>
    obtain ⟨o,i,cg,rfl,E,ag,aG,ch,a0⟩:=hrel
    obtain ⟨ci,cj,rfl,bf⟩:=Av a0
    by_cases ah:o < m
    ·have ba:(o:Int) < (m:Int):=by omega
     have O:o < L.length:=by rw [Aa av];exact ah
     have aa:=h2.sizes L[o] (List.getElem_mem O)
     obtain ⟨bp,bq,rfl,br,aw,c1,c2,c3⟩:=(h2.below E (Nat.le_refl _)).cells o O
     have q:=Ab (show A8 (decide (o+1=m)) L[o]=false→BS k m N L (.returned (.bool false)) from fun e=>BT (fun h=>by
      have:=(Dv L).1 h.2.2.1 o O
      rw [FK,Aa av,e] at this
      cases this))
     have v:=Ab (show A8 (decide (o+1=m)) L[o]=true→∀ j,(h:j < L.length)→j < o+1→FK L j h=true from fun e j af aC=>by
      by_cases aM:j=o
      ·subst aM;rw [FK,Aa av];exact e
      ·exact Aa ag j af (by omega))
     have z:=Ab (show DY (N.map Nd.kids) k ((L.take (o+1)).flatMap Al)=(Al L[o]).foldl (fun bV r=>Az (N.map Nd.kids) k r bV) i by rw [FL L o O,IA,Aa aG])
     have B:=Ab ah
     clear ag aG bf
     generalize L[o]=s at aw c1 c2 c3 aa q v z
     obtain ⟨kind,name,cond,grant⟩:=s
     simp only at aw c1 c2 c3 aa
     have ab:=Ao.new wr #[.int .i64 kind,.string name,.int .i64 cond,.int .i64 grant] 71
     have f:=E.alloc E.size (.cells #[.int .i64 kind,.string name,.int .i64 cond,.int .i64 grant] 71)
     have ap:=a0.alloc (.cells #[.int .i64 kind,.string name,.int .i64 cond,.int .i64 grant] 71)
     have aH:=Jf a0
     have bw:(wr.alloc (.cells #[.int .i64 kind,.string name,.int .i64 cond,.int .i64 grant] 71)).heap.size=wr.heap.size+1:=by simp
     have C:=Ab (fun r i=>by have:=Er (K:=N.map Nd.kids) (Aa aF) k r i;rw [Aa bT] at this;exact this)
     by_cases a1:o+1=m
     ·have bW:((o:Int)==(m:Int) - 1)=true:=beq_iff_eq.2 (by omega)
      rw [decide_eq_true a1] at q v
      clear a1
      by_cases M:kind=1
      ·have e1:(kind== 1)=true:=beq_iff_eq.2 M
       subst M
       have l:=Ab (Aa q (by simp [A8]))
       clear q v z C
       go_wp2_with fail
       go_ret
       exact ⟨Aa l,f⟩
      have e1:(kind== 1)=false:=beq_eq_false_iff_ne.2 M
      by_cases T:kind=2
      ·have e2:(kind== 2)=true:=beq_iff_eq.2 T
       subst T
       clear M
       have l:=Ab (Aa q (by simp [A8]))
       clear q v z C
       go_wp2_with fail
       go_ret
       exact ⟨Aa l,f⟩
      have e2:(kind== 2)=false:=beq_eq_false_iff_ne.2 T
      by_cases ai:kind=3
      ·have e3:(kind== 3)=true:=beq_iff_eq.2 ai
       subst ai
       clear M T
       by_cases U:name.size=0
       ·have bg:=Iy U
        by_cases a2:cond= -1
        ·have bX:(cond== -1)=true:=beq_iff_eq.2 a2
         subst a2
         by_cases ax: -1≤grant
         ·by_cases aN: 0≤grant
          ·skip
           have S:=Ab (Aa v (by simp [A8,U,ax]))
           obtain ⟨V,ay⟩:∃ V,Hid (Az (N.map Nd.kids) k grant i=V):=⟨_,Ab rfl⟩
           have bY:V.length≤max i.length (k+3 * k)+1:=by rw [← Aa ay];exact Aa C grant i
           have aj:=Ab (show DY (N.map Nd.kids) k ((L.take (o+1)).flatMap Al)=V by rw [Aa z];rw [← Aa ay];simp [Al,aN])
           clear q v z
           go_wp2_with (go_at_call 71;refine (Ck _ k c N w w.heap.size h1 (Nat.le_refl _) R (Aa aF) k grant i _ _ R (.inl (Nat.le_of_eq (Aa Z))) (by omega) f f.size ap).mono ?_;rintro e bZ ⟨b0,rfl,aO,bh,b1⟩;rw [Aa ay] at aO;have bi:=f.trans bh)
           go_roundw
           case rel=>exact ⟨o+1,V,Aa B,by go_num,bi,S,aj,by omega,aO⟩
           case measure=>have:=Aa B;simp [intOf];omega
          ·skip
           have S:=Ab (Aa v (by simp [A8,U,ax]))
           have aj:=Ab (show DY (N.map Nd.kids) k ((L.take (o+1)).flatMap Al)=i by rw [Aa z];simp [Al,aN])
           clear q v z
           go_wp2_with fail
           go_roundw
           case rel=>exact ⟨o+1,i,Aa B,by go_num,f,S,aj,by omega,ap⟩
           case measure=>have:=Aa B;simp [intOf];omega
         ·skip
          have l:=Ab (Aa q (by simp [A8,ax]))
          clear q v z C
          go_wp2_with fail
          go_ret
          exact ⟨Aa l,f⟩
        ·have bX:(cond== -1)=false:=beq_eq_false_iff_ne.2 a2
         have l:=Ab (Aa q (by simp [A8,a2]))
         clear q v z C
         go_wp2_with fail
         go_ret
         exact ⟨Aa l,f⟩
       ·have bg:=Gp U
        have l:=Ab (Aa q (by simp [A8,U]))
        clear q v z C
        go_wp2_with fail
        go_ret
        exact ⟨Aa l,f⟩
      have e3:(kind== 3)=false:=beq_eq_false_iff_ne.2 ai
      have l:=Ab (Aa q (by simp [A8,M,T,ai]))
      clear q v z C
      go_wp2_with fail
      go_ret
      exact ⟨Aa l,f⟩
     ·have bW:((o:Int)==(m:Int) - 1)=false:=beq_eq_false_iff_ne.2 (by omega)
      rw [decide_eq_false a1] at q v
      clear a1
      by_cases M:kind=1
      ·have e1:(kind== 1)=true:=beq_iff_eq.2 M
       subst M
       cases a3:BA name
       ·have Hi:=Ab a3
        clear a3
        have l:=Ab (Aa q (by simp [A8,Aa Hi]))
        clear q v z C
        go_wp2_with (go_at_call 70;refine (Bw _ _ aa).mono ?_;rintro e aE ⟨rfl,A⟩;rw [Aa Hi];have ak:=f.trans (A.mono f.size);have aq:=ab.after A (Nat.le_refl _);have a4:=BO ap A (Nat.le_refl _);have a5:=A.size;obtain ⟨aI,aJ,q2,q3,aK⟩:=Dh aq)
        go_ret
        exact ⟨Aa l,ak⟩
       ·have Hi:=Ab a3
        clear a3
        by_cases ac: 0≤cond
        ·by_cases a6:grant= -1
         ·have b2:(grant== -1)=true:=beq_iff_eq.2 a6
          subst a6
          have S:=Ab (Aa v (by simp [A8,Aa Hi,ac]))
          obtain ⟨D,W⟩:∃ D,Hid (Az (N.map Nd.kids) k cond i=D):=⟨_,Ab rfl⟩
          have bx:D.length≤max i.length (k+3 * k)+1:=by rw [← Aa W];exact Aa C cond i
          have ck:=ac
          have aj:=Ab (show DY (N.map Nd.kids) k ((L.take (o+1)).flatMap Al)=D by rw [Aa z];rw [← Aa W];simp [Al,ac])
          clear q v z
          go_wp2_with (first | (go_at_call 70;refine (Bw _ _ aa).mono ?_;rintro e aE ⟨rfl,A⟩;rw [Aa Hi];have ak:=f.trans (A.mono f.size);have aq:=ab.after A (Nat.le_refl _);have a4:=BO ap A (Nat.le_refl _);have a5:=A.size;obtain ⟨aI,aJ,q2,q3,aK⟩:=Dh aq) | (go_at_call 71;refine (Ck _ k c N w w.heap.size h1 (Nat.le_refl _) R (Aa aF) k cond i _ aE R (.inl (Nat.le_of_eq (Aa Z))) (by omega) ak ak.size a4).mono ?_;rintro e bj ⟨aP,rfl,X,aQ,ar⟩;rw [Aa W] at X;have az:=ak.trans aQ;have aR:=aq.keep ar aH;have bz:aP.ownBlock≠some wr.heap.size:=(fun e=>by rcases ar.2.1 _ e with x | x;exact aH x;(have:=a5;omega));obtain ⟨bA,c4,rfl,_⟩:=Av X;obtain ⟨bB,bC,bD,bE,bF⟩:=Dh aR))
          go_roundw
          case rel=>exact ⟨o+1,D,Aa B,by go_num,az,S,aj,by omega,X⟩
          case measure=>have:=Aa B;simp [intOf];omega
         ·have b2:(grant== -1)=false:=beq_eq_false_iff_ne.2 a6
          have l:=Ab (Aa q (by simp [A8,Aa Hi,a6]))
          clear q v z C
          go_wp2_with (go_at_call 70;refine (Bw _ _ aa).mono ?_;rintro e aE ⟨rfl,A⟩;rw [Aa Hi];have ak:=f.trans (A.mono f.size);have aq:=ab.after A (Nat.le_refl _);have a4:=BO ap A (Nat.le_refl _);have a5:=A.size;obtain ⟨aI,aJ,q2,q3,aK⟩:=Dh aq)
          go_ret
          exact ⟨Aa l,ak⟩
        ·skip
         have l:=Ab (Aa q (by simp [A8,Aa Hi,ac]))
         clear q v z C
         go_wp2_with (go_at_call 70;refine (Bw _ _ aa).mono ?_;rintro e aE ⟨rfl,A⟩;rw [Aa Hi];have ak:=f.trans (A.mono f.size);have aq:=ab.after A (Nat.le_refl _);have a4:=BO ap A (Nat.le_refl _);have a5:=A.size;obtain ⟨aI,aJ,q2,q3,aK⟩:=Dh aq)
         go_ret
         exact ⟨Aa l,ak⟩
      have e1:(kind== 1)=false:=beq_eq_false_iff_ne.2 M
      by_cases T:kind=2
      ·have e2:(kind== 2)=true:=beq_iff_eq.2 T
       subst T
       clear M
       by_cases U:name.size=0
       ·have bg:=Iy U
        by_cases ac: 0≤cond
        ·by_cases ax: -1≤grant
         ·by_cases aN: 0≤grant
          ·skip
           have S:=Ab (Aa v (by simp [A8,U,ac,ax]))
           obtain ⟨D,W⟩:∃ D,Hid (Az (N.map Nd.kids) k cond i=D):=⟨_,Ab rfl⟩
           have bx:D.length≤max i.length (k+3 * k)+1:=by rw [← Aa W];exact Aa C cond i
           obtain ⟨V,ay⟩:∃ V,Hid (Az (N.map Nd.kids) k grant D=V):=⟨_,Ab rfl⟩
           have bY:V.length≤max D.length (k+3 * k)+1:=by rw [← Aa ay];exact Aa C grant D
           have aj:=Ab (show DY (N.map Nd.kids) k ((L.take (o+1)).flatMap Al)=V by rw [Aa z];rw [← Aa ay,← Aa W];simp [Al,ac,aN])
           clear q v z
           go_wp2_with (first | (go_at_call 71;refine (Ck _ k c N w w.heap.size h1 (Nat.le_refl _) R (Aa aF) k grant D _ bj R (.inl (Nat.le_of_eq (Aa Z))) (by omega) az az.size X).mono ?_;rintro e bZ ⟨b0,rfl,aO,bh,b1⟩;rw [Aa ay] at aO;have bi:=az.trans bh) | (go_at_call 71;refine (Ck _ k c N w w.heap.size h1 (Nat.le_refl _) R (Aa aF) k cond i _ _ R (.inl (Nat.le_of_eq (Aa Z))) (by omega) f f.size ap).mono ?_;rintro e bj ⟨aP,rfl,X,aQ,ar⟩;rw [Aa W] at X;have az:=f.trans aQ;have aR:=ab.keep ar aH;have bz:aP.ownBlock≠some wr.heap.size:=(fun e=>by rcases ar.2.1 _ e with x | x;exact aH x;(have:=bw;omega));obtain ⟨bA,c4,rfl,_⟩:=Av X;obtain ⟨bB,bC,bD,bE,bF⟩:=Dh aR))
           go_roundw
           case rel=>exact ⟨o+1,V,Aa B,by go_num,bi,S,aj,by omega,aO⟩
           case measure=>have:=Aa B;simp [intOf];omega
          ·skip
           have S:=Ab (Aa v (by simp [A8,U,ac,ax]))
           obtain ⟨D,W⟩:∃ D,Hid (Az (N.map Nd.kids) k cond i=D):=⟨_,Ab rfl⟩
           have bx:D.length≤max i.length (k+3 * k)+1:=by rw [← Aa W];exact Aa C cond i
           have aj:=Ab (show DY (N.map Nd.kids) k ((L.take (o+1)).flatMap Al)=D by rw [Aa z];rw [← Aa W];simp [Al,ac,aN])
           clear q v z
           go_wp2_with (go_at_call 71;refine (Ck _ k c N w w.heap.size h1 (Nat.le_refl _) R (Aa aF) k cond i _ _ R (.inl (Nat.le_of_eq (Aa Z))) (by omega) f f.size ap).mono ?_;rintro e bj ⟨aP,rfl,X,aQ,ar⟩;rw [Aa W] at X;have az:=f.trans aQ;have aR:=ab.keep ar aH;have bz:aP.ownBlock≠some wr.heap.size:=(fun e=>by rcases ar.2.1 _ e with x | x;exact aH x;(have:=bw;omega));obtain ⟨bA,c4,rfl,_⟩:=Av X;obtain ⟨bB,bC,bD,bE,bF⟩:=Dh aR)
           go_roundw
           case rel=>exact ⟨o+1,D,Aa B,by go_num,az,S,aj,by omega,X⟩
           case measure=>have:=Aa B;simp [intOf];omega
         ·skip
          have l:=Ab (Aa q (by simp [A8,ax]))
          clear q v z C
          go_wp2_with fail
          go_ret
          exact ⟨Aa l,f⟩
        ·skip
         have l:=Ab (Aa q (by simp [A8,ac]))
         clear q v z C
         go_wp2_with fail
         go_ret
         exact ⟨Aa l,f⟩
       ·have bg:=Gp U
        have l:=Ab (Aa q (by simp [A8,U]))
        clear q v z C
        go_wp2_with fail
        go_ret
        exact ⟨Aa l,f⟩
      have e2:(kind== 2)=false:=beq_eq_false_iff_ne.2 T
      by_cases ai:kind=3
      ·have e3:(kind== 3)=true:=beq_iff_eq.2 ai
       subst ai
       clear M T
       have l:=Ab (Aa q (by simp [A8]))
       clear q v z C
       go_wp2_with fail
       go_ret
       exact ⟨Aa l,f⟩
      have e3:(kind== 3)=false:=beq_eq_false_iff_ne.2 ai
      have l:=Ab (Aa q (by simp [A8,M,T,ai]))
      clear q v z C
      go_wp2_with fail
      go_ret
      exact ⟨Aa l,f⟩
    ·have e:o=m:=by omega
     subst e
     have bG:L.take o=L:=List.take_of_length_le (by rw [Aa av];exact Nat.le_refl _)
     rw [bG] at aG
     clear bG
     have b3:=Ab (show Cl L=true from (Dv L).2 (fun j h=>Aa ag j h (by have:=Aa av;omega)))
     have a7:=Ab (show Du N L↔Cl L=true∧i.length=k∧good i∧∀ r∈L.flatMap Al,AN (N.map Nd.kids) k r≤64 by
      rw [Du,Aa Z]
      rw [← Aa aG]
      exact Iff.rfl)
     have bH:=Ab bf
     clear ag bf
     by_cases aS:i.length=k
     case neg=>
      have b4:((i.length:Int) !=(k:Int))=true:=bne_iff_ne.2 (by omega)
      have l:=Ab (BT (n:=k) (m:=o) (N:=N) (L:=L) (fun h=>aS ((Aa a7).1 h.2.2).2.1))
      clear aS
      go_wp2_with fail
      go_ret
      exact ⟨Aa l,E⟩
     have b4:((i.length:Int) !=(k:Int))=false:=by rw [aS];simp
     have bI:=Ab aS
     clear aS
     go_wp2_with fail
     go_loop [138] (fun J=>∃ j:Nat,j≤i.length∧J= .int .i64 j∧Hid (∀ p,(h:p < i.length)→p < j→i[p]=(p:Int))) (fun J=>i.length - (intOf J).toNat)
     case atStart=>exact ⟨0,by omega,rfl,Ab (fun p h aC=>absurd aC (by omega))⟩
     case round=>
      obtain ⟨j,af,rfl,a8⟩:=hrel
      by_cases bk:j < i.length
      ·have b5:(j:Int) < (i.length:Int):=by omega
       obtain ⟨g,rfl,cl,bJ⟩:=Aa bH (by omega)
       have b6:=bJ j _ (show (Bk i)[j]? =some (.int .i64 i[j]) by rw [Bk,List.getElem?_map,List.getElem?_eq_getElem bk];rfl)
       have H:=Ab (show i[j]=(j:Int)→∀ p,(h:p < i.length)→p < j+1→i[p]=(p:Int) from fun e p h aC=>by
        by_cases aM:p=j
        ·subst aM;exact e
        ·exact Aa a8 p h (by omega))
       have I:=Ab (show i[j]≠(j:Int)→BS k o N L (.returned (.bool false)) from fun e=>BT (fun h=>e ((Iv i).1 ((Aa a7).1 h.2.2).2.2.1 j bk)))
       have bK:=Ab bk
       clear bJ a8
       generalize i[j]=y at b6 H I
       by_cases hy:y=(j:Int)
       ·have b7:((j:Int) != y)=false:=by rw [hy];simp
        have al:=Ab (Aa H hy)
        clear hy H I
        go_wp2_with fail
        go_round
        case rel=>exact ⟨j+1,Aa bK,by go_num,al⟩
        case measure=>have:=Aa bK;simp [intOf];omega
       ·have b7:((j:Int) != y)=true:=bne_iff_ne.2 (fun e=>hy e.symm)
        have l:=Ab (Aa I hy)
        clear hy H I
        go_wp2_with fail
        go_ret
        exact ⟨Aa l,E⟩
      ·have bL:=Ab (show good i from (Iv i).2 (fun p h=>Aa a8 p h (by omega)))
       have bM:=Ab (Jh (N:=N) (n:=k) (rs:=L.flatMap Al) (Aa Z) (by rw [Aa aG];exact Aa bI) (by rw [Aa aG];exact Aa bL))
       have b5: ¬ ((j:Int) < (i.length:Int)):=by omega
       have bd:=Ab E
       clear a8 bH a0 E
       go_wp2_with fail
       go_loopw [149] (fun J wr=>∃ p:Nat,p≤o∧J= .int .i64 p∧Below w.heap.size w wr∧Hid (∀ r∈(L.take p).flatMap Al,AN (N.map Nd.kids) k r≤64)) (fun J _=>o - (intOf J).toNat)
       case atStart=>exact ⟨0,by omega,rfl,Aa bd,Ab (by simp)⟩
       case round=>
        obtain ⟨p,cm,rfl,E,a9⟩:=hrel
        by_cases ah:p < o
        ·have ba:(p:Int) < (o:Int):=by omega
         have O:p < L.length:=by rw [Aa av];exact ah
         obtain ⟨bp,bq,rfl,br,aw,c1,c2,c3⟩:=(h2.below E (Nat.le_refl _)).cells p O
         have P:=Ab (show ∀ r∈Al L[p],(0≤r∧r < (k:Int))∧r∈L.flatMap Al from fun r F=>by
          have hm:r∈L.flatMap Al:=List.mem_flatMap.2 ⟨L[p],List.getElem_mem O,F⟩
          exact ⟨(Aa bM).2 r hm,hm⟩)
         have I:=Ab (show ∀ r∈Al L[p],¬ AN (N.map Nd.kids) k r≤64→BS k o N L (.returned (.bool false)) from fun r F e=>BT (fun h=>e (((Aa a7).1 h.2.2).2.2.2 r (Aa P r F).2)))
         have Q:=Ab (show (∀ r∈Al L[p],AN (N.map Nd.kids) k r≤64)→∀ r∈(L.take (p+1)).flatMap Al,AN (N.map Nd.kids) k r≤64 from fun e r F=>by
          rw [FL L p O] at F
          rcases List.mem_append.1 F with x | x
          ·exact Aa a9 r x
          ·exact e r x)
         have B:=Ab ah
         clear a9
         generalize L[p]=s at aw c1 c2 c3 P I Q
         obtain ⟨kind,name,cond,grant⟩:=s
         simp only at aw c1 c2 c3
         have ab:=Ao.new wr #[.int .i64 kind,.string name,.int .i64 cond,.int .i64 grant] 71
         have f:=E.alloc E.size (.cells #[.int .i64 kind,.string name,.int .i64 cond,.int .i64 grant] 71)
         have au:=Ab (Aa bM).1
         have bl:=Ab (Et (N.map Nd.kids) k)
         by_cases it: 0≤cond
         ·skip
          obtain ⟨⟨cn,co⟩,_⟩:=Aa P cond (by simp [Al,it])
          obtain ⟨t,rfl⟩:∃ t:Nat,cond=(t:Int):=⟨cond.toNat,by omega⟩
          obtain ⟨aL,ad⟩:∃ aL,Hid (AN (N.map Nd.kids) k (t:Int)=aL):=⟨_,Ab rfl⟩
          have cp:aL≤k+1:=by rw [← Aa ad];exact Aa bl _
          by_cases cq: 64 < aL
          ·skip
           have b8:(64 :Int) < (aL:Int):=by omega
           have l:=Ab (Aa I (t:Int) (by simp [Al,it]) (by rw [Aa ad];omega))
           clear I Q P
           go_wp2_with (go_at_call 72;refine (Bc _ k c N w h1 (Aa au) k t _ (by omega) (by omega) (by omega) f).mono ?_;rintro e aT ⟨rfl,ae⟩;rw [Aa ad];have Y:=f.trans (ae.mono f.size))
           go_ret
           exact ⟨Aa l,Y⟩
          ·have b8: ¬ ((64 :Int) < (aL:Int)):=by omega
           by_cases ao: 0≤grant
           ·skip
            obtain ⟨⟨b9,ca⟩,_⟩:=Aa P grant (by simp [Al,ao])
            obtain ⟨u,rfl⟩:∃ u:Nat,grant=(u:Int):=⟨grant.toNat,by omega⟩
            obtain ⟨G,H⟩:∃ G,Hid (AN (N.map Nd.kids) k (u:Int)=G):=⟨_,Ab rfl⟩
            have cb:G≤k+1:=by rw [← Aa H];exact Aa bl _
            by_cases cc: 64 < G
            ·skip
             have bm:(64 :Int) < (G:Int):=by omega
             have l:=Ab (Aa I (u:Int) (by simp [Al,ao]) (by rw [Aa H];omega))
             clear I Q P
             go_wp2_with (first | (go_at_call 72;refine (Bc _ k c N w h1 (Aa au) k u aT (by omega) (by omega) (by omega) Y).mono ?_;rintro e bn ⟨rfl,aA⟩;rw [Aa H];have aB:=Y.trans (aA.mono Y.size)) | (go_at_call 72;refine (Bc _ k c N w h1 (Aa au) k t _ (by omega) (by omega) (by omega) f).mono ?_;rintro e aT ⟨rfl,ae⟩;rw [Aa ad];have Y:=f.trans (ae.mono f.size);obtain ⟨aI,aJ,q2,q3,aK⟩:=Dh (ab.after ae (Nat.le_refl _))))
             go_ret
             exact ⟨Aa l,aB⟩
            ·skip
             have bm: ¬ ((64 :Int) < (G:Int)):=by omega
             have al:=Ab (Aa Q (by intro r F;simp [Al,it,ao] at F;rcases F with rfl | rfl;rw [Aa ad];omega;rw [Aa H];omega))
             clear I Q P
             go_wp2_with (first | (go_at_call 72;refine (Bc _ k c N w h1 (Aa au) k u aT (by omega) (by omega) (by omega) Y).mono ?_;rintro e bn ⟨rfl,aA⟩;rw [Aa H];have aB:=Y.trans (aA.mono Y.size)) | (go_at_call 72;refine (Bc _ k c N w h1 (Aa au) k t _ (by omega) (by omega) (by omega) f).mono ?_;rintro e aT ⟨rfl,ae⟩;rw [Aa ad];have Y:=f.trans (ae.mono f.size);obtain ⟨aI,aJ,q2,q3,aK⟩:=Dh (ab.after ae (Nat.le_refl _))))
             go_roundw
             case rel=>exact ⟨p+1,Aa B,by go_num,aB,al⟩
             case measure=>have:=Aa B;simp [intOf];omega
           ·skip
            have al:=Ab (Aa Q (by intro r F;simp [Al,it,ao] at F;rw [F,Aa ad];omega))
            clear I Q P
            go_wp2_with (go_at_call 72;refine (Bc _ k c N w h1 (Aa au) k t _ (by omega) (by omega) (by omega) f).mono ?_;rintro e aT ⟨rfl,ae⟩;rw [Aa ad];have Y:=f.trans (ae.mono f.size);obtain ⟨aI,aJ,q2,q3,aK⟩:=Dh (ab.after ae (Nat.le_refl _)))
            go_roundw
            case rel=>exact ⟨p+1,Aa B,by go_num,Y,al⟩
            case measure=>have:=Aa B;simp [intOf];omega
         ·by_cases ao: 0≤grant
          ·skip
           obtain ⟨⟨b9,ca⟩,_⟩:=Aa P grant (by simp [Al,ao])
           obtain ⟨u,rfl⟩:∃ u:Nat,grant=(u:Int):=⟨grant.toNat,by omega⟩
           obtain ⟨G,H⟩:∃ G,Hid (AN (N.map Nd.kids) k (u:Int)=G):=⟨_,Ab rfl⟩
           have cb:G≤k+1:=by rw [← Aa H];exact Aa bl _
           by_cases cc: 64 < G
           ·skip
            have bm:(64 :Int) < (G:Int):=by omega
            have l:=Ab (Aa I (u:Int) (by simp [Al,ao]) (by rw [Aa H];omega))
            clear I Q P
            go_wp2_with (go_at_call 72;refine (Bc _ k c N w h1 (Aa au) k u _ (by omega) (by omega) (by omega) f).mono ?_;rintro e bn ⟨rfl,aA⟩;rw [Aa H];have aB:=f.trans (aA.mono f.size))
            go_ret
            exact ⟨Aa l,aB⟩
           ·skip
            have bm: ¬ ((64 :Int) < (G:Int)):=by omega
            have al:=Ab (Aa Q (by intro r F;simp [Al,it,ao] at F;rw [F,Aa H];omega))
            clear I Q P
            go_wp2_with (go_at_call 72;refine (Bc _ k c N w h1 (Aa au) k u _ (by omega) (by omega) (by omega) f).mono ?_;rintro e bn ⟨rfl,aA⟩;rw [Aa H];have aB:=f.trans (aA.mono f.size))
            go_roundw
            case rel=>exact ⟨p+1,Aa B,by go_num,aB,al⟩
            case measure=>have:=Aa B;simp [intOf];omega
          ·skip
           have al:=Ab (Aa Q (by intro r F;simp [Al,it,ao] at F))
           clear I Q P
           go_wp2_with fail
           go_roundw
           case rel=>exact ⟨p+1,Aa B,by go_num,f,al⟩
           case measure=>have:=Aa B;simp [intOf];omega
        ·have ad:=Ab (show ∀ r∈L.flatMap Al,AN (N.map Nd.kids) k r≤64 by
          have e:L.take p=L:=List.take_of_length_le (by rw [Aa av];omega)
          have:=Aa a9
          rw [e] at this
          exact this)
         have l:=Ab (show BS k o N L (.returned (.bool true)) from ⟨true,rfl,⟨fun _=>⟨⟨R,bR,bQ⟩,Aa bv,(Aa a7).2 ⟨Aa b3,Aa bI,Aa bL,Aa ad⟩⟩,fun _=>rfl⟩⟩)
         have ba: ¬ ((p:Int) < (o:Int)):=by omega
         clear a9
         go_wp2_with fail
         go_ret
         exact ⟨Aa l,E⟩
end Go.Proofs.YtcpdodmoheebaaaGreatDoor
