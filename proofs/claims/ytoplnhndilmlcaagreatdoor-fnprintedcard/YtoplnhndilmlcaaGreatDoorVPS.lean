/-
  The model's whole look at a policy. Own work.
-/
import Derived.Test.YtoplnhndilmlcaaGreatDoorMXAQ
namespace Go.Proofs.YtoplnhndilmlcaaGreatDoor
set_option maxRecDepth 100000
set_option maxHeartbeats 32000000
open Go.RowKit
set_option linter.unusedVariables false
def Eb (n m:Nat) (N:List Nd) (L:List St) (e:Ending):Prop:=∃ b:Bool,e= .returned (.bool b)∧(b=true↔(n≤4000∧1≤m∧m≤600)∧N.all Aq=true∧IA N L)
theorem Ec {n m:Nat}{N:List Nd}{L:List St}(h: ¬ ((n≤4000∧1≤m∧m≤600)∧N.all Aq=true∧IA N L)):Eb n m N L (.returned (.bool false)):=⟨false,rfl,by constructor <;> intro k;cases k;exact absurd k h⟩
theorem Si {s:ByteArray}(h:s.size=0):s.toList.isEmpty=true:=List.isEmpty_iff.2 ((Cu s).2 h)
theorem Oy {s:ByteArray}(h:s.size≠0):s.toList.isEmpty=false:=by rw[Bool.eq_false_iff];intro k;exact h ((Cu s).1 (List.isEmpty_iff.1 k))
theorem TV {w:World}{a:Nat}{e:TypeId}{size:Nat}{v:Value}{n:Nat}{b:List Value}(h:w.ownsRow a e size v n b):v.ownBlock≠some w.heap.size:=fun k=>by have:=(h.lt _ k).2;omega
theorem Sj (a b:Option Addr)(n c m d:Nat)(N:List Nd)(L:List St)(w:World)(h1:Fe w a n c N)(h2:KU w b m d L):
  Calls Tryz.prog 16 #[.slice a n c,.slice b m d,.bool false] w fun e w'=>Eb n m N L e∧Below w.heap.size w w':=by
 have cc:=h1.small;have cd:=h2.small;have ab:=Ab h1.len;have ax:=Ab h2.len;go_enter Tryz.func16,Tryz.ntmps16
 by_cases aV: 4000 < n
 ·have bN:(4000 :Int) < (n:Int):=by omega
  have l:=Ab (Ec (n:=n) (m:=m) (N:=N) (L:=L) (fun h=>by omega));clear aV;go_wp2_with fail
  go_ret
  exact ⟨Aa l,BRN⟩
 have bN: ¬ ((4000 :Int) < (n:Int)):=by omega
 by_cases hm:m < 1
 ·have bO:(m:Int) < 1:=by omega
  have l:=Ab (Ec (n:=n) (m:=m) (N:=N) (L:=L) (fun h=>by omega));clear aV hm;go_wp2_with fail
  go_ret
  exact ⟨Aa l,BRN⟩
 have bO: ¬ ((m:Int) < 1):=by omega
 by_cases bo: 600 < m
 ·have bP:(600 :Int) < (m:Int):=by omega
  have l:=Ab (Ec (n:=n) (m:=m) (N:=N) (L:=L) (fun h=>by omega));clear aV hm bo;go_wp2_with fail
  go_ret
  exact ⟨Aa l,BRN⟩
 have bP: ¬ ((600 :Int) < (m:Int)):=by omega
 have T:n≤4000:=by omega
 have bQ:m≤600:=by omega
 have bR: 1≤m:=by omega
 clear aV hm bo;go_wp2_with fail
 go_loopw [33] (fun i wr=>∃ k:Nat,k≤n∧i= .int .i64 k∧Below w.heap.size w wr∧Hid (∀ j,(ah:j < N.length)→j < k→Aq N[j]=true)) (fun i _=>n - (intOf i).toNat)
 case atStart=>exact ⟨0,by omega,rfl,BRN,Ab (fun j ah h=>absurd h (by omega))⟩
 case round=>
  obtain ⟨k,hk,rfl,H,ai⟩:=hrel;by_cases aj:k < n
  ·have ba:(k:Int) < (n:Int):=by omega
   have Q:k < N.length:=by rw[Aa ab];exact aj
   have ac:=h1.sizes N[k] (List.getElem_mem Q);obtain ⟨bp,bq,rfl,br,an,nn,aW,aX,aY,aZ,ay,c1,c2,c3,c4,bb,a0⟩:=(h1.below H NLN).cells k Q;have o:=Ab (show Aq N[k]=false→Eb n m N L (.returned (.bool false)) from fun e=>Ec (fun h=>by
    have:=(Ge N).1 h.2.1 k Q;rw[this] at e;cases e))
   have z:=Ab (show Aq N[k]=true→∀ j,(ah:j < N.length)→j < k+1→Aq N[j]=true from fun e j ah aE=>by
    by_cases aN:j=k
    ·subst aN;exact e
    ·exact Aa ai j ah (by omega))
   have C:=Ab aj;clear ai;generalize N[k]=x at ay c1 c2 c3 c4 bb a0 ac o z;have bs:=Ab a0.len;have bt:=a0.small;have f:=H.alloc H.size (.cells #[.int .i64 x.op,.int .i64 x.num,.string x.text,.slice an nn aW,.slice aX aY aZ] 80);have bS:=(Below.refl wr.heap.size wr).alloc NLN (.cells #[.int .i64 x.op,.int .i64 x.num,.string x.text,.slice an nn aW,.slice aX aY aZ] 80);have bu:=bb.below bS NLN;clear bb a0;cases aF:Aq x
   ·have l:=Ab (Aa o aF);have bc:=Ab aF;clear aF o z;go_wp2_with (go_at_call 35;refine (Jq x an nn aW aX aY aZ _ bu (Aa bs).symm ac bt).mono ?_;rintro e aG ⟨rfl,B⟩;rw[Aa bc])
    go_ret
    exact ⟨Aa l,f.trans (B.mono f.size)⟩
   ·have U:=Ab (Aa z aF);have bc:=Ab aF;clear aF o z;go_wp2_with (go_at_call 35;refine (Jq x an nn aW aX aY aZ _ bu (Aa bs).symm ac bt).mono ?_;rintro e aG ⟨rfl,B⟩;rw[Aa bc])
    go_roundw
    case rel=>exact ⟨k+1,Aa C,by go_num,f.trans (B.mono f.size),U⟩
    case measure=>have:=Aa C;simp[intOf];omega
  ·have e:k=n:=by omega
   have bv:=Ab (show N.all Aq=true from (Ge N).2 (fun j ah=>Aa ai j ah (by have:=Aa ab;omega)));have aH:=Ab (TW (Aa bv));have bT:=Ab (show (N.map Nd.kids).length=n by rw[List.length_map];exact Aa ab);subst e;have bd:=Ab H;clear ai aj H;go_wp2_with fail
   go_loopw [9,44] (fun v i wr=>∃ (q:Nat) (O:List Int),q≤m∧i= .int .i64 q∧Below w.heap.size w wr∧Hid (∀ j,(h:j < L.length)→j < q→MY L j h=true)∧Hid (Jt (N.map Nd.kids) k ((L.take q).flatMap As)=O)∧O.length≤4 * k+2 * q∧wr.ownsRow w.heap.size 3 1 v O.length (At O)) (fun _ i _=>m - (intOf i).toNat)
   case atStart=>exact ⟨0, [],by omega,rfl,Aa bd,Ab (fun j h aE=>absurd aE (by omega)),Ab (by simp[Jt]),by simp,World.ownsRow_nil _ _ _ _⟩
   case round=>
    obtain ⟨q,O,hq,rfl,H,ai,aI,ce,a1⟩:=hrel;obtain ⟨cf,cg,rfl,bf⟩:=Af a1;by_cases aj:q < m
    ·have ba:(q:Int) < (m:Int):=by omega
     have Q:q < L.length:=by rw[Aa ax];exact aj
     have ac:=h2.sizes L[q] (List.getElem_mem Q);obtain ⟨bp,bq,rfl,br,ay,c1,c2,c3⟩:=(h2.below H NLN).cells q Q;have o:=Ab (show BZ (decide (q+1=m)) L[q]=false→Eb k m N L (.returned (.bool false)) from fun e=>Ec (fun h=>by
      have:=(ID L).1 h.2.2.1 q Q;rw[MY,Aa ax,e] at this;cases this))
     have z:=Ab (show BZ (decide (q+1=m)) L[q]=true→∀ j,(h:j < L.length)→j < q+1→MY L j h=true from fun e j ah aE=>by
      by_cases aN:j=q
      ·subst aN;rw[MY,Aa ax];exact e
      ·exact Aa ai j ah (by omega))
     have A:=Ab (show Jt (N.map Nd.kids) k ((L.take (q+1)).flatMap As)=(As L[q]).foldl (fun bU r=>AT (N.map Nd.kids) k r bU) O by rw[MZ L q Q,Sk,Aa aI]);have C:=Ab aj;clear ai aI bf;generalize L[q]=s at ay c1 c2 c3 ac o z A;obtain ⟨kind,name,cond,grant⟩:=s;simp only at ay c1 c2 c3 ac;have ad:=Aj.new wr #[.int .i64 kind,.string name,.int .i64 cond,.int .i64 grant] 51;have f:=H.alloc H.size (.cells #[.int .i64 kind,.string name,.int .i64 cond,.int .i64 grant] 51);have ar:=a1.alloc (.cells #[.int .i64 kind,.string name,.int .i64 cond,.int .i64 grant] 51);have aJ:=TV a1;have bw:(wr.alloc (.cells #[.int .i64 kind,.string name,.int .i64 cond,.int .i64 grant] 51)).heap.size=wr.heap.size+1:=by simp
     have E:=Ab (fun r O=>by have:=JX (K:=N.map Nd.kids) (Aa aH) k r O;rw[Aa bT] at this;exact this);by_cases a2:q+1=m
     ·have bV:((q:Int)==(m:Int) - 1)=true:=beq_iff_eq.2 (by omega);rw[decide_eq_true a2] at o z;clear a2;by_cases P:kind=1
      ·have e1:(kind== 1)=true:=beq_iff_eq.2 P;subst P;have l:=Ab (Aa o (by simp[BZ]));clear o z A E;go_wp2_with fail
       go_ret
       exact ⟨Aa l,f⟩
      have e1:(kind== 1)=false:=beq_eq_false_iff_ne.2 P;by_cases V:kind=2
      ·have e2:(kind== 2)=true:=beq_iff_eq.2 V;subst V;clear P;have l:=Ab (Aa o (by simp[BZ]));clear o z A E;go_wp2_with fail
       go_ret
       exact ⟨Aa l,f⟩
      have e2:(kind== 2)=false:=beq_eq_false_iff_ne.2 V;by_cases ak:kind=3
      ·have e3:(kind== 3)=true:=beq_iff_eq.2 ak;subst ak;clear P V;by_cases W:name.size=0
       ·have bg:=Si W;by_cases a3:cond= -1
        ·have bW:(cond== -1)=true:=beq_iff_eq.2 a3;subst a3;by_cases az: -1≤grant
         ·by_cases aO: 0≤grant
          ·skip;have U:=Ab (Aa z (by simp[BZ,W,az]));obtain ⟨X,aA⟩:∃ X,Hid (AT (N.map Nd.kids) k grant O=X):=⟨_,Ab rfl⟩
           have bX:X.length≤max O.length (k+3 * k)+1:=by rw[← Aa aA];exact Aa E grant O
           have al:=Ab (show Jt (N.map Nd.kids) k ((L.take (q+1)).flatMap As)=X by rw[Aa A];rw[← Aa aA];simp[As,aO]);clear o z A;go_wp2_with (go_at_call 37;refine (EU _ k c N w w.heap.size h1 NLN T (Aa aH) k grant O _ _ T (.inl (Nat.le_of_eq (Aa ab))) (by omega) f f.size ar).mono ?_;rintro e bY ⟨bZ,rfl,aP,bh,b0⟩;rw[Aa aA] at aP;have bi:=f.trans bh)
           go_roundw
           case rel=>exact ⟨q+1,X,Aa C,by go_num,bi,U,al,by omega,aP⟩
           case measure=>have:=Aa C;simp[intOf];omega
          ·skip;have U:=Ab (Aa z (by simp[BZ,W,az]));have al:=Ab (show Jt (N.map Nd.kids) k ((L.take (q+1)).flatMap As)=O by rw[Aa A];simp[As,aO]);clear o z A;go_wp2_with fail
           go_roundw
           case rel=>exact ⟨q+1,O,Aa C,by go_num,f,U,al,by omega,ar⟩
           case measure=>have:=Aa C;simp[intOf];omega
         ·skip;have l:=Ab (Aa o (by simp[BZ,az]));clear o z A E;go_wp2_with fail
          go_ret
          exact ⟨Aa l,f⟩
        ·have bW:(cond== -1)=false:=beq_eq_false_iff_ne.2 a3;have l:=Ab (Aa o (by simp[BZ,a3]));clear o z A E;go_wp2_with fail
         go_ret
         exact ⟨Aa l,f⟩
       ·have bg:=Oy W;have l:=Ab (Aa o (by simp[BZ,W]));clear o z A E;go_wp2_with fail
        go_ret
        exact ⟨Aa l,f⟩
      have e3:(kind== 3)=false:=beq_eq_false_iff_ne.2 ak;have l:=Ab (Aa o (by simp[BZ,P,V,ak]));clear o z A E;go_wp2_with fail
      go_ret
      exact ⟨Aa l,f⟩
     ·have bV:((q:Int)==(m:Int) - 1)=false:=beq_eq_false_iff_ne.2 (by omega);rw[decide_eq_false a2] at o z;clear a2;by_cases P:kind=1
      ·have e1:(kind== 1)=true:=beq_iff_eq.2 P;subst P;cases hi:Bq name
       ·have Hi:=Ab hi;clear hi;have l:=Ab (Aa o (by simp[BZ,Aa Hi]));clear o z A E;go_wp2_with (go_at_call 36;refine (Dl _ _ ac).mono ?_;rintro e aG ⟨rfl,B⟩;rw[Aa Hi];have ao:=f.trans (B.mono f.size);have au:=ad.after B NLN;have a4:=DT ar B NLN;have a5:=B.size;obtain ⟨aK,aL,q2,q3,aM⟩:=Dm au)
        go_ret
        exact ⟨Aa l,ao⟩
       ·have Hi:=Ab hi;clear hi;by_cases ae: 0≤cond
        ·by_cases a6:grant= -1
         ·have b1:(grant== -1)=true:=beq_iff_eq.2 a6;subst a6;have U:=Ab (Aa z (by simp[BZ,Aa Hi,ae]));obtain ⟨F,Y⟩:∃ F,Hid (AT (N.map Nd.kids) k cond O=F):=⟨_,Ab rfl⟩
          have bx:F.length≤max O.length (k+3 * k)+1:=by rw[← Aa Y];exact Aa E cond O
          have ch:=ae;have al:=Ab (show Jt (N.map Nd.kids) k ((L.take (q+1)).flatMap As)=F by rw[Aa A];rw[← Aa Y];simp[As,ae]);clear o z A;go_wp2_with (first | (go_at_call 36;refine (Dl _ _ ac).mono ?_;rintro e aG ⟨rfl,B⟩;rw[Aa Hi];have ao:=f.trans (B.mono f.size);have au:=ad.after B NLN;have a4:=DT ar B NLN;have a5:=B.size;obtain ⟨aK,aL,q2,q3,aM⟩:=Dm au) | (go_at_call 37;refine (EU _ k c N w w.heap.size h1 NLN T (Aa aH) k cond O _ aG T (.inl (Nat.le_of_eq (Aa ab))) (by omega) ao ao.size a4).mono ?_;rintro e bj ⟨aQ,rfl,Z,aR,av⟩;rw[Aa Y] at Z;have aB:=ao.trans aR;have aS:=au.keep av aJ;have bz:aQ.ownBlock≠some wr.heap.size:=(fun e=>by rcases av.2.1 _ e with x | x;exact aJ x;(have:=a5;omega));obtain ⟨bA,c4,rfl,_⟩:=Af Z;obtain ⟨bB,bC,bD,bE,bF⟩:=Dm aS))
          go_roundw
          case rel=>exact ⟨q+1,F,Aa C,by go_num,aB,U,al,by omega,Z⟩
          case measure=>have:=Aa C;simp[intOf];omega
         ·have b1:(grant== -1)=false:=beq_eq_false_iff_ne.2 a6;have l:=Ab (Aa o (by simp[BZ,Aa Hi,a6]));clear o z A E;go_wp2_with (go_at_call 36;refine (Dl _ _ ac).mono ?_;rintro e aG ⟨rfl,B⟩;rw[Aa Hi];have ao:=f.trans (B.mono f.size);have au:=ad.after B NLN;have a4:=DT ar B NLN;have a5:=B.size;obtain ⟨aK,aL,q2,q3,aM⟩:=Dm au)
          go_ret
          exact ⟨Aa l,ao⟩
        ·skip;have l:=Ab (Aa o (by simp[BZ,Aa Hi,ae]));clear o z A E;go_wp2_with (go_at_call 36;refine (Dl _ _ ac).mono ?_;rintro e aG ⟨rfl,B⟩;rw[Aa Hi];have ao:=f.trans (B.mono f.size);have au:=ad.after B NLN;have a4:=DT ar B NLN;have a5:=B.size;obtain ⟨aK,aL,q2,q3,aM⟩:=Dm au)
         go_ret
         exact ⟨Aa l,ao⟩
      have e1:(kind== 1)=false:=beq_eq_false_iff_ne.2 P;by_cases V:kind=2
      ·have e2:(kind== 2)=true:=beq_iff_eq.2 V;subst V;clear P;by_cases W:name.size=0
       ·have bg:=Si W;by_cases ae: 0≤cond
        ·by_cases az: -1≤grant
         ·by_cases aO: 0≤grant
          ·skip;have U:=Ab (Aa z (by simp[BZ,W,ae,az]));obtain ⟨F,Y⟩:∃ F,Hid (AT (N.map Nd.kids) k cond O=F):=⟨_,Ab rfl⟩
           have bx:F.length≤max O.length (k+3 * k)+1:=by rw[← Aa Y];exact Aa E cond O
           obtain ⟨X,aA⟩:∃ X,Hid (AT (N.map Nd.kids) k grant F=X):=⟨_,Ab rfl⟩
           have bX:X.length≤max F.length (k+3 * k)+1:=by rw[← Aa aA];exact Aa E grant F
           have al:=Ab (show Jt (N.map Nd.kids) k ((L.take (q+1)).flatMap As)=X by rw[Aa A];rw[← Aa aA,← Aa Y];simp[As,ae,aO]);clear o z A;go_wp2_with (first | (go_at_call 37;refine (EU _ k c N w w.heap.size h1 NLN T (Aa aH) k grant F _ bj T (.inl (Nat.le_of_eq (Aa ab))) (by omega) aB aB.size Z).mono ?_;rintro e bY ⟨bZ,rfl,aP,bh,b0⟩;rw[Aa aA] at aP;have bi:=aB.trans bh) | (go_at_call 37;refine (EU _ k c N w w.heap.size h1 NLN T (Aa aH) k cond O _ _ T (.inl (Nat.le_of_eq (Aa ab))) (by omega) f f.size ar).mono ?_;rintro e bj ⟨aQ,rfl,Z,aR,av⟩;rw[Aa Y] at Z;have aB:=f.trans aR;have aS:=ad.keep av aJ;have bz:aQ.ownBlock≠some wr.heap.size:=(fun e=>by rcases av.2.1 _ e with x | x;exact aJ x;(have:=bw;omega));obtain ⟨bA,c4,rfl,_⟩:=Af Z;obtain ⟨bB,bC,bD,bE,bF⟩:=Dm aS))
           go_roundw
           case rel=>exact ⟨q+1,X,Aa C,by go_num,bi,U,al,by omega,aP⟩
           case measure=>have:=Aa C;simp[intOf];omega
          ·skip;have U:=Ab (Aa z (by simp[BZ,W,ae,az]));obtain ⟨F,Y⟩:∃ F,Hid (AT (N.map Nd.kids) k cond O=F):=⟨_,Ab rfl⟩
           have bx:F.length≤max O.length (k+3 * k)+1:=by rw[← Aa Y];exact Aa E cond O
           have al:=Ab (show Jt (N.map Nd.kids) k ((L.take (q+1)).flatMap As)=F by rw[Aa A];rw[← Aa Y];simp[As,ae,aO]);clear o z A;go_wp2_with (go_at_call 37;refine (EU _ k c N w w.heap.size h1 NLN T (Aa aH) k cond O _ _ T (.inl (Nat.le_of_eq (Aa ab))) (by omega) f f.size ar).mono ?_;rintro e bj ⟨aQ,rfl,Z,aR,av⟩;rw[Aa Y] at Z;have aB:=f.trans aR;have aS:=ad.keep av aJ;have bz:aQ.ownBlock≠some wr.heap.size:=(fun e=>by rcases av.2.1 _ e with x | x;exact aJ x;(have:=bw;omega));obtain ⟨bA,c4,rfl,_⟩:=Af Z;obtain ⟨bB,bC,bD,bE,bF⟩:=Dm aS)
           go_roundw
           case rel=>exact ⟨q+1,F,Aa C,by go_num,aB,U,al,by omega,Z⟩
           case measure=>have:=Aa C;simp[intOf];omega
         ·skip;have l:=Ab (Aa o (by simp[BZ,az]));clear o z A E;go_wp2_with fail
          go_ret
          exact ⟨Aa l,f⟩
        ·skip;have l:=Ab (Aa o (by simp[BZ,ae]));clear o z A E;go_wp2_with fail
         go_ret
         exact ⟨Aa l,f⟩
       ·have bg:=Oy W;have l:=Ab (Aa o (by simp[BZ,W]));clear o z A E;go_wp2_with fail
        go_ret
        exact ⟨Aa l,f⟩
      have e2:(kind== 2)=false:=beq_eq_false_iff_ne.2 V;by_cases ak:kind=3
      ·have e3:(kind== 3)=true:=beq_iff_eq.2 ak;subst ak;clear P V;have l:=Ab (Aa o (by simp[BZ]));clear o z A E;go_wp2_with fail
       go_ret
       exact ⟨Aa l,f⟩
      have e3:(kind== 3)=false:=beq_eq_false_iff_ne.2 ak;have l:=Ab (Aa o (by simp[BZ,P,V,ak]));clear o z A E;go_wp2_with fail
      go_ret
      exact ⟨Aa l,f⟩
    ·have e:q=m:=by omega
     subst e;have bG:L.take q=L:=List.take_of_length_le (by rw[Aa ax];exact NLN);rw[bG] at aI;clear bG;have b2:=Ab (show EV L=true from (ID L).2 (fun j h=>Aa ai j h (by have:=Aa ax;omega)));have a7:=Ab (show IA N L↔EV L=true∧O.length=k∧good O∧∀ r∈L.flatMap As,AY (N.map Nd.kids) k r≤64 by
      rw[IA,Aa ab];rw[← Aa aI];exact Iff.rfl)
     have bH:=Ab bf;clear ai bf;by_cases aT:O.length=k
     case neg=>
      have b3:((O.length:Int) !=(k:Int))=true:=bne_iff_ne.2 (by omega);have l:=Ab (Ec (n:=k) (m:=q) (N:=N) (L:=L) (fun h=>aT ((Aa a7).1 h.2.2).2.1));clear aT;go_wp2_with fail
      go_ret
      exact ⟨Aa l,H⟩
     have b3:((O.length:Int) !=(k:Int))=false:=by rw[aT];simp
     have bI:=Ab aT;clear aT;go_wp2_with fail
     go_loop [138] (fun i=>∃ j:Nat,j≤O.length∧i= .int .i64 j∧Hid (∀ p,(h:p < O.length)→p < j→O[p]=(p:Int))) (fun i=>O.length - (intOf i).toNat)
     case atStart=>exact ⟨0,by omega,rfl,Ab (fun p h aE=>absurd aE (by omega))⟩
     case round=>
      obtain ⟨j,ah,rfl,a8⟩:=hrel;by_cases bk:j < O.length
      ·have b4:(j:Int) < (O.length:Int):=by omega
       obtain ⟨g,rfl,ci,bJ⟩:=Aa bH (by omega);have b5:=bJ j _ (show (At O)[j]? =some (.int .i64 O[j]) by rw[At,List.getElem?_map,List.getElem?_eq_getElem bk];rfl);have J:=Ab (show O[j]=(j:Int)→∀ p,(h:p < O.length)→p < j+1→O[p]=(p:Int) from fun e p h aE=>by
        by_cases aN:p=j
        ·subst aN;exact e
        ·exact Aa a8 p h (by omega))
       have M:=Ab (show O[j]≠(j:Int)→Eb k q N L (.returned (.bool false)) from fun e=>Ec (fun h=>e ((Sf O).1 ((Aa a7).1 h.2.2).2.2.1 j bk)));have bK:=Ab bk;clear bJ a8;generalize O[j]=y at b5 J M;by_cases hy:y=(j:Int)
       ·have b6:((j:Int) != y)=false:=by rw[hy];simp
        have ap:=Ab (Aa J hy);clear hy J M;go_wp2_with fail
        go_round
        case rel=>exact ⟨j+1,Aa bK,by go_num,ap⟩
        case measure=>have:=Aa bK;simp[intOf];omega
       ·have b6:((j:Int) != y)=true:=bne_iff_ne.2 (fun e=>hy e.symm);have l:=Ab (Aa M hy);clear hy J M;go_wp2_with fail
        go_ret
        exact ⟨Aa l,H⟩
      ·have bL:=Ab (show good O from (Sf O).2 (fun p h=>Aa a8 p h (by omega)));have bM:=Ab (TX (N:=N) (n:=k) (rs:=L.flatMap As) (Aa ab) (by rw[Aa aI];exact Aa bI) (by rw[Aa aI];exact Aa bL));have b4: ¬ ((j:Int) < (O.length:Int)):=by omega
       have bd:=Ab H;clear a8 bH a1 H;go_wp2_with fail
       go_loopw [149] (fun i wr=>∃ p:Nat,p≤q∧i= .int .i64 p∧Below w.heap.size w wr∧Hid (∀ r∈(L.take p).flatMap As,AY (N.map Nd.kids) k r≤64)) (fun i _=>q - (intOf i).toNat)
       case atStart=>exact ⟨0,by omega,rfl,Aa bd,Ab (by simp)⟩
       case round=>
        obtain ⟨p,cj,rfl,H,a9⟩:=hrel;by_cases aj:p < q
        ·have ba:(p:Int) < (q:Int):=by omega
         have Q:p < L.length:=by rw[Aa ax];exact aj
         obtain ⟨bp,bq,rfl,br,ay,c1,c2,c3⟩:=(h2.below H NLN).cells p Q;have R:=Ab (show ∀ r∈As L[p],(0≤r∧r < (k:Int))∧r∈L.flatMap As from fun r I=>by
          have hm:r∈L.flatMap As:=List.mem_flatMap.2 ⟨L[p],List.getElem_mem Q,I⟩;exact ⟨(Aa bM).2 r hm,hm⟩)
         have M:=Ab (show ∀ r∈As L[p],¬ AY (N.map Nd.kids) k r≤64→Eb k q N L (.returned (.bool false)) from fun r I e=>Ec (fun h=>e (((Aa a7).1 h.2.2).2.2.2 r (Aa R r I).2)));have S:=Ab (show (∀ r∈As L[p],AY (N.map Nd.kids) k r≤64)→∀ r∈(L.take (p+1)).flatMap As,AY (N.map Nd.kids) k r≤64 from fun e r I=>by
          rw[MZ L p Q] at I;rcases List.mem_append.1 I with x | x
          ·exact Aa a9 r x
          ·exact e r x)
         have C:=Ab aj;clear a9;generalize L[p]=s at ay c1 c2 c3 R M S;obtain ⟨kind,name,cond,grant⟩:=s;simp only at ay c1 c2 c3;have ad:=Aj.new wr #[.int .i64 kind,.string name,.int .i64 cond,.int .i64 grant] 51;have f:=H.alloc H.size (.cells #[.int .i64 kind,.string name,.int .i64 cond,.int .i64 grant] 51);have aw:=Ab (Aa bM).1;have bl:=Ab (JY (N.map Nd.kids) k);by_cases it: 0≤cond
         ·skip;obtain ⟨⟨ck,cl⟩,_⟩:=Aa R cond (by simp[As,it]);obtain ⟨t,rfl⟩:∃ t:Nat,cond=(t:Int):=⟨cond.toNat,by omega⟩
          obtain ⟨D,af⟩:∃ D,Hid (AY (N.map Nd.kids) k (t:Int)=D):=⟨_,Ab rfl⟩
          have cm:D≤k+1:=by rw[← Aa af];exact Aa bl _
          by_cases cn: 64 < D
          ·skip;have b7:(64 :Int) < (D:Int):=by omega
           have l:=Ab (Aa M (t:Int) (by simp[As,it]) (by rw[Aa af];omega));clear M S R;go_wp2_with (go_at_call 38;refine (Cc _ k c N w h1 (Aa aw) k t _ (by omega) (by omega) (by omega) f).mono ?_;rintro e aU ⟨rfl,ag⟩;rw[Aa af];have aa:=f.trans (ag.mono f.size))
           go_ret
           exact ⟨Aa l,aa⟩
          ·have b7: ¬ ((64 :Int) < (D:Int)):=by omega
           by_cases aq: 0≤grant
           ·skip;obtain ⟨⟨b8,b9⟩,_⟩:=Aa R grant (by simp[As,aq]);obtain ⟨u,rfl⟩:∃ u:Nat,grant=(u:Int):=⟨grant.toNat,by omega⟩
            obtain ⟨G,J⟩:∃ G,Hid (AY (N.map Nd.kids) k (u:Int)=G):=⟨_,Ab rfl⟩
            have ca:G≤k+1:=by rw[← Aa J];exact Aa bl _
            by_cases cb: 64 < G
            ·skip;have bm:(64 :Int) < (G:Int):=by omega
             have l:=Ab (Aa M (u:Int) (by simp[As,aq]) (by rw[Aa J];omega));clear M S R;go_wp2_with (first | (go_at_call 38;refine (Cc _ k c N w h1 (Aa aw) k u aU (by omega) (by omega) (by omega) aa).mono ?_;rintro e bn ⟨rfl,aC⟩;rw[Aa J];have aD:=aa.trans (aC.mono aa.size)) | (go_at_call 38;refine (Cc _ k c N w h1 (Aa aw) k t _ (by omega) (by omega) (by omega) f).mono ?_;rintro e aU ⟨rfl,ag⟩;rw[Aa af];have aa:=f.trans (ag.mono f.size);obtain ⟨aK,aL,q2,q3,aM⟩:=Dm (ad.after ag NLN)))
             go_ret
             exact ⟨Aa l,aD⟩
            ·skip;have bm: ¬ ((64 :Int) < (G:Int)):=by omega
             have ap:=Ab (Aa S (by intro r I;simp[As,it,aq] at I;rcases I with rfl | rfl;rw[Aa af];omega;rw[Aa J];omega));clear M S R;go_wp2_with (first | (go_at_call 38;refine (Cc _ k c N w h1 (Aa aw) k u aU (by omega) (by omega) (by omega) aa).mono ?_;rintro e bn ⟨rfl,aC⟩;rw[Aa J];have aD:=aa.trans (aC.mono aa.size)) | (go_at_call 38;refine (Cc _ k c N w h1 (Aa aw) k t _ (by omega) (by omega) (by omega) f).mono ?_;rintro e aU ⟨rfl,ag⟩;rw[Aa af];have aa:=f.trans (ag.mono f.size);obtain ⟨aK,aL,q2,q3,aM⟩:=Dm (ad.after ag NLN)))
             go_roundw
             case rel=>exact ⟨p+1,Aa C,by go_num,aD,ap⟩
             case measure=>have:=Aa C;simp[intOf];omega
           ·skip;have ap:=Ab (Aa S (by intro r I;simp[As,it,aq] at I;rw[I,Aa af];omega));clear M S R;go_wp2_with (go_at_call 38;refine (Cc _ k c N w h1 (Aa aw) k t _ (by omega) (by omega) (by omega) f).mono ?_;rintro e aU ⟨rfl,ag⟩;rw[Aa af];have aa:=f.trans (ag.mono f.size);obtain ⟨aK,aL,q2,q3,aM⟩:=Dm (ad.after ag NLN))
            go_roundw
            case rel=>exact ⟨p+1,Aa C,by go_num,aa,ap⟩
            case measure=>have:=Aa C;simp[intOf];omega
         ·by_cases aq: 0≤grant
          ·skip;obtain ⟨⟨b8,b9⟩,_⟩:=Aa R grant (by simp[As,aq]);obtain ⟨u,rfl⟩:∃ u:Nat,grant=(u:Int):=⟨grant.toNat,by omega⟩
           obtain ⟨G,J⟩:∃ G,Hid (AY (N.map Nd.kids) k (u:Int)=G):=⟨_,Ab rfl⟩
           have ca:G≤k+1:=by rw[← Aa J];exact Aa bl _
           by_cases cb: 64 < G
           ·skip;have bm:(64 :Int) < (G:Int):=by omega
            have l:=Ab (Aa M (u:Int) (by simp[As,aq]) (by rw[Aa J];omega));clear M S R;go_wp2_with (go_at_call 38;refine (Cc _ k c N w h1 (Aa aw) k u _ (by omega) (by omega) (by omega) f).mono ?_;rintro e bn ⟨rfl,aC⟩;rw[Aa J];have aD:=f.trans (aC.mono f.size))
            go_ret
            exact ⟨Aa l,aD⟩
           ·skip;have bm: ¬ ((64 :Int) < (G:Int)):=by omega
            have ap:=Ab (Aa S (by intro r I;simp[As,it,aq] at I;rw[I,Aa J];omega));clear M S R;go_wp2_with (go_at_call 38;refine (Cc _ k c N w h1 (Aa aw) k u _ (by omega) (by omega) (by omega) f).mono ?_;rintro e bn ⟨rfl,aC⟩;rw[Aa J];have aD:=f.trans (aC.mono f.size))
            go_roundw
            case rel=>exact ⟨p+1,Aa C,by go_num,aD,ap⟩
            case measure=>have:=Aa C;simp[intOf];omega
          ·skip;have ap:=Ab (Aa S (by intro r I;simp[As,it,aq] at I));clear M S R;go_wp2_with fail
           go_roundw
           case rel=>exact ⟨p+1,Aa C,by go_num,f,ap⟩
           case measure=>have:=Aa C;simp[intOf];omega
        ·have af:=Ab (show ∀ r∈L.flatMap As,AY (N.map Nd.kids) k r≤64 by
          have e:L.take p=L:=List.take_of_length_le (by rw[Aa ax];omega);have:=Aa a9;rw[e] at this;exact this)
         have l:=Ab (show Eb k q N L (.returned (.bool true)) from ⟨true,rfl,⟨fun _=>⟨⟨T,bR,bQ⟩,Aa bv,(Aa a7).2 ⟨Aa b2,Aa bI,Aa bL,Aa af⟩⟩,fun _=>rfl⟩⟩);have ba: ¬ ((p:Int) < (q:Int)):=by omega
         clear a9;go_wp2_with fail
         go_ret
         exact ⟨Aa l,H⟩
end Go.Proofs.YtoplnhndilmlcaaGreatDoor
