/-
  VPX, VPT, VPS, VPY0. Own work.
-/
import Derived.Test.YtffkofkjpckmpaaGreatDoorMXBJ
import Derived.Test.YtffkofkjpckmpaaGreatDoorMXAX
namespace Go.Proofs.YtffkofkjpckmpaaGreatDoor
open Go.RowKit
set_option linter.unusedVariables false
def NP (L:List St) (j:Nat) (h:j < L.length):Bool:=CB (decide (j+1=L.length)) L[j]
theorem Jn:∀ (L:List St),Fy L=true↔∀ j,(h:j < L.length)→NP L j h=true
 | []=>by simp[Fy]
 |s ::r=>by
  rw[Fy,zE,Jn r];have e:r.isEmpty=decide (0+1=(s ::r).length):=by cases r <;> simp
  constructor
  ·rintro ⟨h1,h2⟩ j a;cases j with
   |zero=>rw[e] at h1;exact h1
   |succ j=>
    have:=h2 j (by simpa using a);rw[NP] at this ⊢;simp only[List.getElem_cons_succ,List.length_cons] at this ⊢;rw[show decide (j+1+1=r.length+1)=decide (j+1=r.length) by rw[decide_eq_decide];omega];exact this
  ·intro h;refine ⟨by rw[e];exact h 0 (by simp),fun j a=>?_⟩;have:=h (j+1) (by simpa using a);rw[NP] at this ⊢;simp only[List.getElem_cons_succ,List.length_cons] at this;rw[show decide (j+1+1=r.length+1)=decide (j+1=r.length) by rw[decide_eq_decide];omega] at this;exact this
theorem NQ (L:List St)(k:Nat)(h:k < L.length):(L.take (k+1)).flatMap AD=(L.take k).flatMap AD ++AD L[k]:=by
 rw[zx h,List.flatMap_append];simp
def Kk (K:List (List Int)) (n:Nat) (rs:List Int):List Int:=rs.foldl (fun o r=>Bg K n r o) []
theorem TB (K:List (List Int))(n:Nat)(rs a:List Int):Kk K n (rs ++a)=a.foldl (fun b r=>Bg K n r b) (Kk K n rs):=by rw[Kk,zo,Kk]
theorem Vj {N:List Nd}(h:N.all Aw=true):∀ ks∈N.map Nd.kids,ks.length≤3:=by
 intro ks hk;obtain ⟨x,hx,rfl⟩:=zb.1 hk;have:=z1.1 h x hx;rw[NG,zE] at this;have h1:=of_decide_eq_true this.1;unfold Eg at h1;split at h1
 ·omega
 ·split at h1
  ·omega
  ·split at h1
   ·omega
   ·split at h1 <;> omega
theorem AJ.kids {K:List (List Int)}{a b:Nat}{c:List (Nat × Nat)}(h:AJ K a c b):∀ j,a≤j→j < b→∃ ks,K[j]? =some (Av ks)∧∀ p∈ks,p.1 < j:=by
 induction h with
 |nil a=>intro j h1 h2;omega
 |cons hk ht hf d f=>
  rename_i a t b ks c;intro j h1 h2;rcases Nat.lt_trichotomy j t with e | e | e
  ·exact d j h1 e
  ·subst e;exact ⟨ks,ht,fun p hp=>(hk.lt p hp).2⟩
  ·exact f j (by omega) h2
theorem Vk {N:List Nd}{n:Nat}{rs:List Int}(f:N.length=n)(hl:(Kk (N.map Nd.kids) n rs).length=n)(b:good (Kk (N.map Nd.kids) n rs)):
  (∀ t,(h:t < N.length)→∀ y∈N[t].kids,0≤y∧y < (t:Int))∧∀ r∈rs,0≤r∧r < (n:Int):=by
 obtain ⟨c,e1,hf⟩:=Jk (K:=N.map Nd.kids) (n:=n) rs [] b;have hf':AJ (N.map Nd.kids) 0 c n:=by
  have:(rs.foldl (fun d k=>Bg (N.map Nd.kids) n k d) []).length=n:=hl;rw[this] at hf;exact hf
 constructor
 ·intro t h y hy;obtain ⟨ks,h1,h2⟩:=hf'.kids t (zN _) (by omega);rw[zd,zM h] at h1;have h3:N[t].kids=Av ks:=by simpa using h1
  rw[h3] at hy;obtain ⟨p,hp,rfl⟩:=zb.1 hy;have:=h2 p hp;omega
 ·intro r a;rw[← e1] at a;obtain ⟨p,hp,rfl⟩:=zb.1 a;have:=hf'.lt p hp;omega
set_option maxRecDepth 100000
set_option maxHeartbeats 32000000
def ED (n m:Nat) (N:List Nd) (L:List St) (e:Ending):Prop:=∃ b:Bool,e= .returned (.bool b)∧(b=true↔(n≤4000∧1≤m∧m≤600)∧N.all Aw=true∧Jm N L)
theorem EE {n m:Nat}{N:List Nd}{L:List St}(h: ¬ ((n≤4000∧1≤m∧m≤600)∧N.all Aw=true∧Jm N L)):ED n m N L (.returned (.bool false)):=⟨false,rfl,by constructor <;> intro k;cases k;exact absurd k h⟩
theorem Ty {s:ByteArray}(h:s.size=0):s.toList.isEmpty=true:=zz.2 ((CQ s).2 h)
theorem Ku {s:ByteArray}(h:s.size≠0):s.toList.isEmpty=false:=by rw[Z2];intro k;exact h ((CQ s).1 (zz.1 k))
theorem Vi {w:World}{a:Nat}{e:TypeId}{size:Nat}{v:Value}{n:Nat}{b:List Value}(h:w.ownsRow a e size v n b):v.ownBlock≠some w.heap.size:=fun k=>by have:=(h.lt _ k).2;omega
theorem TA (a b:Option Addr)(n c m d:Nat)(N:List Nd)(L:List St)(w:World)(h1:IZ w a n c N)(h2:PO w b m d L):
  Calls Tryz.prog 113 #[.slice a n c,.slice b m d,.bool false] w fun e w'=>ED n m N L e∧Below w.heap.size w w':=by
 have cd:=h1.small;have ce:=h2.small;have ab:=Ab h1.len;have ay:=Ab h2.len;go_enter Tryz.func113,Tryz.ntmps113
 by_cases aW: 4000 < n
 ·have bO:(4000 :Int) < (n:Int):=by omega
  have l:=Ab (EE (n:=n) (m:=m) (N:=N) (L:=L) (fun h=>by omega));clear aW;go_wp2_with fail
  go_ret
  exact ⟨Aa l,BRN⟩
 have bO: ¬ ((4000 :Int) < (n:Int)):=by omega
 by_cases hm:m < 1
 ·have bP:(m:Int) < 1:=by omega
  have l:=Ab (EE (n:=n) (m:=m) (N:=N) (L:=L) (fun h=>by omega));clear aW hm;go_wp2_with fail
  go_ret
  exact ⟨Aa l,BRN⟩
 have bP: ¬ ((m:Int) < 1):=by omega
 by_cases bp: 600 < m
 ·have bQ:(600 :Int) < (m:Int):=by omega
  have l:=Ab (EE (n:=n) (m:=m) (N:=N) (L:=L) (fun h=>by omega));clear aW hm bp;go_wp2_with fail
  go_ret
  exact ⟨Aa l,BRN⟩
 have bQ: ¬ ((600 :Int) < (m:Int)):=by omega
 have T:n≤4000:=by omega
 have bR:m≤600:=by omega
 have bS: 1≤m:=by omega
 clear aW hm bp;go_wp2_with fail
 go_loopw [33] (fun i wr=>∃ k:Nat,k≤n∧i= .int .i64 k∧Below w.heap.size w wr∧Hid (∀ j,(ah:j < N.length)→j < k→Aw N[j]=true)) (fun i _=>n - (intOf i).toNat)
 case atStart=>exact ⟨0,by omega,rfl,BRN,Ab (fun j ah h=>absurd h (by omega))⟩
 case round=>
  obtain ⟨k,hk,rfl,H,ai⟩:=hrel;by_cases aj:k < n
  ·have bb:(k:Int) < (n:Int):=by omega
   have Q:k < N.length:=by rw[Aa ab];exact aj
   have ac:=h1.sizes N[k] (zP Q);obtain ⟨bq,br,rfl,bs,an,nn,aX,aY,aZ,a0,az,c1,c2,c3,c4,bc,a1⟩:=(h1.below H NLN).cells k Q;have o:=Ab (show Aw N[k]=false→ED n m N L (.returned (.bool false)) from fun e=>EE (fun h=>by
    have:=(GK N).1 h.2.1 k Q;rw[this] at e;cases e))
   have z:=Ab (show Aw N[k]=true→∀ j,(ah:j < N.length)→j < k+1→Aw N[j]=true from fun e j ah aF=>by
    by_cases aO:j=k
    ·subst aO;exact e
    ·exact Aa ai j ah (by omega))
   have C:=Ab aj;clear ai;generalize N[k]=x at az c1 c2 c3 c4 bc a1 ac o z;have bt:=Ab a1.len;have bu:=a1.small;have f:=H.alloc H.size (.cells #[.int .i64 x.op,.int .i64 x.num,.string x.text,.slice an nn aX,.slice aY aZ a0] 124);have bT:=(Below.refl wr.heap.size wr).alloc NLN (.cells #[.int .i64 x.op,.int .i64 x.num,.string x.text,.slice an nn aX,.slice aY aZ a0] 124);have bv:=bc.below bT NLN;clear bc a1;cases aG:Aw x
   ·have l:=Ab (Aa o aG);have bd:=Ab aG;clear aG o z;go_wp2_with (go_at_call 143;refine (Kh x an nn aX aY aZ a0 _ bv (Aa bt).symm ac bu).mono ?_;rintro e aH ⟨rfl,B⟩;rw[Aa bd])
    go_ret
    exact ⟨Aa l,f.trans (B.mono f.size)⟩
   ·have U:=Ab (Aa z aG);have bd:=Ab aG;clear aG o z;go_wp2_with (go_at_call 143;refine (Kh x an nn aX aY aZ a0 _ bv (Aa bt).symm ac bu).mono ?_;rintro e aH ⟨rfl,B⟩;rw[Aa bd])
    go_roundw
    case rel=>exact ⟨k+1,Aa C,by go_num,f.trans (B.mono f.size),U⟩
    case measure=>have:=Aa C;simp[intOf];omega
  ·have e:k=n:=by omega
   have bw:=Ab (show N.all Aw=true from (GK N).2 (fun j ah=>Aa ai j ah (by have:=Aa ab;omega)));have aI:=Ab (Vj (Aa bw));have bU:=Ab (show (N.map Nd.kids).length=n by rw[zv];exact Aa ab);subst e;have bf:=Ab H;clear ai aj H;go_wp2_with fail
   go_loopw [9,44] (fun v i wr=>∃ (q:Nat) (O:List Int),q≤m∧i= .int .i64 q∧Below w.heap.size w wr∧Hid (∀ j,(h:j < L.length)→j < q→NP L j h=true)∧Hid (Kk (N.map Nd.kids) k ((L.take q).flatMap AD)=O)∧O.length≤4 * k+2 * q∧wr.ownsRow w.heap.size 3 1 v O.length (AF O)) (fun _ i _=>m - (intOf i).toNat)
   case atStart=>exact ⟨0, [],by omega,rfl,Aa bf,Ab (fun j h aF=>absurd aF (by omega)),Ab (by simp[Kk]),by simp,World.ownsRow_nil _ _ _ _⟩
   case round=>
    obtain ⟨q,O,hq,rfl,H,ai,aJ,cf,a2⟩:=hrel;obtain ⟨cg,ch,rfl,bg⟩:=Af a2;by_cases aj:q < m
    ·have bb:(q:Int) < (m:Int):=by omega
     have Q:q < L.length:=by rw[Aa ay];exact aj
     have ac:=h2.sizes L[q] (zP Q);obtain ⟨bq,br,rfl,bs,az,c1,c2,c3⟩:=(h2.below H NLN).cells q Q;have o:=Ab (show CB (decide (q+1=m)) L[q]=false→ED k m N L (.returned (.bool false)) from fun e=>EE (fun h=>by
      have:=(Jn L).1 h.2.2.1 q Q;rw[NP,Aa ay,e] at this;cases this))
     have z:=Ab (show CB (decide (q+1=m)) L[q]=true→∀ j,(h:j < L.length)→j < q+1→NP L j h=true from fun e j ah aF=>by
      by_cases aO:j=q
      ·subst aO;rw[NP,Aa ay];exact e
      ·exact Aa ai j ah (by omega))
     have A:=Ab (show Kk (N.map Nd.kids) k ((L.take (q+1)).flatMap AD)=(AD L[q]).foldl (fun bV r=>Bg (N.map Nd.kids) k r bV) O by rw[NQ L q Q,TB,Aa aJ]);have C:=Ab aj;clear ai aJ bg;generalize L[q]=s at az c1 c2 c3 ac o z A;obtain ⟨kind,name,cond,grant⟩:=s;simp only at az c1 c2 c3 ac;have ad:=Am.new wr #[.int .i64 kind,.string name,.int .i64 cond,.int .i64 grant] 51;have f:=H.alloc H.size (.cells #[.int .i64 kind,.string name,.int .i64 cond,.int .i64 grant] 51);have au:=a2.alloc (.cells #[.int .i64 kind,.string name,.int .i64 cond,.int .i64 grant] 51);have aK:=Vi a2;have bx:(wr.alloc (.cells #[.int .i64 kind,.string name,.int .i64 cond,.int .i64 grant] 51)).heap.size=wr.heap.size+1:=by simp
     have E:=Ab (fun r O=>by have:=Le (K:=N.map Nd.kids) (Aa aI) k r O;rw[Aa bU] at this;exact this);by_cases a3:q+1=m
     ·have bW:((q:Int)==(m:Int) - 1)=true:=zI.2 (by omega);rw[zR a3] at o z;clear a3;by_cases P:kind=1
      ·have e1:(kind== 1)=true:=zI.2 P;subst P;have l:=Ab (Aa o (by simp[CB]));clear o z A E;go_wp2_with fail
       go_ret
       exact ⟨Aa l,f⟩
      have e1:(kind== 1)=false:=zA.2 P;by_cases V:kind=2
      ·have e2:(kind== 2)=true:=zI.2 V;subst V;clear P;have l:=Ab (Aa o (by simp[CB]));clear o z A E;go_wp2_with fail
       go_ret
       exact ⟨Aa l,f⟩
      have e2:(kind== 2)=false:=zA.2 V;by_cases ak:kind=3
      ·have e3:(kind== 3)=true:=zI.2 ak;subst ak;clear P V;by_cases W:name.size=0
       ·have bh:=Ty W;by_cases a4:cond= -1
        ·have bX:(cond== -1)=true:=zI.2 a4;subst a4;by_cases aA: -1≤grant
         ·by_cases aP: 0≤grant
          ·skip;have U:=Ab (Aa z (by simp[CB,W,aA]));obtain ⟨X,aB⟩:∃ X,Hid (Bg (N.map Nd.kids) k grant O=X):=⟨_,Ab rfl⟩
           have bY:X.length≤max O.length (k+3 * k)+1:=by rw[← Aa aB];exact Aa E grant O
           have al:=Ab (show Kk (N.map Nd.kids) k ((L.take (q+1)).flatMap AD)=X by rw[Aa A];rw[← Aa aB];simp[AD,aP]);clear o z A;go_wp2_with (go_at_call 145;refine (Fw _ k c N w w.heap.size h1 NLN T (Aa aI) k grant O _ _ T (.inl (Nat.le_of_eq (Aa ab))) (by omega) f f.size au).mono ?_;rintro e bZ ⟨b0,rfl,aQ,bi,b1⟩;rw[Aa aB] at aQ;have bj:=f.trans bi)
           go_roundw
           case rel=>exact ⟨q+1,X,Aa C,by go_num,bj,U,al,by omega,aQ⟩
           case measure=>have:=Aa C;simp[intOf];omega
          ·skip;have U:=Ab (Aa z (by simp[CB,W,aA]));have al:=Ab (show Kk (N.map Nd.kids) k ((L.take (q+1)).flatMap AD)=O by rw[Aa A];simp[AD,aP]);clear o z A;go_wp2_with fail
           go_roundw
           case rel=>exact ⟨q+1,O,Aa C,by go_num,f,U,al,by omega,au⟩
           case measure=>have:=Aa C;simp[intOf];omega
         ·skip;have l:=Ab (Aa o (by simp[CB,aA]));clear o z A E;go_wp2_with fail
          go_ret
          exact ⟨Aa l,f⟩
        ·have bX:(cond== -1)=false:=zA.2 a4;have l:=Ab (Aa o (by simp[CB,a4]));clear o z A E;go_wp2_with fail
         go_ret
         exact ⟨Aa l,f⟩
       ·have bh:=Ku W;have l:=Ab (Aa o (by simp[CB,W]));clear o z A E;go_wp2_with fail
        go_ret
        exact ⟨Aa l,f⟩
      have e3:(kind== 3)=false:=zA.2 ak;have l:=Ab (Aa o (by simp[CB,P,V,ak]));clear o z A E;go_wp2_with fail
      go_ret
      exact ⟨Aa l,f⟩
     ·have bW:((q:Int)==(m:Int) - 1)=false:=zA.2 (by omega);rw[zK a3] at o z;clear a3;by_cases P:kind=1
      ·have e1:(kind== 1)=true:=zI.2 P;subst P;cases hi:Bh name
       ·have ao:=Ab hi;clear hi;have l:=Ab (Aa o (by simp[CB,Aa ao]));clear o z A E;go_wp2_with (go_at_call 144;refine (DL _ _ ac).mono ?_;rintro e aH ⟨rfl,B⟩;rw[Aa ao];have ap:=f.trans (B.mono f.size);have av:=ad.after B NLN;have a5:=Cr au B NLN;have a6:=B.size;obtain ⟨aL,aM,q2,q3,aN⟩:=DM av)
        go_ret
        exact ⟨Aa l,ap⟩
       ·have ao:=Ab hi;clear hi;by_cases ae: 0≤cond
        ·by_cases a7:grant= -1
         ·have b2:(grant== -1)=true:=zI.2 a7;subst a7;have U:=Ab (Aa z (by simp[CB,Aa ao,ae]));obtain ⟨F,Y⟩:∃ F,Hid (Bg (N.map Nd.kids) k cond O=F):=⟨_,Ab rfl⟩
          have bz:F.length≤max O.length (k+3 * k)+1:=by rw[← Aa Y];exact Aa E cond O
          have ci:=ae;have al:=Ab (show Kk (N.map Nd.kids) k ((L.take (q+1)).flatMap AD)=F by rw[Aa A];rw[← Aa Y];simp[AD,ae]);clear o z A;go_wp2_with (first | (go_at_call 144;refine (DL _ _ ac).mono ?_;rintro e aH ⟨rfl,B⟩;rw[Aa ao];have ap:=f.trans (B.mono f.size);have av:=ad.after B NLN;have a5:=Cr au B NLN;have a6:=B.size;obtain ⟨aL,aM,q2,q3,aN⟩:=DM av) | (go_at_call 145;refine (Fw _ k c N w w.heap.size h1 NLN T (Aa aI) k cond O _ aH T (.inl (Nat.le_of_eq (Aa ab))) (by omega) ap ap.size a5).mono ?_;rintro e bk ⟨aR,rfl,Z,aS,aw⟩;rw[Aa Y] at Z;have aC:=ap.trans aS;have aT:=av.keep aw aK;have bA:aR.ownBlock≠some wr.heap.size:=(fun e=>by rcases aw.2.1 _ e with x | x;exact aK x;(have:=a6;omega));obtain ⟨bB,c4,rfl,_⟩:=Af Z;obtain ⟨bC,bD,bE,bF,bG⟩:=DM aT))
          go_roundw
          case rel=>exact ⟨q+1,F,Aa C,by go_num,aC,U,al,by omega,Z⟩
          case measure=>have:=Aa C;simp[intOf];omega
         ·have b2:(grant== -1)=false:=zA.2 a7;have l:=Ab (Aa o (by simp[CB,Aa ao,a7]));clear o z A E;go_wp2_with (go_at_call 144;refine (DL _ _ ac).mono ?_;rintro e aH ⟨rfl,B⟩;rw[Aa ao];have ap:=f.trans (B.mono f.size);have av:=ad.after B NLN;have a5:=Cr au B NLN;have a6:=B.size;obtain ⟨aL,aM,q2,q3,aN⟩:=DM av)
          go_ret
          exact ⟨Aa l,ap⟩
        ·skip;have l:=Ab (Aa o (by simp[CB,Aa ao,ae]));clear o z A E;go_wp2_with (go_at_call 144;refine (DL _ _ ac).mono ?_;rintro e aH ⟨rfl,B⟩;rw[Aa ao];have ap:=f.trans (B.mono f.size);have av:=ad.after B NLN;have a5:=Cr au B NLN;have a6:=B.size;obtain ⟨aL,aM,q2,q3,aN⟩:=DM av)
         go_ret
         exact ⟨Aa l,ap⟩
      have e1:(kind== 1)=false:=zA.2 P;by_cases V:kind=2
      ·have e2:(kind== 2)=true:=zI.2 V;subst V;clear P;by_cases W:name.size=0
       ·have bh:=Ty W;by_cases ae: 0≤cond
        ·by_cases aA: -1≤grant
         ·by_cases aP: 0≤grant
          ·skip;have U:=Ab (Aa z (by simp[CB,W,ae,aA]));obtain ⟨F,Y⟩:∃ F,Hid (Bg (N.map Nd.kids) k cond O=F):=⟨_,Ab rfl⟩
           have bz:F.length≤max O.length (k+3 * k)+1:=by rw[← Aa Y];exact Aa E cond O
           obtain ⟨X,aB⟩:∃ X,Hid (Bg (N.map Nd.kids) k grant F=X):=⟨_,Ab rfl⟩
           have bY:X.length≤max F.length (k+3 * k)+1:=by rw[← Aa aB];exact Aa E grant F
           have al:=Ab (show Kk (N.map Nd.kids) k ((L.take (q+1)).flatMap AD)=X by rw[Aa A];rw[← Aa aB,← Aa Y];simp[AD,ae,aP]);clear o z A;go_wp2_with (first | (go_at_call 145;refine (Fw _ k c N w w.heap.size h1 NLN T (Aa aI) k grant F _ bk T (.inl (Nat.le_of_eq (Aa ab))) (by omega) aC aC.size Z).mono ?_;rintro e bZ ⟨b0,rfl,aQ,bi,b1⟩;rw[Aa aB] at aQ;have bj:=aC.trans bi) | (go_at_call 145;refine (Fw _ k c N w w.heap.size h1 NLN T (Aa aI) k cond O _ _ T (.inl (Nat.le_of_eq (Aa ab))) (by omega) f f.size au).mono ?_;rintro e bk ⟨aR,rfl,Z,aS,aw⟩;rw[Aa Y] at Z;have aC:=f.trans aS;have aT:=ad.keep aw aK;have bA:aR.ownBlock≠some wr.heap.size:=(fun e=>by rcases aw.2.1 _ e with x | x;exact aK x;(have:=bx;omega));obtain ⟨bB,c4,rfl,_⟩:=Af Z;obtain ⟨bC,bD,bE,bF,bG⟩:=DM aT))
           go_roundw
           case rel=>exact ⟨q+1,X,Aa C,by go_num,bj,U,al,by omega,aQ⟩
           case measure=>have:=Aa C;simp[intOf];omega
          ·skip;have U:=Ab (Aa z (by simp[CB,W,ae,aA]));obtain ⟨F,Y⟩:∃ F,Hid (Bg (N.map Nd.kids) k cond O=F):=⟨_,Ab rfl⟩
           have bz:F.length≤max O.length (k+3 * k)+1:=by rw[← Aa Y];exact Aa E cond O
           have al:=Ab (show Kk (N.map Nd.kids) k ((L.take (q+1)).flatMap AD)=F by rw[Aa A];rw[← Aa Y];simp[AD,ae,aP]);clear o z A;go_wp2_with (go_at_call 145;refine (Fw _ k c N w w.heap.size h1 NLN T (Aa aI) k cond O _ _ T (.inl (Nat.le_of_eq (Aa ab))) (by omega) f f.size au).mono ?_;rintro e bk ⟨aR,rfl,Z,aS,aw⟩;rw[Aa Y] at Z;have aC:=f.trans aS;have aT:=ad.keep aw aK;have bA:aR.ownBlock≠some wr.heap.size:=(fun e=>by rcases aw.2.1 _ e with x | x;exact aK x;(have:=bx;omega));obtain ⟨bB,c4,rfl,_⟩:=Af Z;obtain ⟨bC,bD,bE,bF,bG⟩:=DM aT)
           go_roundw
           case rel=>exact ⟨q+1,F,Aa C,by go_num,aC,U,al,by omega,Z⟩
           case measure=>have:=Aa C;simp[intOf];omega
         ·skip;have l:=Ab (Aa o (by simp[CB,aA]));clear o z A E;go_wp2_with fail
          go_ret
          exact ⟨Aa l,f⟩
        ·skip;have l:=Ab (Aa o (by simp[CB,ae]));clear o z A E;go_wp2_with fail
         go_ret
         exact ⟨Aa l,f⟩
       ·have bh:=Ku W;have l:=Ab (Aa o (by simp[CB,W]));clear o z A E;go_wp2_with fail
        go_ret
        exact ⟨Aa l,f⟩
      have e2:(kind== 2)=false:=zA.2 V;by_cases ak:kind=3
      ·have e3:(kind== 3)=true:=zI.2 ak;subst ak;clear P V;have l:=Ab (Aa o (by simp[CB]));clear o z A E;go_wp2_with fail
       go_ret
       exact ⟨Aa l,f⟩
      have e3:(kind== 3)=false:=zA.2 ak;have l:=Ab (Aa o (by simp[CB,P,V,ak]));clear o z A E;go_wp2_with fail
      go_ret
      exact ⟨Aa l,f⟩
    ·have e:q=m:=by omega
     subst e;have bH:L.take q=L:=zk (by rw[Aa ay];exact NLN);rw[bH] at aJ;clear bH;have b3:=Ab (show Fy L=true from (Jn L).2 (fun j h=>Aa ai j h (by have:=Aa ay;omega)));have a8:=Ab (show Jm N L↔Fy L=true∧O.length=k∧good O∧∀ r∈L.flatMap AD,Bm (N.map Nd.kids) k r≤64 by
      rw[Jm,Aa ab];rw[← Aa aJ];exact Iff.rfl)
     have bI:=Ab bg;clear ai bg;by_cases aU:O.length=k
     case neg=>
      have b4:((O.length:Int) !=(k:Int))=true:=zw.2 (by omega);have l:=Ab (EE (n:=k) (m:=q) (N:=N) (L:=L) (fun h=>aU ((Aa a8).1 h.2.2).2.1));clear aU;go_wp2_with fail
      go_ret
      exact ⟨Aa l,H⟩
     have b4:((O.length:Int) !=(k:Int))=false:=by rw[aU];simp
     have bJ:=Ab aU;clear aU;go_wp2_with fail
     go_loop [138] (fun i=>∃ j:Nat,j≤O.length∧i= .int .i64 j∧Hid (∀ p,(h:p < O.length)→p < j→O[p]=(p:Int))) (fun i=>O.length - (intOf i).toNat)
     case atStart=>exact ⟨0,by omega,rfl,Ab (fun p h aF=>absurd aF (by omega))⟩
     case round=>
      obtain ⟨j,ah,rfl,a9⟩:=hrel;by_cases bl:j < O.length
      ·have b5:(j:Int) < (O.length:Int):=by omega
       obtain ⟨g,rfl,cj,bK⟩:=Aa bI (by omega);have b6:=bK j _ (show (AF O)[j]? =some (.int .i64 O[j]) by rw[AF,zd,zM bl];rfl);have J:=Ab (show O[j]=(j:Int)→∀ p,(h:p < O.length)→p < j+1→O[p]=(p:Int) from fun e p h aF=>by
        by_cases aO:p=j
        ·subst aO;exact e
        ·exact Aa a9 p h (by omega))
       have M:=Ab (show O[j]≠(j:Int)→ED k q N L (.returned (.bool false)) from fun e=>EE (fun h=>e ((Tv O).1 ((Aa a8).1 h.2.2).2.2.1 j bl)));have bL:=Ab bl;clear bK a9;generalize O[j]=y at b6 J M;by_cases hy:y=(j:Int)
       ·have b7:((j:Int) != y)=false:=by rw[hy];simp
        have aq:=Ab (Aa J hy);clear hy J M;go_wp2_with fail
        go_round
        case rel=>exact ⟨j+1,Aa bL,by go_num,aq⟩
        case measure=>have:=Aa bL;simp[intOf];omega
       ·have b7:((j:Int) != y)=true:=zw.2 (fun e=>hy e.symm);have l:=Ab (Aa M hy);clear hy J M;go_wp2_with fail
        go_ret
        exact ⟨Aa l,H⟩
      ·have bM:=Ab (show good O from (Tv O).2 (fun p h=>Aa a9 p h (by omega)));have bN:=Ab (Vk (N:=N) (n:=k) (rs:=L.flatMap AD) (Aa ab) (by rw[Aa aJ];exact Aa bJ) (by rw[Aa aJ];exact Aa bM));have b5: ¬ ((j:Int) < (O.length:Int)):=by omega
       have bf:=Ab H;clear a9 bI a2 H;go_wp2_with fail
       go_loopw [149] (fun i wr=>∃ p:Nat,p≤q∧i= .int .i64 p∧Below w.heap.size w wr∧Hid (∀ r∈(L.take p).flatMap AD,Bm (N.map Nd.kids) k r≤64)) (fun i _=>q - (intOf i).toNat)
       case atStart=>exact ⟨0,by omega,rfl,Aa bf,Ab (by simp)⟩
       case round=>
        obtain ⟨p,hp,rfl,H,ba⟩:=hrel;by_cases aj:p < q
        ·have bb:(p:Int) < (q:Int):=by omega
         have Q:p < L.length:=by rw[Aa ay];exact aj
         obtain ⟨bq,br,rfl,bs,az,c1,c2,c3⟩:=(h2.below H NLN).cells p Q;have R:=Ab (show ∀ r∈AD L[p],(0≤r∧r < (k:Int))∧r∈L.flatMap AD from fun r I=>by
          have hm:r∈L.flatMap AD:=List.mem_flatMap.2 ⟨L[p],zP Q,I⟩;exact ⟨(Aa bN).2 r hm,hm⟩)
         have M:=Ab (show ∀ r∈AD L[p],¬ Bm (N.map Nd.kids) k r≤64→ED k q N L (.returned (.bool false)) from fun r I e=>EE (fun h=>e (((Aa a8).1 h.2.2).2.2.2 r (Aa R r I).2)));have S:=Ab (show (∀ r∈AD L[p],Bm (N.map Nd.kids) k r≤64)→∀ r∈(L.take (p+1)).flatMap AD,Bm (N.map Nd.kids) k r≤64 from fun e r I=>by
          rw[NQ L p Q] at I;rcases zH.1 I with x | x
          ·exact Aa ba r x
          ·exact e r x)
         have C:=Ab aj;clear ba;generalize L[p]=s at az c1 c2 c3 R M S;obtain ⟨kind,name,cond,grant⟩:=s;simp only at az c1 c2 c3;have ad:=Am.new wr #[.int .i64 kind,.string name,.int .i64 cond,.int .i64 grant] 51;have f:=H.alloc H.size (.cells #[.int .i64 kind,.string name,.int .i64 cond,.int .i64 grant] 51);have ax:=Ab (Aa bN).1;have bm:=Ab (Lf (N.map Nd.kids) k);by_cases it: 0≤cond
         ·skip;obtain ⟨⟨ck,cl⟩,_⟩:=Aa R cond (by simp[AD,it]);obtain ⟨t,rfl⟩:∃ t:Nat,cond=(t:Int):=⟨cond.toNat,by omega⟩
          obtain ⟨D,af⟩:∃ D,Hid (Bm (N.map Nd.kids) k (t:Int)=D):=⟨_,Ab rfl⟩
          have cm:D≤k+1:=by rw[← Aa af];exact Aa bm _
          by_cases cn: 64 < D
          ·skip;have b8:(64 :Int) < (D:Int):=by omega
           have l:=Ab (Aa M (t:Int) (by simp[AD,it]) (by rw[Aa af];omega));clear M S R;go_wp2_with (go_at_call 39;refine (CG _ k c N w h1 (Aa ax) k t _ (by omega) (by omega) (by omega) f).mono ?_;rintro e aV ⟨rfl,ag⟩;rw[Aa af];have aa:=f.trans (ag.mono f.size))
           go_ret
           exact ⟨Aa l,aa⟩
          ·have b8: ¬ ((64 :Int) < (D:Int)):=by omega
           by_cases ar: 0≤grant
           ·skip;obtain ⟨⟨b9,ca⟩,_⟩:=Aa R grant (by simp[AD,ar]);obtain ⟨u,rfl⟩:∃ u:Nat,grant=(u:Int):=⟨grant.toNat,by omega⟩
            obtain ⟨G,J⟩:∃ G,Hid (Bm (N.map Nd.kids) k (u:Int)=G):=⟨_,Ab rfl⟩
            have cb:G≤k+1:=by rw[← Aa J];exact Aa bm _
            by_cases cc: 64 < G
            ·skip;have bn:(64 :Int) < (G:Int):=by omega
             have l:=Ab (Aa M (u:Int) (by simp[AD,ar]) (by rw[Aa J];omega));clear M S R;go_wp2_with (first | (go_at_call 39;refine (CG _ k c N w h1 (Aa ax) k u aV (by omega) (by omega) (by omega) aa).mono ?_;rintro e bo ⟨rfl,aD⟩;rw[Aa J];have aE:=aa.trans (aD.mono aa.size)) | (go_at_call 39;refine (CG _ k c N w h1 (Aa ax) k t _ (by omega) (by omega) (by omega) f).mono ?_;rintro e aV ⟨rfl,ag⟩;rw[Aa af];have aa:=f.trans (ag.mono f.size);obtain ⟨aL,aM,q2,q3,aN⟩:=DM (ad.after ag NLN)))
             go_ret
             exact ⟨Aa l,aE⟩
            ·skip;have bn: ¬ ((64 :Int) < (G:Int)):=by omega
             have aq:=Ab (Aa S (by intro r I;simp[AD,it,ar] at I;rcases I with rfl | rfl;rw[Aa af];omega;rw[Aa J];omega));clear M S R;go_wp2_with (first | (go_at_call 39;refine (CG _ k c N w h1 (Aa ax) k u aV (by omega) (by omega) (by omega) aa).mono ?_;rintro e bo ⟨rfl,aD⟩;rw[Aa J];have aE:=aa.trans (aD.mono aa.size)) | (go_at_call 39;refine (CG _ k c N w h1 (Aa ax) k t _ (by omega) (by omega) (by omega) f).mono ?_;rintro e aV ⟨rfl,ag⟩;rw[Aa af];have aa:=f.trans (ag.mono f.size);obtain ⟨aL,aM,q2,q3,aN⟩:=DM (ad.after ag NLN)))
             go_roundw
             case rel=>exact ⟨p+1,Aa C,by go_num,aE,aq⟩
             case measure=>have:=Aa C;simp[intOf];omega
           ·skip;have aq:=Ab (Aa S (by intro r I;simp[AD,it,ar] at I;rw[I,Aa af];omega));clear M S R;go_wp2_with (go_at_call 39;refine (CG _ k c N w h1 (Aa ax) k t _ (by omega) (by omega) (by omega) f).mono ?_;rintro e aV ⟨rfl,ag⟩;rw[Aa af];have aa:=f.trans (ag.mono f.size);obtain ⟨aL,aM,q2,q3,aN⟩:=DM (ad.after ag NLN))
            go_roundw
            case rel=>exact ⟨p+1,Aa C,by go_num,aa,aq⟩
            case measure=>have:=Aa C;simp[intOf];omega
         ·by_cases ar: 0≤grant
          ·skip;obtain ⟨⟨b9,ca⟩,_⟩:=Aa R grant (by simp[AD,ar]);obtain ⟨u,rfl⟩:∃ u:Nat,grant=(u:Int):=⟨grant.toNat,by omega⟩
           obtain ⟨G,J⟩:∃ G,Hid (Bm (N.map Nd.kids) k (u:Int)=G):=⟨_,Ab rfl⟩
           have cb:G≤k+1:=by rw[← Aa J];exact Aa bm _
           by_cases cc: 64 < G
           ·skip;have bn:(64 :Int) < (G:Int):=by omega
            have l:=Ab (Aa M (u:Int) (by simp[AD,ar]) (by rw[Aa J];omega));clear M S R;go_wp2_with (go_at_call 39;refine (CG _ k c N w h1 (Aa ax) k u _ (by omega) (by omega) (by omega) f).mono ?_;rintro e bo ⟨rfl,aD⟩;rw[Aa J];have aE:=f.trans (aD.mono f.size))
            go_ret
            exact ⟨Aa l,aE⟩
           ·skip;have bn: ¬ ((64 :Int) < (G:Int)):=by omega
            have aq:=Ab (Aa S (by intro r I;simp[AD,it,ar] at I;rw[I,Aa J];omega));clear M S R;go_wp2_with (go_at_call 39;refine (CG _ k c N w h1 (Aa ax) k u _ (by omega) (by omega) (by omega) f).mono ?_;rintro e bo ⟨rfl,aD⟩;rw[Aa J];have aE:=f.trans (aD.mono f.size))
            go_roundw
            case rel=>exact ⟨p+1,Aa C,by go_num,aE,aq⟩
            case measure=>have:=Aa C;simp[intOf];omega
          ·skip;have aq:=Ab (Aa S (by intro r I;simp[AD,it,ar] at I));clear M S R;go_wp2_with fail
           go_roundw
           case rel=>exact ⟨p+1,Aa C,by go_num,f,aq⟩
           case measure=>have:=Aa C;simp[intOf];omega
        ·have af:=Ab (show ∀ r∈L.flatMap AD,Bm (N.map Nd.kids) k r≤64 by
          have e:L.take p=L:=zk (by rw[Aa ay];omega);have:=Aa ba;rw[e] at this;exact this)
         have l:=Ab (show ED k q N L (.returned (.bool true)) from ⟨true,rfl,⟨fun _=>⟨⟨T,bS,bR⟩,Aa bw,(Aa a8).2 ⟨Aa b3,Aa bJ,Aa bM,Aa af⟩⟩,fun _=>rfl⟩⟩);have bb: ¬ ((p:Int) < (q:Int)):=by omega
         clear ba;go_wp2_with fail
         go_ret
         exact ⟨Aa l,H⟩
set_option maxHeartbeats 800000
theorem Vl (N:List Nd)(L:List St):EF N L=true↔∃ S,CJ (N.map Nd.kids) N.length [] 0=some S∧Av S=L.flatMap As:=by
 rw[EF];cases h:CJ (N.map Nd.kids) N.length [] 0 with
 |none=>simp
 |some S=>simp
theorem Pn (N:List Nd)(L:List St):By N L=true↔(N.length≤4000∧1≤L.length∧L.length≤600)∧N.all Aw=true∧Jm N L:=by
 rw[← Vh,Z3,← Vl,By];simp only[zE,zF];constructor
 ·rintro ⟨⟨⟨h1,h2,h3⟩,h4⟩,h5⟩;exact ⟨⟨h1,h2⟩,h4,h3,h5⟩
 ·rintro ⟨⟨h1,h2⟩,h4,h3,h5⟩;exact ⟨⟨⟨h1,h2,h3⟩,h4⟩,h5⟩
theorem Vm {n m:Nat}{N:List Nd}{L:List St}{e:Ending}(h:ED n m N L e)(a:N.length=n)(hm:L.length=m):e= .returned (.bool (By N L)):=by
 obtain ⟨b,rfl,c⟩:=h;have:b=By N L:=by
  rw[zO,c,Pn,a,hm]
 rw[this]
theorem KV (a b:Option Addr)(n c m d:Nat)(N:List Nd)(L:List St)(w:World)(h1:IZ w a n c N)(h2:PO w b m d L):
  Calls Tryz.prog 65 #[.agg #[.slice a n c,.slice b m d]] w fun e w'=>e= .returned (.bool (By N L))∧Below w.heap.size w w':=by
 have f:=(Below.refl w.heap.size w).alloc NLN (.cells #[.slice a n c,.slice b m d] 27);have g:=Ab h1.len;have h:=Ab h2.len;go_enter Tryz.func65,Tryz.ntmps65
 go_wp2_with (go_at_call 113;refine (TA _ _ _ _ _ _ N L _ (h1.below f NLN) (h2.below f NLN)).mono ?_;rintro e k ⟨he,i⟩;have j:=Vm he (Aa g) (Aa h);subst j;clear he)
 go_ret
 exact ⟨rfl,f.trans (i.mono f.size)⟩
end Go.Proofs.YtffkofkjpckmpaaGreatDoor
