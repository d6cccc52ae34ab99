/-
  Slices0, VPR, Slices. Own work.
-/
import Derived.Test.YtffkofkjpckmpaaGreatDoorMXAE
import Derived.Test.YtffkofkjpckmpaaGreatDoorMXAD
import Derived.RegionTactic
import Derived.ChangeAlike
import Derived.Deep.QuietTactic
import Derived.BigQuiet
import Derived.Test.YtffkofkjpckmpaaGreatDoorMXAH
import Derived.Test.YtffkofkjpckmpaaGreatDoorMXAI
namespace Go.Proofs.YtffkofkjpckmpaaGreatDoor
set_option maxHeartbeats 800000
open Go.RowKit
theorem JZ (a:Option Addr)(n c:Nat)(d:List ByteArray)(w:World)(h:BL w a n c d):
  Calls Tryz.prog 108 #[.slice a n c] w fun e w'=>e= .returned (.bool (Ks d))∧w'=w:=by
 have t:n≤9223372036854775807:=by have:=h.cap;have:=h.small;unfold maxLen at this;omega
 go_enter Tryz.func108,Tryz.ntmps108
 go_wp2
 go_loop [4,7] (fun _ i=>∃ k:Nat,k≤n∧i= .int .i64 k∧∀ j,j < k→vnB (D0 d j)=true) (fun _ i=>n - (intOf i).toNat)
 case atStart=>exact ⟨0,zN _,rfl,fun j l=>by omega⟩
 case round=>
  obtain ⟨k,hk,rfl,m⟩:=hrel;have o:=Ab m;clear m;by_cases p:k < n
  ·obtain ⟨b,u,r,_,hc⟩:=h.cells k p;have q:=h.sizes k p;subst r;cases f:vnB (D0 d k)
   ·have g:=Ab f;have s:=Ab (Tb d k (by have:=h.len;omega) f);clear f;go_wp2_with (go_at_call 138;refine (H9 _ _ q).mono ?_;rintro e w' ⟨rfl,rfl⟩;rw[Aa g])
    go_ret
    exact ⟨Ah (Aa s).symm,rfl⟩
   ·have g:=Ab f;clear f;go_wp2_with (go_at_call 138;refine (H9 _ _ q).mono ?_;rintro e w' ⟨rfl,rfl⟩;rw[Aa g])
    go_round
    case rel=>
     refine ⟨k+1,by omega,by go_num,fun j l=>?_⟩
     by_cases e:j=k
     ·subst e;exact Aa g
     ·exact Aa o j (by omega)
    case measure=>simp[intOf];omega
  ·go_wp2
   go_ret
   exact ⟨Ah (We d fun j l=>Aa o j (by have:=h.len;omega)).symm,rfl⟩
set_option linter.unusedVariables false
structure Nd where
 op:Int
 num:Int
 text:ByteArray
 names:List ByteArray
 kids:List Int
structure St where
 kind:Int
 name:ByteArray
 cond:Int
 grant:Int
def Eg (op:Int):Int:=if 1≤op∧op≤7 then 0 else if 8≤op∧op≤10 then 1 else if 11≤op∧op≤26 then 2 else if op=27 then 3 else -1
def Bh (s:ByteArray):Bool:=match Aj s with
 | []=>false
 |c ::r=>decide ((c ::r).length≤32) && Jt c && (c ::r).all Dk && !Fc (c ::r)
def Bk (s:ByteArray):Bool:=decide (s.size≤32) && (Aj s).all Jo
def Aw (x:Nd):Bool:=
 decide ((x.kids.length:Int)=Eg x.op) &&
 (if x.op=1 then decide (0≤x.num) && decide (x.text.size=0) && decide (x.names.length=0)
   else if x.op=2 then Bk x.text && decide (x.num=0) && decide (x.names.length=0)
   else if x.op=3 then decide (x.num=0∨x.num=1) && decide (x.text.size=0) && decide (x.names.length=0)
   else if x.op=4 then EK x.names && decide (x.num=0) && decide (x.text.size=0)
   else if x.op=5 then Bh x.text && decide (x.num=0) && decide (x.names.length=0)
   else if x.op=6∨x.op=7 then false
   else decide (x.num=0) && decide (x.text.size=0) && decide (x.names.length=0))
def CB (last:Bool) (s:St):Bool:=
 if s.kind=1 then !last && Bh s.name && decide (0≤s.cond) && decide (s.grant= -1)
 else if s.kind=2 then !last && decide (s.name.size=0) && decide (0≤s.cond) && decide (-1≤s.grant)
 else if s.kind=3 then last && decide (s.name.size=0) && decide (s.cond= -1) && decide (-1≤s.grant)
 else false
def CT (s:St):Bool:=
 if s.kind=1 then Bh s.name && decide (s.grant= -1)
 else if s.kind=2 then decide (s.name.size=0)
 else if s.kind=3 then decide (s.name.size=0) && decide (s.cond= -1)
 else false
def AD (s:St):List Int:=(if 0≤s.cond then [s.cond] else []) ++(if 0≤s.grant then [s.grant] else [])
def As (s:St):List Int:=(if s.kind≠3 then [s.cond] else []) ++(if s.grant≠-1 then [s.grant] else [])
def Fy:List St→Bool
 | []=>true
 |s ::r=>CB r.isEmpty s && Fy r
def BK:List St→Bool
 | []=>true
 |s ::r=>CT s && (decide (s.kind=3)== r.isEmpty) && BK r
theorem Jl:∀ (L:List St),(∀ x∈L.flatMap As,0≤x)→(BK L=true↔Fy L=true)
 | [],_=>Iff.rfl
 |s ::r,h=>by
  have f:=Jl r (fun x hx=>h x (by rw[zi];exact zV _ hx));have hs:∀ x∈As s,0≤x:=fun x hx=>h x (by rw[zi];exact za _ hx);rw[BK,Fy,zE,zE,zE,f];have e:(CT s=true∧(decide (s.kind=3)== r.isEmpty)=true)↔CB r.isEmpty s=true:=by
   have hc:s.kind≠3→0≤s.cond:=fun k=>hs _ (by rw[As,if_pos k];simp);have a:s.grant≠-1→0≤s.grant:=fun k=>hs _ (by rw[As,if_pos k];simp);generalize r.isEmpty=last;unfold CT CB;by_cases b:s.kind=1
   ·simp[b];have:=hc (by omega);cases last <;> simp[this]
   ·by_cases c:s.kind=2
    ·simp[c];have h1:=hc (by omega);have h2: -1≤s.grant:=by by_cases k:s.grant= -1;omega;have:=a k;omega
     cases last <;> simp[h1,h2]
    ·by_cases d:s.kind=3
     ·simp[d];have h2: -1≤s.grant:=by by_cases k:s.grant= -1;omega;have:=a k;omega
      cases last <;> simp[h2]
     ·simp[b,c,d]
  rw[← e,and_assoc]
theorem Tx:∀ {last:Bool} {s:St},CB last s=true→AD s=As s∧∀ x∈As s,0≤x:=by
 intro last s h;unfold CB at h;unfold AD As;by_cases d:s.kind=1
 ·simp[d] at h;obtain ⟨⟨_,h1⟩,h2⟩:=h;simp[d,h1,h2]
 ·by_cases b:s.kind=2
  ·simp[b] at h;obtain ⟨⟨_,h1⟩,h2⟩:=h;by_cases a:s.grant= -1
   ·simp[b,h1,a]
   ·have: 0≤s.grant:=by omega
    simp[b,h1,a,this]
  ·by_cases c:s.kind=3
   ·simp[c] at h;obtain ⟨⟨_,h1⟩,h2⟩:=h;by_cases a:s.grant= -1
    ·simp[c,h1,a]
    ·have: 0≤s.grant:=by omega
     simp[c,h1,a,this]
   ·simp[d,b,c] at h
theorem Lj:∀ {L:List St},Fy L=true→L.flatMap AD=L.flatMap As∧∀ x∈L.flatMap As,0≤x
 | [],_=>⟨rfl,fun x hx=>by cases hx⟩
 |s ::r,h=>by
  rw[Fy,zE] at h;obtain ⟨e1,h1⟩:=Tx h.1;obtain ⟨e2,h2⟩:=Lj h.2;refine ⟨by rw[zi,zi,e1,e2],fun x hx=>?_⟩;rw[zi] at hx;rcases zH.1 hx with k | k
  ·exact h1 x k
  ·exact h2 x k
def Jm (N:List Nd) (L:List St):Prop:=
 Fy L=true∧((L.flatMap AD).foldl (fun o k=>Bg (N.map Nd.kids) N.length k o) []).length=N.length∧good ((L.flatMap AD).foldl (fun o k=>Bg (N.map Nd.kids) N.length k o) [])∧∀ r∈L.flatMap AD,Bm (N.map Nd.kids) N.length r≤64
def Z3 (N:List Nd) (L:List St):Prop:=BK L=true∧∃ S,CJ (N.map Nd.kids) N.length [] 0=some S∧Av S=L.flatMap As
theorem Vh (N:List Nd)(L:List St):Z3 N L↔Jm N L:=by
 have hs:=XP (N.map Nd.kids) (L.flatMap As);rw[zv] at hs;constructor
 ·rintro ⟨h1,S,h2,h3⟩;have h0:∀ x∈L.flatMap As,0≤x:=by
   rw[← h3];intro x hx;obtain ⟨p,_,rfl⟩:=zb.1 hx;omega
  have h4:=(Jl L h0).1 h1;have e:=(Lj h4).1;unfold Jm;rw[e];exact ⟨h4,hs.2 ⟨S,h2,h3⟩⟩
 ·rintro ⟨h1,h2⟩;obtain ⟨e,h0⟩:=Lj h1;rw[e] at h2;exact ⟨(Jl L h0).2 h1,hs.1 h2⟩
set_option maxHeartbeats 1600000
theorem Jg (a:Option Addr)(n c:Nat)(d:List ByteArray)(w:World)(h:BL w a n c d):
  Calls Tryz.prog 109 #[.slice a n c] w fun e w'=>e= .returned (.bool (Fz d))∧Below w.heap.size w w':=by
 have s:n≤9223372036854775807:=by have:=h.cap;have:=h.small;unfold maxLen at this;omega
 have t:=Ab h.len;go_enter Tryz.func109,Tryz.ntmps109
 go_wp2
 go_loopw [3] (fun i wr=>∃ k:Nat,0 < k∧(k≤n∨k=1)∧i= .int .i64 k∧(∀ j,0 < j→j < k→sl (D0 d (j - 1)) (D0 d j)=true)∧Below w.heap.size w wr) (fun i _=>n+1 - (intOf i).toNat)
 case atStart=>exact ⟨1,by omega,.inr rfl,rfl,fun j f l=>by omega,BRN⟩
 case round=>
  obtain ⟨k,u,hk,rfl,m,g⟩:=hrel;have o:=Ab m;clear m;by_cases p:k < n
  ·obtain ⟨b,v,q,x,hc⟩:=(h.below g NLN).at (by omega);have y:=hc (k - 1) (by omega);have z:=hc k p;clear hc;subst q;have A:(0 :Int)≤(k:Int) - 1:=by omega
   have B:(k:Int) - 1 < (n:Int):=by omega
   have C:(k:Int) < (n:Int):=by omega
   have E:((k:Int) - 1).toNat=k - 1:=by omega
   cases hs:Op.bytesLess (D0 d (k - 1)).toList (D0 d k).toList
   ·have r:=Ab (Tc d (k - 1) k (by omega) (by have:=h.len;omega) hs);go_wp2
    go_quiet (fail)
    go_wp2
    go_ret
    exact ⟨Ah (Aa r).symm,below_drewN g _⟩
   ·go_wp2
    go_quiet (fail)
    go_wp2
    go_roundw
    case rel=>
     refine ⟨k+1,by omega,.inl (by omega),by go_num,fun j f l=>?_, ?_⟩
     ·by_cases e:j=k
      ·subst e;exact hs
      ·exact Aa o j f (by omega)
     ·exact below_drewN g _
    case measure=>simp[intOf];omega
  ·go_wp2
   go_ret
   exact ⟨Ah (QI d fun j f l=>Aa o j f (by have:=h.len;omega)).symm,g⟩
theorem Nq (a:Option Addr)(n c:Nat)(b:List ByteArray)(w:World)(h:BL w a n c b):
  Calls Tryz.prog 58 #[.slice a n c] w fun e w'=>e= .returned (.bool (EK b))∧Below w.heap.size w w':=by
 have hl:=h.len;by_cases k:n≤64
 ·have g:(n:Int)≤64:=by omega
  have f:=Ab (Ja b (by omega));clear hl;cases i:Ks b
  ·have d:=Ab i;clear i;go_enter Tryz.func58,Tryz.ntmps58
   go_wp2_with (go_at_call 108;refine (JZ _ _ _ _ _ h).mono ?_;rintro e w' ⟨rfl,rfl⟩;rw[Aa d])
   go_ret
   exact ⟨Ah (by rw[Aa f,Aa d];rfl),BRN⟩
  ·have d:=Ab i;clear i;go_enter Tryz.func58,Tryz.ntmps58
   go_wp2_with (first | (go_at_call 108;refine (JZ _ _ _ _ _ h).mono ?_;rintro e w' ⟨rfl,rfl⟩;rw[Aa d]) | (go_at_call 109;refine (Jg _ _ _ _ _ h).mono ?_;rintro e w' ⟨rfl,j⟩))
   go_ret
   exact ⟨Ah (by rw[Aa f,Aa d];rfl),j⟩
 ·have g:(64 :Int) < (n:Int):=by omega
  have f:=Ab (Pu b (by omega));clear hl;go_enter Tryz.func58,Tryz.ntmps58
  go_wp2
  go_ret
  exact ⟨Ah (Aa f).symm,BRN⟩
theorem Nr (a:Option Addr)(n c:Nat)(d:List ByteArray)(w:World)(h:BL w a n c d):
  Calls Tryz.prog 160 #[.slice a n c] w fun e w'=>e= .returned (.bool (EK d))∧w'=w:=by
 have hl:=h.len;by_cases H:n≤64
 ·have g:(n:Int)≤64:=by omega
  have l:=Ab (Ja d (by omega));have o:=Ab hl;clear hl;go_enter Tryz.func160,Tryz.ntmps160
  go_wp2
  go_loop [2,3,4,5,11] (fun _ _ _ _ i=>∃ k:Nat,k≤n∧i= .int .i64 k∧(∀ j,j < k→vnB (D0 d j)=true)∧(∀ i j,i < k→i < j→j < n→sl (D0 d i) (D0 d j)=true)) (fun _ _ _ _ i=>n - (intOf i).toNat)
  case atStart=>exact ⟨0,zN _,rfl,fun j f=>by omega,fun i j hi=>by omega⟩
  case round=>
   obtain ⟨k,hk,rfl,t,hp⟩:=hrel;have u:=Ab t;have v:=Ab hp;clear t hp;by_cases x:k < n
   ·obtain ⟨b,I,A,_,hc⟩:=h.at (by omega);have J:=hc k x;have B:=Ab hc;clear hc;have y:=h.sizes k x;subst A;cases p:vnB (D0 d k)
    ·have q:=Ab p;have s:=Ab (Tb d k (by have:=Aa o;omega) p);clear p;go_wp2_with (go_at_call 170;refine (Fo _ _ y).mono ?_;rintro e w' ⟨rfl,rfl⟩;rw[Aa q])
     go_ret
     exact ⟨Ah (by rw[Aa l,Aa s];rfl),rfl⟩
    ·have q:=Ab p;clear p;go_wp2_with (go_at_call 170;refine (Fo _ _ y).mono ?_;rintro e w' ⟨rfl,rfl⟩;rw[Aa q])
     go_loop [5] (fun i=>∃ m:Nat,k < m∧m≤n∧i= .int .i64 m∧∀ j,k < j→j < m→sl (D0 d k) (D0 d j)=true) (fun i=>n - (intOf i).toNat)
     case atStart=>exact ⟨k+1,by omega,by omega,by go_num,fun j f C=>by omega⟩
     case round=>
      obtain ⟨m,E,hm,rfl,hq⟩:=hrel;have z:=Ab hq;clear hq;by_cases F:m < n
      ·have K:=Aa B m F;cases hs:Op.bytesLess (D0 d k).toList (D0 d m).toList
       ·have s:=Ab (Tc d k m E (by have:=Aa o;omega) hs);go_wp2
        go_ret
        exact ⟨Ah (by rw[Aa l,Aa s,Bool.and_false]),rfl⟩
       ·go_wp2
        go_round
        case rel=>
         refine ⟨m+1,by omega,by omega,by go_num,fun j f C=>?_⟩
         by_cases e:j=m
         ·subst e;exact hs
         ·exact Aa z j f (by omega)
        case measure=>simp[intOf];omega
      ·go_wp2
       go_round
       case rel=>
        refine ⟨k+1,by omega,by go_num,fun j f=>?_,fun i j hi r f=>?_⟩
        ·by_cases e:j=k
         ·subst e;exact Aa q
         ·exact Aa u j (by omega)
        ·by_cases e:i=k
         ·subst e;exact Aa z j r (by omega)
         ·exact Aa v i j (by omega) r f
       case measure=>simp[intOf];omega
   ·go_wp2
    go_ret
    have e1:Ks d=true:=We d fun j f=>Aa u j (by have:=Aa o;omega);have e2:Fz d=true:=(Np d).2 fun i j r f=>Aa v i j (by have:=Aa o;omega) r (by have:=Aa o;omega);exact ⟨Ah (by rw[Aa l,e1,e2];rfl),rfl⟩
 ·have g:(64 :Int) < (n:Int):=by omega
  have l:=Ab (Pu d (by omega));clear hl;go_enter Tryz.func160,Tryz.ntmps160
  go_wp2
  go_ret
  exact ⟨Ah (Aa l).symm,rfl⟩
end Go.Proofs.YtffkofkjpckmpaaGreatDoor
