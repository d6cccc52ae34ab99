import Derived.Test.YtppafecmccdplaaGreatNames
import Derived.Test.YtppafecmccdplaaGreatMXAB
open Go.Proofs.Tryz
open Bool renaming true->R,false->jA
open Go.Proofs.Tryz renaming prog->jL
namespace Go.Proofs.YtppafecmccdplaaGreat
set_option maxHeartbeats 800000
open Go.RowKit
variable {K:List (List Int)}{d:List (Nat×Nat)}{l:List Int}{a b:Nat}
theorem MW (a:Option Addr)(n c:Nat)(ss:List ByteArray)(w:World)(h:AJ w a n c ss):
  Calls jL 89 #[.slice a n c] w fun e w'=>e= .returned (.bool (JF ss))/\w'=w:=by
 have r:n<=9223372036854775807:=by have:=h.cap;have:=h.small;unfold maxLen at this;omega
 go_enter func89,ntmps89
 go_wp2
 go_loop [4,7] (fun _ i=>∃k:Nat,k<=n/\i= .int .i64 k/\∀j,j<k->vnB (Ck ss j)=R) (fun _ i=>n-(intOf i).toNat)
 case atStart=>exact⟨0,zE _,rfl,fun j f=>by omega⟩
 case round=>
  obtain⟨k,hk,rfl,g⟩:=hrel;have l:=Ab g;clear g;by_cases m:k<n
  ·obtain⟨b,s,p,_,hc⟩:=h.cells k m;have o:=h.sizes k m;subst p;cases hv:vnB (Ck ss k)
   ·have d:=Ab hv;have q:=Ab (Xj ss k (by have:=h.len;omega) hv);clear hv;go_wp2_with (go_at_call 109;refine(Ke _ _ o).mono ?_;rintro e w' ⟨rfl,rfl⟩;rw[Aa d])
    go_ret
    exact⟨Ag (Aa q).symm,rfl⟩
   ·have d:=Ab hv;clear hv;go_wp2_with (go_at_call 109;refine(Ke _ _ o).mono ?_;rintro e w' ⟨rfl,rfl⟩;rw[Aa d])
    go_round
    case rel=>
     refine⟨k+1,by omega,by go_num,fun j f=>?_⟩
     by_cases e:j=k
     ·subst e;exact Aa d
     ·exact Aa l j (by omega)
    case measure=>simp[intOf];omega
  ·go_wp2
   go_ret
   exact⟨Ag (Aae ss fun j f=>Aa l j (by have:=h.len;omega)).symm,rfl⟩
set_option maxHeartbeats 1600000
theorem Ma (a:Option Addr)(n c:Nat)(ss:List ByteArray)(w:World)(h:AJ w a n c ss):
  Calls jL 90 #[.slice a n c] w fun e w'=>e= .returned (.bool (Fo ss))/\An w w':=by
 have r:n<=9223372036854775807:=by have:=h.cap;have:=h.small;unfold maxLen at this;omega
 go_enter func90,ntmps90
 go_wp2
 go_loopw [3] (fun i wr=>∃k:Nat,0<k/\(k<=n\/k=1)/\i= .int .i64 k/\(∀j,0<j->j<k->sl (Ck ss (j-1)) (Ck ss j)=R)/\An w wr) (fun i _=>n+1-(intOf i).toNat)
 case atStart=>exact⟨1,by omega,.inr rfl,rfl,fun j d g=>by omega,BRN⟩
 case round=>
  obtain⟨k,s,hk,rfl,l,f⟩:=hrel;have m:=Ab l;clear l;by_cases o:k<n
  ·obtain⟨b,t,p,u,hc⟩:=(h.below f NLN).at (by omega);have v:=hc (k-1) (by omega);have x:=hc k o;clear hc;subst p;have y:(0 :Int)<=(k:Int)-1:=by omega
   have z:(k:Int)-1<(n:Int):=by omega
   have A:(k:Int)<(n:Int):=by omega
   have B:((k:Int)-1).toNat=k-1:=by omega
   cases hs:Op.bytesLess (Ck ss (k-1)).toList (Ck ss k).toList
   ·have q:=Ab (Xk ss (k-1) k (by omega) (by have:=h.len;omega) hs);go_wp2
    go_quiet (fail)
    go_wp2
    go_ret
    exact⟨Ag (Aa q).symm,below_drewN f _⟩
   ·go_wp2
    go_quiet (fail)
    go_wp2
    go_roundw
    case rel=>
     refine⟨k+1,by omega,.inl (by omega),by go_num,fun j d g=>?_,?_⟩
     ·by_cases e:j=k
      ·subst e;exact hs
      ·exact Aa m j d (by omega)
     ·exact below_drewN f _
    case measure=>simp[intOf];omega
  ·go_wp2
   go_ret
   exact⟨Ag (UV ss fun j d g=>Aa m j d (by have:=h.len;omega)).symm,f⟩
theorem QJ (a:Option Addr)(n c:Nat)(ss:List ByteArray)(w:World)(h:AJ w a n c ss):
  Calls jL 58 #[.slice a n c] w fun e w'=>e= .returned (.bool (AR ss))/\An w w':=by
 have i:=h.len;by_cases k:n<=64
 ·have g:(n:Int)<=64:=by omega
  have d:=Ab (Lz ss (by omega));clear i;cases f:JF ss
  ·have b:=Ab f;clear f;go_enter func58,ntmps58
   go_wp2_with (go_at_call 89;refine(MW _ _ _ _ _ h).mono ?_;rintro e w' ⟨rfl,rfl⟩;rw[Aa b])
   go_ret
   exact⟨Ag (by rw[Aa d,Aa b];rfl),BRN⟩
  ·have b:=Ab f;clear f;go_enter func58,ntmps58
   go_wp2_with (first|(go_at_call 89;refine(MW _ _ _ _ _ h).mono ?_;rintro e w' ⟨rfl,rfl⟩;rw[Aa b])|(go_at_call 90;refine(Ma _ _ _ _ _ h).mono ?_;rintro e w' ⟨rfl,j⟩))
   go_ret
   exact⟨Ag (by rw[Aa d,Aa b];rfl),j⟩
 ·have g:(64 :Int)<(n:Int):=by omega
  have d:=Ab (Nv ss (by omega));clear i;go_enter func58,ntmps58
  go_wp2
  go_ret
  exact⟨Ag (Aa d).symm,BRN⟩
theorem AH (a:Option Addr)(n c:Nat)(ss:List ByteArray)(w:World)(h:AJ w a n c ss):
  Calls jL 61 #[.slice a n c] w fun e w'=>e= .returned (.bool (AR ss))/\w'=w:=by
 have q:=h.len;by_cases F:n<=64
 ·have g:(n:Int)<=64:=by omega
  have f:=Ab (Lz ss (by omega));have l:=Ab q;clear q;go_enter func61,ntmps61
  go_wp2
  go_loop [2,3,4,5,11] (fun _ _ _ _ i=>∃k:Nat,k<=n/\i= .int .i64 k/\(∀j,j<k->vnB (Ck ss j)=R)/\(∀i j,i<k->i<j->j<n->sl (Ck ss i) (Ck ss j)=R)) (fun _ _ _ _ i=>n-(intOf i).toNat)
  case atStart=>exact⟨0,zE _,rfl,fun j d=>by omega,fun i j hi=>by omega⟩
  case round=>
   obtain⟨k,hk,rfl,s,hp⟩:=hrel;have t:=Ab s;have u:=Ab hp;clear s hp;by_cases v:k<n
   ·obtain⟨b,G,A,_,hc⟩:=h.at (by omega);have H:=hc k v;have B:=Ab hc;clear hc;have x:=h.sizes k v;subst A;cases hv:vnB (Ck ss k)
    ·have o:=Ab hv;have r:=Ab (Xj ss k (by have:=Aa l;omega) hv);clear hv;go_wp2_with (go_at_call 91;refine(Fe _ _ x).mono ?_;rintro e w' ⟨rfl,rfl⟩;rw[Aa o])
     go_ret
     exact⟨Ag (by rw[Aa f,Aa r];rfl),rfl⟩
    ·have o:=Ab hv;clear hv;go_wp2_with (go_at_call 91;refine(Fe _ _ x).mono ?_;rintro e w' ⟨rfl,rfl⟩;rw[Aa o])
     go_loop [5] (fun i=>∃m:Nat,k<m/\m<=n/\i= .int .i64 m/\∀j,k<j->j<m->sl (Ck ss k) (Ck ss j)=R) (fun i=>n-(intOf i).toNat)
     case atStart=>exact⟨k+1,by omega,by omega,by go_num,fun j d C=>by omega⟩
     case round=>
      obtain⟨m,D,hm,rfl,y⟩:=hrel;have z:=Ab y;clear y;by_cases E:m<n
      ·have I:=Aa B m E;cases hs:Op.bytesLess (Ck ss k).toList (Ck ss m).toList
       ·have r:=Ab (Xk ss k m D (by have:=Aa l;omega) hs);go_wp2
        go_ret
        exact⟨Ag (by rw[Aa f,Aa r,Bool.and_false]),rfl⟩
       ·go_wp2
        go_round
        case rel=>
         refine⟨m+1,by omega,by omega,by go_num,fun j d C=>?_⟩
         by_cases e:j=m
         ·subst e;exact hs
         ·exact Aa z j d (by omega)
        case measure=>simp[intOf];omega
      ·go_wp2
       go_round
       case rel=>
        refine⟨k+1,by omega,by go_num,fun j d=>?_,fun i j hi p d=>?_⟩
        ·by_cases e:j=k
         ·subst e;exact Aa o
         ·exact Aa t j (by omega)
        ·by_cases e:i=k
         ·subst e;exact Aa z j p (by omega)
         ·exact Aa u i j (by omega) p d
       case measure=>simp[intOf];omega
   ·go_wp2
    go_ret
    have e1:JF ss=R:=Aae ss fun j d=>Aa t j (by have:=Aa l;omega);have e2:Fo ss=R:=(Sb ss).2 fun i j p d=>Aa u i j (by have:=Aa l;omega) p (by have:=Aa l;omega);exact⟨Ag (by rw[Aa f,e1,e2];rfl),rfl⟩
 ·have g:(64 :Int)<(n:Int):=by omega
  have f:=Ab (Nv ss (by omega));clear q;go_enter func61,ntmps61
  go_wp2
  go_ret
  exact⟨Ag (Aa f).symm,rfl⟩
set_option linter.unusedVariables false
def DC (f:Int->List Int->List Int) (top:Int):List Int->List Int->List Int
 |[],out=>out++[top]
 |k ::ks,out=>if top<=k then out++[-1]else DC f top ks (f k out)
def Ba (K:List (List Int)):Nat->Int->List Int->List Int
 |0=>fun _ out=>out++[-1]
 |n+1=>fun top out=>if top<0\/(K.length:Int)<=top\/K.length<out.length then out++[-1]else DC (Ba K n) top (K.getD top.toNat []) out
def good (l:List Int):Prop:=∀(i:Nat) (x:Int),l[i]? =some x->x=i
theorem good.pre {m:List Int}(h:good (l++m)):good l:=fun i x hx=>by
 have hi:i<l.length:=(zZ.1 hx).1;exact h i x (by rw[z2 hi];exact hx)
theorem good.last {x:Int}(h:good (l++[x])):x=l.length:=h l.length x (by simp)
theorem Xo (l:List Int):good l↔∀i,(h:i<l.length)->l[i]=(i:Int):=by
 constructor
 ·intro h i hi;exact h i _ (zL hi)
 ·intro h i x hx;obtain⟨hi,e⟩:=zZ.1 hx;rw[<-e];exact h i hi
theorem Ol {f:Int->List Int->List Int}(b:∀k out,∃l,f k out=out++l)(top:Int):∀(a out:List Int),∃l,DC f top a out=out++l
 |[],out=>⟨[top],rfl⟩
 |k ::a,out=>by
  rw[DC];split
  ·exact⟨[-1],rfl⟩
  ·obtain⟨l,e⟩:=b k out;obtain⟨m,e2⟩:=Ol b top a (f k out);exact⟨l++m,by rw[e2,e,zJ]⟩
theorem Om (K:List (List Int)):∀(n:Nat) (top:Int) (out:List Int),∃l,Ba K n top out=out++l
 |0,top,out=>⟨[-1],rfl⟩
 |n+1,top,out=>by
  rw[Ba];dsimp only;split
  ·exact⟨[-1],rfl⟩
  ·exact Ol (Om K n) top _ out
theorem Sk {K:List (List Int)}{f:Int->List Int->List Int}(hp:∀k out,∃l,f k out=out++l)
  (c:∀k out,good (f k out)->∃d,Ay K out.length [(k.toNat,d)] (f k out).length/\0<=k)(top:Int):
  ∀(a out:List Int),good (DC f top a out)->∃b,As b=a/\∃t,Ay K out.length b t/\top=(t:Int)/\(DC f top a out).length=t+1
 |[],out,h=>⟨[],rfl,out.length,.nil _,by rw[DC]at h;exact h.last,by simp[DC]⟩
 |k ::a,out,h=>by
  rw[DC]at h|-;split at h
  ·have:=h.last;omega
  ·rename_i hk;rw[if_neg hk];obtain⟨l,e⟩:=Ol hp top a (f k out);have h1:good (f k out):=by rw[e]at h;exact h.pre
   obtain⟨d,g,m⟩:=c k out h1;obtain⟨b,e1,t,i,h5,j⟩:=Sk hp c top a (f k out) h;exact⟨(k.toNat,d) ::b,by simp only[As,List.map_cons]at e1|-;rw[e1];congr 1;omega,t,g.join i,h5,j⟩
theorem Sl (K:List (List Int)):∀(n:Nat) (top:Int) (out:List Int),good (Ba K n top out)->∃d,Ay K out.length [(top.toNat,d)] (Ba K n top out).length/\0<=top
 |0,top,out,h=>by
  have:=good.last (l:=out) h;omega
 |n+1,top,out,h=>by
  rw[Ba]at h|-;dsimp only at h|-;split at h
  ·have:=h.last;omega
  ·rename_i hc;rw[if_neg hc];obtain⟨c,e1,t,f,h5,g⟩:=Sk (Om K n) (Sl K n) top _ out h;have a:top.toNat=t:=by omega
   refine⟨Cq c+1,?_,by omega⟩;rw[g,a];refine .cons f ?_ (.nil _);have b:t<K.length:=by omega
   rw[a]at e1;rw[e1,zL b,zo,zL b];rfl
def Le (a b:Nat):List Int:=(List.range' a (b-a)).map fun (i:Nat)=>(i:Int)
theorem Abt (a:Nat):Le a a=[]:=by simp[Le]
theorem Ud {c:Nat}(h1:a<=b)(d:b<=c):Le a b++Le b c=Le a c:=by
 rw[Le,Le,Le,<-zl,show c-a=(b-a)+(c-b) by omega,<-List.range'_append_1,show a+(b-a)=b by omega]
theorem Ad2 (a:Nat):Le a (a+1)=[(a:Int)]:=by simp[Le]
theorem Xp (a b:Nat):(Le a b).length=b-a:=by simp[Le]
theorem U2 (h:Ay K a d b):
  ∀(n:Nat) (out:List Int),(∀p∈d,p.1<n)->out.length=a->b<=K.length->(As d).foldl (fun o k=>Ba K n k o) out=out++Le a b:=by
 induction h with
 |nil a=>intro n out _ _ _;simp[As,Abt]
 |@cons a t b c d hk l m r s=>
  intro n out g u v;have h1:=hk.le;have w:=m.le;have i:=hk.lt;have z:t<n:=g _ (zS ..);obtain⟨n',rfl⟩:∃n',n=n'+1:=⟨n-1,by omega⟩
  have x:Ba K (n'+1) (t:Int) out=out++Le a (t+1):=by
   rw[Ba];dsimp only;rw[if_neg (by omega),zb,zo,l,Option.getD_some];have f:∀(c:List (Nat×Nat)) (o:List Int),(∀p∈c,p.1<t)->DC (Ba K n') (t:Int) (As c) o=(As c).foldl (fun o k=>Ba K n' k o) o++[(t:Int)]:=by
    intro c
    induction c with
    |nil=>intro o _;rfl
    |cons p j y=>
     intro o hp;have:=hp p (zS ..);rw[show As (p ::j)=(p.1:Int) ::As j from rfl,DC,if_neg (by omega),y _ (fun q f=>hp q (za _ f))];rfl
   rw[f c out (fun p hp=>(i p hp).2),r n' out (fun p hp=>by have:=(i p hp).2;omega) u (by omega),zJ,<-Ad2 t,Ud h1 (by omega)]
  rw[show As ((t,Cq c+1) ::d)=(t:Int) ::As d from rfl,List.foldl_cons,x,s (n'+1) _ (fun p hp=>g p (za _ hp)) (by rw[zB,Xp];omega) v,zJ,Ud (by omega) w]
theorem Mc {K:List (List Int)}{n:Nat} :∀(A:List Int) (out:List Int),good (A.foldl (fun o k=>Ba K n k o) out)->∃a,As a=A/\Ay K out.length a (A.foldl (fun o k=>Ba K n k o) out).length
 |[],out,_=>⟨[],rfl,.nil _⟩
 |k ::A,out,h=>by
  rw[List.foldl_cons]at h|-;have b:∃l,A.foldl (fun o k=>Ba K n k o) (Ba K n k out)=Ba K n k out++l:=by
   have:∀(A:List Int) (o:List Int),∃l,A.foldl (fun o k=>Ba K n k o) o=o++l:=by
    intro A
    induction A with
    |nil=>intro o;exact⟨[],by simp⟩
    |cons x i c=>
     intro o;obtain⟨l,e⟩:=Om K n x o;obtain⟨m,e2⟩:=c (Ba K n x o);exact⟨l++m,by rw[List.foldl_cons,e2,e,zJ]⟩
   exact this A _
  obtain⟨l,e⟩:=b;have h1:good (Ba K n k out):=by rw[e]at h;exact h.pre
  obtain⟨d,f,j⟩:=Sl K n k out h1;obtain⟨a,e1,g⟩:=Mc A (Ba K n k out) h;exact⟨(k.toNat,d) ::a,by simp only[As,List.map_cons]at e1|-;rw[e1];congr 1;omega,f.join g⟩
def BR (K:List (List Int)):Nat->Int->Nat
 |0=>fun _=>1
 |n+1=>fun top=>((K.getD top.toNat []).foldl (fun d k=>max d (BR K n k)) 0)+1
theorem On (g:Int->Nat):∀(a:List Int) (d:Nat),a.foldl (fun d k=>max d (g k)) d=max d (a.foldl (fun d k=>max d (g k)) 0)
 |[],d=>by simp
 |k ::a,d=>by
  rw[List.foldl_cons,List.foldl_cons,On g a,On g a (max 0 (g k))];omega
theorem Lq {c:List (Nat×Nat)}(h:Ay K a c b):∀(n:Nat),(∀p∈c,p.1<n)->(∀p∈c,BR K n (p.1:Int)=p.2)/\(As c).foldl (fun d k=>max d (BR K n k)) 0=Cq c:=by
 induction h with
 |nil a=>intro n _;exact⟨fun p hp=>(by cases hp),rfl⟩
 |@cons a t b f c hk i r j l=>
  intro n g;have s:t<n:=g _ (zS ..);obtain⟨n',rfl⟩:∃n',n=n'+1:=⟨n-1,by omega⟩
  have m:=hk.lt;have e1:BR K (n'+1) (t:Int)=Cq f+1:=by
   rw[BR];dsimp only;rw[zb,zo,i,Option.getD_some,(j n' (fun p hp=>by have:=(m p hp).2;omega)).2]
  obtain⟨o,q⟩:=l (n'+1) (fun p hp=>g p (za _ hp));refine⟨fun p hp=>?_,?_⟩
  ·rcases zT.1 hp with e|e
   ·subst e;exact e1
   ·exact o p e
  ·rw[show As ((t,Cq f+1) ::c)=(t:Int) ::As c from rfl,List.foldl_cons,On,q,e1,Cq];omega
theorem Abu (n:Nat):good (Le 0 n):=fun i x hx=>by
 rw[Le,zk,Option.map_eq_some_iff]at hx;obtain⟨j,a,rfl⟩:=hx;obtain⟨h1,b⟩:=zZ.1 a;rw[List.getElem_range']at b;omega
theorem Abv (K:List (List Int))(A:List Int):
  ((A.foldl (fun o k=>Ba K K.length k o) []).length=K.length/\good (A.foldl (fun o k=>Ba K K.length k o) [])/\∀r∈A,BR K K.length r<=64)↔∃S,EK K K.length [] 0=some S/\As S=A:=by
 constructor
 ·rintro⟨h1,d,f⟩;obtain⟨g,rfl,a⟩:=Mc A [] d;rw[h1]at a;have hd:=(Lq a K.length (fun p hp=>(a.lt p hp).2)).1;have b:=Pl a [] (fun p hp=>by
   rw[<-hd p hp];exact f _ (zn.2 ⟨p,hp,rfl⟩))
  exact⟨g,by simpa using b,rfl⟩
 ·rintro⟨S,b,rfl⟩;obtain⟨a,hd⟩:=Dd K.length (.nil 0) (fun p hp=>by cases hp) b;rw[zP]at a;have c:=U2 a K.length [] (fun p hp=>(a.lt p hp).2) rfl NLN;rw[List.nil_append]at c;rw[c];refine⟨by rw[Xp];omega,Abu _,fun r b=>?_⟩;obtain⟨p,hp,rfl⟩:=zn.1 b;rw[(Lq a K.length (fun p hp=>(a.lt p hp).2)).1 p hp];exact hd p hp
structure Nd where
 op:Int
 num:Int
 text:ByteArray
 names:List ByteArray
 kids:List Int
structure St where
 kind:Int
 name:ByteArray
 cond:Int
 grant:Int
def Cz (op:Int):Int:=if 1<=op/\op<=7 then 0 else if 8<=op/\op<=10 then 1 else if 11<=op/\op<=26 then 2 else if op=27 then 3 else -1
def Ek (s:ByteArray):Bool:=match LY s with
 |[]=>jA
 |c ::r=>decide ((c ::r).length<=32)&&ltB c&&(c ::r).all Vb&& !Abl (c ::r)
def Ci (s:ByteArray):Bool:=decide (s.size<=32)&&(LY s).all nmB
def Bo (x:Nd):Bool:=
 decide ((x.kids.length:Int)=Cz x.op)&&
 (if x.op=1 then decide (0<=x.num)&&decide (x.text.size=0)&&decide (x.names.length=0)
   else if x.op=2 then Ci x.text&&decide (x.num=0)&&decide (x.names.length=0)
   else if x.op=3 then decide (x.num=0\/x.num=1)&&decide (x.text.size=0)&&decide (x.names.length=0)
   else if x.op=4 then AR x.names&&decide (x.num=0)&&decide (x.text.size=0)
   else if x.op=5 then Ek x.text&&decide (x.num=0)&&decide (x.names.length=0)
   else if x.op=6\/x.op=7 then jA
   else decide (x.num=0)&&decide (x.text.size=0)&&decide (x.names.length=0))
def CY (last:Bool) (s:St):Bool:=
 if s.kind=1 then !last&&Ek s.name&&decide (0<=s.cond)&&decide (s.grant= -1)
 else if s.kind=2 then !last&&decide (s.name.size=0)&&decide (0<=s.cond)&&decide (-1<=s.grant)
 else if s.kind=3 then last&&decide (s.name.size=0)&&decide (s.cond= -1)&&decide (-1<=s.grant)
 else jA
def J0 (s:St):Bool:=
 if s.kind=1 then Ek s.name&&decide (s.grant= -1)
 else if s.kind=2 then decide (s.name.size=0)
 else if s.kind=3 then decide (s.name.size=0)&&decide (s.cond= -1)
 else jA
def Az (s:St):List Int:=(if 0<=s.cond then [s.cond]else [])++(if 0<=s.grant then [s.grant]else [])
def Ap (s:St):List Int:=(if s.kind≠3 then [s.cond]else [])++(if s.grant≠-1 then [s.grant]else [])
def GV:List St->Bool
 |[]=>R
 |s ::r=>CY r.isEmpty s&&GV r
def EM:List St->Bool
 |[]=>R
 |s ::r=>J0 s&&(decide (s.kind=3)==r.isEmpty)&&EM r
theorem Md:∀(L:List St),(∀x∈L.flatMap Ap,0<=x)->(EM L=R↔GV L=R)
 |[],_=>Iff.rfl
 |s ::r,h=>by
  have g:=Md r (fun x hx=>h x (by rw[zm];exact List.mem_append_right _ hx));have hs:∀x∈Ap s,0<=x:=fun x hx=>h x (by rw[zm];exact Z8 _ hx);rw[EM,GV,zD,zD,zD,g];have e:(J0 s=R/\(decide (s.kind=3)==r.isEmpty)=R)↔CY r.isEmpty s=R:=by
   have hc:s.kind≠3->0<=s.cond:=fun k=>hs _ (by rw[Ap,if_pos k];simp);have hg:s.grant≠-1->0<=s.grant:=fun k=>hs _ (by rw[Ap,if_pos k];simp);generalize r.isEmpty=a;unfold J0 CY;by_cases c:s.kind=1
   ·simp[c];have:=hc (by omega);cases a<;>simp[this]
   ·by_cases d:s.kind=2
    ·simp[d];have h1:=hc (by omega);have b: -1<=s.grant:=by by_cases k:s.grant= -1;omega;have:=hg k;omega
     cases a<;>simp[h1,b]
    ·by_cases f:s.kind=3
     ·simp[f];have b: -1<=s.grant:=by by_cases k:s.grant= -1;omega;have:=hg k;omega
      cases a<;>simp[b]
     ·simp[c,d,f]
  rw[<-e,and_assoc]
theorem Xq:∀{f:Bool} {s:St},CY f s=R->Az s=Ap s/\∀x∈Ap s,0<=x:=by
 intro f s h;unfold CY at h;unfold Az Ap;by_cases c:s.kind=1
 ·simp[c]at h;obtain⟨⟨_,h1⟩,d⟩:=h;simp[c,h1,d]
 ·by_cases a:s.kind=2
  ·simp[a]at h;obtain⟨⟨_,h1⟩,d⟩:=h;by_cases hg:s.grant= -1
   ·simp[a,h1,hg]
   ·have: 0<=s.grant:=by omega
    simp[a,h1,hg,this]
  ·by_cases b:s.kind=3
   ·simp[b]at h;obtain⟨⟨_,h1⟩,d⟩:=h;by_cases hg:s.grant= -1
    ·simp[b,h1,hg]
    ·have: 0<=s.grant:=by omega
     simp[b,h1,hg,this]
   ·simp[c,a,b]at h
theorem Oo:∀{L:List St},GV L=R->L.flatMap Az=L.flatMap Ap/\∀x∈L.flatMap Ap,0<=x
 |[],_=>⟨rfl,fun x hx=>by cases hx⟩
 |s ::r,h=>by
  rw[GV,zD]at h;obtain⟨e1,h1⟩:=Xq h.1;obtain⟨e2,a⟩:=Oo h.2;refine⟨by rw[zm,zm,e1,e2],fun x hx=>?_⟩;rw[zm]at hx;rcases zM.1 hx with k|k
  ·exact h1 x k
  ·exact a x k
def Kn (N:List Nd) (L:List St):Prop:=
 GV L=R/\((L.flatMap Az).foldl (fun o k=>Ba (N.map Nd.kids) N.length k o) []).length=N.length/\good ((L.flatMap Az).foldl (fun o k=>Ba (N.map Nd.kids) N.length k o) [])/\∀r∈L.flatMap Az,BR (N.map Nd.kids) N.length r<=64
def YV (N:List Nd) (L:List St):Prop:=EM L=R/\∃S,EK (N.map Nd.kids) N.length [] 0=some S/\As S=L.flatMap Ap
theorem Sm (N:List Nd)(L:List St):YV N L↔Kn N L:=by
 have hs:=Abv (N.map Nd.kids) (L.flatMap Ap);rw[zU]at hs;constructor
 ·rintro⟨h1,S,a,b⟩;have h0:∀x∈L.flatMap Ap,0<=x:=by
   rw[<-b];intro x hx;obtain⟨p,_,rfl⟩:=zn.1 hx;omega
  have c:=(Md L h0).1 h1;have e:=(Oo c).1;unfold Kn;rw[e];exact⟨c,hs.2 ⟨S,a,b⟩⟩
 ·rintro⟨h1,a⟩;obtain⟨e,h0⟩:=Oo h1;rw[e]at a;exact⟨(Md L h0).2 h1,hs.1 a⟩
end Go.Proofs.YtppafecmccdplaaGreat
