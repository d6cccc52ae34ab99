import Derived.Test.YteiieikcjcfkkaaGreatDoorMXAS
import Derived.Test.YteiieikcjcfkkaaGreatDoorMXAX
import Derived.Test.YteiieikcjcfkkaaGreatDoorMXAY
import Derived.Test.YteiieikcjcfkkaaGreatDoorMXBB
open Go.Proofs.Tryz
open Option renaming none->T,some->X
open Go renaming World->Z,Value->R,Addr->jD
open Bool renaming true->jA,false->jC
open List renaming length_cons->jY,map_cons->jd
open Go.Proofs.Tryz renaming prog->j4
namespace Go.Proofs.YteiieikcjcfkkaaGreatDoor
open Go.RowKit
set_option linter.unusedVariables false
variable {x y z:Ex}{op:Int}{ls:List Ex}{ts:List Int}{ss:List S5}{A:List Sx}{B hi n c':Nat}{a:Option jD}{o:Option Ex}{v u:Vv}{w w':Z}
def OtT (w:Z) (o:Option Ex) (a:Option jD) (n:Nat):Prop:=match o with
 |none=>n=0
 |some e=>n=1/\∃k,BT w a [k]/\Tq w e k
theorem Le.t {wz:Z}{lo:Nat}{w:Z}(h:Le wz lo hi w o a n):OtT w o a n:=by
 cases o with
 |none=>exact h
 |some e=>obtain⟨h1,_,k,h3,h4⟩:=h;exact⟨h1,k,h3,Tl.tq h4⟩
theorem OtT.below {w w':Z}{B:Nat}{o:Option Ex}{a:Option jD}{n:Nat}(h:OtT w o a n)(b:Below B w w')(hB:w.heap.size<=B):OtT w' o a n:=by
 cases o with
 |none=>exact h
 |some e=>obtain⟨h1,k,h3,h4⟩:=h;exact⟨h1,k,h3.below b hB,h4.below b hB⟩
def StT (w:Z) (s:S5) (q:Sx×Int):Prop:=s.kind=q.1.kind/\s.name=q.1.name/\s.n=q.2/\OtT w q.1.cond s.ca s.cn/\OtT w q.1.grant s.ga s.gn
theorem StT.below {w w':Z}{B:Nat}{s:S5}{q:Sx×Int}(h:StT w s q)(a:Below B w w')(hB:w.heap.size<=B):StT w' s q:=⟨h.1,h.2.1,h.2.2.1,h.2.2.2.1.below a hB,h.2.2.2.2.below a hB⟩
def W9 (w:Z) (a:Option jD) (ss:List S5):Prop:=∀j,(h:j<ss.length)->∃b off,a=X ⟨b,off,T⟩/\b<w.heap.size/\∀r,r<5->w.cell? ⟨b,off+j*5+r,T⟩=(ss[j].cs)[r]?
theorem W9.below (h:W9 w a ss)(c:Below B w w')(hB:w.heap.size<=B):W9 w' a ss:=fun j g=>by
 obtain⟨b,d,h1,h2,h3⟩:=h j g;exact⟨b,d,h1,zE h2 c.size,fun f i=>(c.cell (p:=⟨b,d+j*5+f,T⟩) (by show b<B;omega)).trans (h3 f i)⟩
theorem Xa (b:List S5)(j:Nat)(h:j<b.length):∀a,a<5->(b.flatMap S5.cs)[j*5+a]? =(b[j].cs)[a]? :=by
 induction b generalizing j with
 |nil=>simp at h
 |cons k b d=>
  intro a f;have c:k.cs.length=5:=rfl;cases j with
  |zero=>
   rw[zi,Z5 (by rw[c];omega)];simp
  |succ j=>
   rw[zi,yL (by rw[c];omega),c,show(j+1)*5+a-5=j*5+a by omega,d j (by simpa using h) a f];simp
theorem Ny:∀(a:List S5),(a.flatMap S5.cs).length=a.length*5
 |[]=>rfl
 |k ::a=>by
  have b:k.cs.length=5:=rfl;rw[zi,zC,Ny a,b,jY];omega
theorem AaX {m c:Nat}(h:w.ownsRow B 45 5 (.slice a m c) m (ss.flatMap S5.cs))(k:ss.length=m):W9 w a ss:=fun j f=>by
 obtain⟨x,c,e,hx⟩:=Ae h;cases e;obtain⟨g,rfl,_,hc⟩:=hx (by omega);refine⟨g,0,rfl,(h.lt g rfl).2,fun b i=>?_⟩;have q:=Xa ss j f b i;cases d:(ss[j].cs)[b]? with
 |none=>
  have:(ss[j].cs).length=5:=rfl;rw[List.getElem?_eq_none_iff]at d;omega
 |some u=>
  rw[d]at q;have:=hc _ u q;rw[zU];exact this
theorem Mj (h:W9 w a ss){j:Nat}(b:j<ss.length):∃g o,a=X ⟨g,o,T⟩/\g<w.heap.size/\w.cell? ⟨g,o+j*5,T⟩=X (.int .i64 ss[j].kind)/\w.cell? ⟨g,o+j*5+1,T⟩=X (.string ss[j].name)/\w.cell? ⟨g,o+j*5+2,T⟩=X (.int .i64 ss[j].n)/\w.cell? ⟨g,o+j*5+3,T⟩=X (.slice ss[j].ca ss[j].cn ss[j].cc)/\w.cell? ⟨g,o+j*5+4,T⟩=X (.slice ss[j].ga ss[j].gn ss[j].gc):=by
 obtain⟨g,o,e,hg,hc⟩:=h j b;exact⟨g,o,e,hg,hc 0 (by decide),hc 1 (by decide),hc 2 (by decide),hc 3 (by decide),hc 4 (by decide)⟩
structure KpT (w:Z) (a:Option jD) (n:Nat) (ss:List S5) (D:List (Sx×Int)):Prop where
 len:ss.length=n
 lenD:D.length=n
 rows:W9 w a ss
 each:∀j,(h1:j<ss.length)->(h2:j<D.length)->StT w ss[j] D[j]
theorem KpT.below {w w':Z}{B:Nat}{a:Option jD}{n:Nat}{ss:List S5}{b:List (Sx×Int)}(h:KpT w a n ss b)(c:Below B w w')(hB:w.heap.size<=B):KpT w' a n ss b:=
 ⟨h.len,h.lenD,h.rows.below c hB,fun j h1 h2=>(h.each j h1 h2).below c hB⟩
theorem KpT.nil (w:Z):KpT w T 0 [] []:=⟨rfl,rfl,fun j h=>absurd h (by simp),fun j h=>absurd h (by simp)⟩
theorem KpT.cons {b:Option jD}{n n':Nat}{a:List (Sx×Int)}{s:S5}{q:Sx×Int}(c:ss.length=n)(d:a.length=n)(he:∀j,(h1:j<ss.length)->(h2:j<a.length)->StT w ss[j] a[j])(hs:StT w s q)(f:n'=n+1)(O:w.ownsRow B 45 5 (.slice b n' c') n' (s.cs++ss.flatMap S5.cs)):KpT w b n' (s ::ss) (q ::a):=by
 subst f;refine⟨by simp[c],by simp[d],AaX (by rw[zi];exact O) (by simp[c]),fun j h1 h2=>?_⟩;cases j with
 |zero=>exact hs
 |succ j=>exact he j (by simpa using h1) (by simpa using h2)
theorem W9.news {g a:Nat}(h:W9 w (X ⟨g,a,T⟩) ss):∀j u,(ss.flatMap S5.cs)[j]? =X u->w.cell? ((⟨g,a,T⟩:jD).add j)=X u:=fun j u c=>by
 have d:=(zd.1 c).1;rw[Ny]at d;have hq:j / 5<ss.length:=by omega
 obtain⟨b,o,e,_,hc⟩:=h (j / 5) hq;simp only[Option.some.injEq,Addr.mk.injEq]at e;obtain⟨rfl,rfl,_⟩:=e;have e2:(⟨g,a,T⟩:jD).add j=⟨g,a+j / 5*5+j % 5,T⟩:=by
  have:(⟨g,a,T⟩:jD).add j=⟨g,a+j,T⟩:=by by_cases e:j=0<;>simp[Addr.add,e]
  rw[this,show a+j / 5*5+j % 5=a+j by omega]
 rw[e2,hc (j % 5) (by omega),<-Xa ss (j / 5) hq (j % 5) (by omega),<-c]
 congr 1
 omega
theorem Air (ss:List S5):∀u∈ss.flatMap S5.cs,u.oneCell'=jA:=fun u a=>by
 obtain⟨s,_,h⟩:=List.mem_flatMap.1 a;simp[S5.cs]at h;rcases h with rfl|rfl|rfl|rfl|rfl<;>rfl
def UP:Option Ex->Prop
 |none=>True
 |some e=>Be e=jA
theorem Ep {ts:List Int}{m:Int} :∀(e:Ex) (t:Int),Al ts e=X t->usE m e=jA->0<=m/\m.toNat<ts.length
 |.lett i n,t,h,hu=>by
  have e:n=m:=of_decide_eq_true hu;subst e;rw[Al]at h;split at h
  ·exact⟨‹_›,(zd.1 h).1⟩
  ·cases h
 |.un i op k,t,h,hu=>by
  rw[Al]at h;cases c:Al ts k with
  |none=>rw[c]at h;cases h
  |some a=>exact Ep k a c hu
 |.bin i op x y,t,h,hu=>by
  rw[Al]at h;cases hx:Al ts x with
  |none=>rw[hx]at h;cases h
  |some a=>
   cases hy:Al ts y with
   |none=>rw[hx,hy]at h;cases h
   |some b=>
    rw[usE,Bool.or_eq_true]at hu;exact hu.elim (Ep x a hx) (Ep y b hy)
 |.ite i x y z,t,h,hu=>by
  rw[Al]at h;cases hx:Al ts x with
  |none=>rw[hx]at h;cases h
  |some a=>
   cases hy:Al ts y with
   |none=>rw[hx,hy]at h;cases h
   |some b=>
    cases f:Al ts z with
    |none=>rw[hx,hy,f]at h;cases h
    |some d=>
     rw[usE,Bool.or_eq_true,Bool.or_eq_true]at hu;exact hu.elim (Ep x a hx) (fun q=>q.elim (Ep y b hy) (Ep z d f))
 |.int ..,_,_,hu=>by cases hu
 |.text ..,_,_,hu=>by cases hu
 |.bool ..,_,_,hu=>by cases hu
 |.set ..,_,_,hu=>by cases hu
 |.name ..,_,_,hu=>by cases hu
 |.attr ..,_,_,hu=>by cases hu
theorem Ty {m:Int}{g:Option Ex}(h:Yo ts g)(a:usO m g=jA): 0<=m/\m.toNat<ts.length:=by
 cases g with
 |none=>cases a
 |some e=>exact Ep e 4 h a
theorem Me:∀(S:List Sx) (ts:List Int),IE ts S->∀q∈Ed (ts.length:Nat) S,∀m,usS m q.1=jA->(0<=m/\m.toNat<ts.length)\/m∈CC (Ed (ts.length:Nat) S)
 |[],_,_,q,hq,_,_=>by cases hq
 |x ::S,ts,h,q,hq,m,hm=>by
  rcases h with⟨k,e,t,h1,h2,h3,h4⟩|⟨k,⟨e,h1,h2⟩,h3,h4⟩|⟨k,h1,h3,h4⟩
  ·have en:((ts.length:Nat):Int)+1=((ts++[t]).length:Nat):=by simp
   rw[Ed,if_pos k,en]at hq|-;have c:=Me S (ts++[t]) h4;split
   ·rename_i b;rw[if_pos b]at hq;simp only[zF,Bool.not_eq_true',List.any_eq_false]at b;rcases c q hq m hm with a|a
    ·have f:m≠((ts.length:Nat):Int):=fun e=>by
      have:=b.1 q hq;rw[<-e,hm]at this;exact this rfl
     have:=a.2;simp at this;exact .inl ⟨a.1,by omega⟩
    ·exact .inr a
   ·rename_i b;rw[if_neg b]at hq;rw[Pt k];rcases zP.1 hq with e1|e1
    ·subst e1;rw[usS,h1,h3]at hm;simp only[usO,Bool.or_false]at hm;exact .inl (Ep e t h2 hm)
    ·rcases c q e1 m hm with a|a
     ·have:=a.2;simp at this;by_cases d:m.toNat<ts.length
      ·exact .inl ⟨a.1,d⟩
      ·exact .inr (by rw[show m=((ts.length:Nat):Int) by omega];exact za)
     ·exact .inr (zf _ a)
  ·rw[Ed,if_neg (by omega)]at hq|-;rw[FR (by omega)];rcases zP.1 hq with e1|e1
   ·subst e1;rw[usS,h1,Bool.or_eq_true]at hm;exact .inl (hm.elim (Ep e 1 h2) (Ty h3))
   ·exact Me S ts h4 q e1 m hm
  ·rw[Ed,if_neg (by omega)]at hq|-;rw[FR (by omega)];rcases zP.1 hq with e1|e1
   ·subst e1;rw[usS,h1,Bool.or_eq_true]at hm;exact .inl (hm.elim (fun q=>by cases q) (Ty h3))
   ·exact Me S ts h4 q e1 m hm
theorem UJ:∀(S:List Sx) (n:Int),(∀m∈CC (Ed n S),n<=m)/\(CC (Ed n S)).Nodup
 |[],n=>⟨fun m h=>(by cases h),List.nodup_nil⟩
 |x ::S,n=>by
  rw[Ed];by_cases k:x.kind=1
  ·rw[if_pos k];obtain⟨h1,h2⟩:=UJ S (n+1);split
   ·exact⟨fun m h=>by have:=h1 m h;omega,h2⟩
   ·rw[Pt k];exact⟨fun m h=>by
     rcases zP.1 h with e|e
     ·omega
     ·have:=h1 m e;omega,List.nodup_cons.2 ⟨fun h=>by have:=h1 n h;omega,h2⟩⟩
  ·rw[if_neg k,FR k];exact UJ S n
theorem AaH {e:Ex}(h:e.con=jA):e.cnt=1:=by cases e<;>first|rfl|cases h
theorem UK (e:Ex): 1<=e.cnt:=by cases e<;>simp[Ex.cnt]<;>omega
theorem AgH (v:Vv):v.ex.cnt=1:=by cases v<;>rfl
theorem Acd (h:CS op x y=X z):z.cnt<=x.cnt+y.cnt:=by
 have hx:=UK x;have hy:=UK y;have a:∀{z:Ex},z=x\/z=y->z.cnt<=x.cnt+y.cnt:=fun q=>q.elim (fun e=>by rw[e];omega) (fun e=>by rw[e];omega);have b:∀{z:Ex},(∃c,z= .bool 0 c)->z.cnt<=x.cnt+y.cnt:=fun ⟨c,e⟩=>by rw[e];simp[Ex.cnt];omega
 by_cases d:op=25
 ·subst d;exact a (En h)
 by_cases f:op=26
 ·subst f;exact a (En h)
 by_cases g:op=16
 ·subst g;exact a (H9 h)
 by_cases i:op=17
 ·subst i;exact a (JX h)
 by_cases j:op=18
 ·subst j;rcases JF h with e|e
  ·exact a (.inl e)
  ·rw[e];simp[Ex.cnt];omega
 by_cases h11:op=11
 ·subst h11;exact a (Nq h)
 by_cases h12:op=12
 ·subst h12;exact a (DQ h)
 by_cases h13:op=13
 ·subst h13;exact a (JY h)
 by_cases h14:op=14
 ·subst h14;exact a (DQ h)
 by_cases k:op=19
 ·subst k;exact b (AX h)
 by_cases l:op=22
 ·subst l;exact b (AX h)
 by_cases m:op=20
 ·subst m;exact b (AX h)
 by_cases n:op=21
 ·subst n;exact b (AX h)
 by_cases o:op=24
 ·subst o;exact b (Fi h)
 by_cases p:op=23
 ·subst p;exact b (Mc h)
 simp[CS,d,f,g,i,j,h11,h12,h13,h14,k,l,m,n,o,p]at h
theorem Tz {e c:Ex}(h:Ar e=X c):c.cnt=1:=by
 unfold Ar at h;split at h
 ·cases h
 ·split at h
  ·split at h
   ·cases h;exact AgH _
   ·cases h
  ·cases h
theorem EY (e:Ex):(FL ls e).cnt<=e.cnt:=by
 unfold FL;cases hf:Ar e with
 |some c=>rw[Tz hf];exact UK e
 |none=>
  cases a:AR ls e with
  |none=>exact NLN
  |some c=>
   show c.cnt<=e.cnt;cases e with
   |lett i n=>
    rw[AR]at a;split at a
    ·split at a
     ·cases a;rename_i hc;rw[AaH hc];exact NLN
     ·cases a
    ·cases a
   |un i op k=>
    rw[AR]at a;split at a
    ·cases k with
     |un b o j=>rw[Np]at a;split at a<;>cases a;simp[Ex.cnt];omega
     |_=>cases a
    ·cases a
   |bin i op x y=>rw[AR]at a;have:=Acd a;simp[Ex.cnt];omega
   |ite i x y z=>
    rw[AR]at a
    repeat' split at a
    all_goals first|(cases a;simp[Ex.cnt];omega)|cases a
   |_=>cases a
theorem IH {ls:List Ex} :∀(e:Ex),(AG ls e).cnt<=e.cnt
 |.un i op k=>by rw[AG];refine zB (EY _) ?_;have:=IH (ls:=ls) k;simp[Ex.cnt];omega
 |.bin i op x y=>by rw[AG];refine zB (EY _) ?_;have:=IH (ls:=ls) x;have:=IH (ls:=ls) y;simp[Ex.cnt];omega
 |.ite i x y z=>by rw[AG];refine zB (EY _) ?_;have:=IH (ls:=ls) x;have:=IH (ls:=ls) y;have:=IH (ls:=ls) z;simp[Ex.cnt];omega
 |.int i n=>by rw[AG];exact EY _;all_goals (intros;simp_all)
 |.text i n=>by rw[AG];exact EY _;all_goals (intros;simp_all)
 |.bool i n=>by rw[AG];exact EY _;all_goals (intros;simp_all)
 |.set i a n c ss=>by rw[AG];exact EY _;all_goals (intros;simp_all)
 |.name i n=>by rw[AG];exact EY _;all_goals (intros;simp_all)
 |.attr i n=>by rw[AG];exact EY _;all_goals (intros;simp_all)
 |.lett i n=>by rw[AG];exact EY _;all_goals (intros;simp_all)
theorem Lb (left:List Int):∀(e:Ex),(Cr left e).cnt=e.cnt
 |.un i op k=>by rw[Cr,Ex.cnt,Ex.cnt,Lb left k]
 |.bin i op x y=>by rw[Cr,Ex.cnt,Ex.cnt,Lb left x,Lb left y]
 |.ite i x y z=>by rw[Cr,Ex.cnt,Ex.cnt,Lb left x,Lb left y,Lb left z]
 |.int .. =>rfl
 |.text .. =>rfl
 |.bool .. =>rfl
 |.set .. =>rfl
 |.name .. =>rfl
 |.attr .. =>rfl
 |.lett .. =>rfl
theorem AaI (o:Option Ex):AF (o.map (AG ls))<=AF o:=by
 cases o with
 |none=>exact NLN
 |some e=>exact IH e
theorem AaJ {l:List Int}(o:Option Ex):AF (o.map (Cr l))=AF o:=by
 cases o with
 |none=>rfl
 |some e=>exact Lb l e
theorem WK:∀(S:List Sx) (ls:List Ex),Bu (Ce ls S)<=Bu S
 |[],_=>NLN
 |x ::S,ls=>by
  rw[Ce,A4,A4];have h1:=AaI (ls:=ls) x.cond;have h2:=AaI (ls:=ls) x.grant;have h3:=WK S (Pg ls (Ef ls x));show AF (x.cond.map (AG ls))+AF (x.grant.map (AG ls))+_<=_;omega
theorem WL:∀(S:List Sx),Bu (Bb S)<=Bu S
 |[]=>NLN
 |x ::S=>by
  have h:=WL S;rw[Bb,A4];split
  ·omega
  ·split
   ·rw[A4];simp[AF,Bu];omega
   ·rw[A4];omega
theorem UL (l:List Int):∀(S:List Sx) (n:Int),Bu ((Ed n S).map fun q=>MN l q.1)<=Bu S
 |[],_=>NLN
 |x ::S,n=>by
  have a:∀(m:Int) (K:List (Sx×Int)),Bu (((x,m) ::K).map fun q=>MN l q.1)=AF x.cond+AF x.grant+Bu (K.map fun q=>MN l q.1):=fun m K=>by
   rw[jd,A4];show AF (x.cond.map (Cr l))+AF (x.grant.map (Cr l))+_=_;rw[AaJ,AaJ]
  rw[Ed,A4];split
  ·have h:=UL l S (n+1);split
   ·omega
   ·rw[a];omega
  ·have h:=UL l S n;rw[a];omega
theorem Qi (X:List Sx):Bu (BM X)<=Bu X:=
 zB (UL _ _ 0) (zB (WL _) (WK X []))
def gdV:Vv->Prop
 |.text s=>CJ s=jA
 |.set ss=>AC ss=jA
 |_=>True
def FM:Ex->Prop
 |.text _ s=>CJ s=jA
 |.set _ _ _ _ ss=>AC ss=jA
 |.name .. =>False
 |.attr _ n=>0<=n/\n<6
 |.un _ op k=>(8<=op/\op<=10)/\FM k
 |.bin _ op l r=>(11<=op/\op<=26)/\FM l/\FM r
 |.ite _ c t e=>FM c/\FM t/\FM e
 |_=>True
theorem Aie (v:Vv)(h:gdV v):FM v.ex:=by cases v<;>exact h
theorem TA {p:Int×Int}(h:DF p= .ok v):gdV v:=by
 unfold DF at h;split at h<;>cases h
 trivial
theorem AgJ (hv:gdV v)(h:GV op v= .ok u):gdV u:=by
 cases v with
 |int n=>simp only[GV]at h;split at h
         ·exact TA h
         ·cases h
 |bool b=>simp only[GV]at h;split at h<;>cases h;trivial
 |set ss=>simp only[GV]at h;split at h<;>cases h;trivial
 |text s=>cases h
theorem Aep {ss tt:List ByteArray}(h:EV (Jg ss tt)= .ok v):gdV v:=by
 unfold EV at h;split at h
 ·cases h;rename_i a;unfold Jg at*;split at a
  ·rename_i hp;rw[dif_pos hp];have q:=Classical.choose_spec hp;cases hv:(AC ss&&AC tt)with
   |false=>have:=(q.bad hv).2;rw[a]at this;cases this
   |true=>
    obtain⟨M,c,h1,h2⟩:=q.good hv;rw[zF]at hv;by_cases b:M.length<=64
    ·show AC (Classical.choose hp).1=jA;rw[(h2 b).1];exact WM hv.1 hv.2 c b
    ·have:=(h1 (by omega)).2;rw[a]at this;cases this
  ·cases a
 ·cases h
theorem WN {w u:Vv}(hv:gdV v)(a:gdV w)(h:Ch op v w= .ok u):gdV u:=by
 unfold Ch at h;split at h
 ·cases h;trivial
 split at h
 ·cases h;trivial
 split at h
 ·split at h<;>cases h;trivial
 ·split at h
  ·exact Aep h
  split at h
  ·cases h;exact Ace hv a
  split at h
  ·cases h;exact WO hv a
  split at h<;>cases h
  trivial
 ·split at h
  ·cases h;trivial
  split at h
  ·cases h;trivial
  split at h
  ·exact TA h
  ·cases h
 ·cases h
theorem II {e:Ex}(hc:e.con=jA)(a:FM e)(h:DI Sw [] e= .ok v):gdV v:=by
 cases e<;>first|(cases h;exact a)|(cases h;trivial)|cases hc
theorem Aeq {e c:Ex}(a:FM e)(h:Ar e=X c):FM c:=by
 unfold Ar at h;split at h
 ·cases h
 split at h
 ·rename_i g;split at h
  ·rename_i v hv;cases h;refine Aie v ?_;cases e with
   |un i op k=>
    rw[DI]at hv;have n:k.con=jA:=by simpa[Ex.kids]using g
    cases hq:DI Sw [] k with
    |err c=>rw[hq]at hv;cases hv
    |ok x=>rw[hq]at hv;exact AgJ (II n a.2 hq) hv
   |bin i op l j=>
    rw[DI]at hv;have d:l.con=jA/\j.con=jA:=by simpa[Ex.kids]using g
    cases hq:DI Sw [] l with
    |err c=>rw[hq]at hv;cases hv
    |ok x=>
     rw[hq]at hv;dsimp only at hv;split at hv
     ·cases hv;exact II d.1 a.2.1 hq
     ·cases f:DI Sw [] j with
      |err c=>rw[f]at hv;cases hv
      |ok y=>
       rw[f]at hv;dsimp only at hv
       first
       |exact WN (II d.1 a.2.1 hq) (II d.2 a.2.2 f) hv
       |(split at hv
         ·cases hv;exact II d.2 a.2.2 f
         ·exact WN (II d.1 a.2.1 hq) (II d.2 a.2.2 f) hv)
   |ite i x y z=>
    rw[DI]at hv;have m:x.con=jA/\y.con=jA/\z.con=jA:=by simpa[Ex.kids]using g
    cases hq:DI Sw [] x with
    |err c=>rw[hq]at hv;cases hv
    |ok b=>
     rw[hq]at hv;cases b with
     |bool b=>cases b
              ·exact II m.2.2 a.2.2 hv
              ·exact II m.2.1 a.2.1 hv
     |_=>cases hv
   |_=>simp[Ex.kids]at*
  ·cases h
 ·cases h
theorem Aer (B:∀c∈ls,FM c){e c:Ex}(f:FM e)(h:AR ls e=X c):FM c:=by
 cases e with
 |lett i n=>
  rw[AR]at h;split at h
  ·rename_i d C;split at h
   ·cases h;exact B _ (zp C)
   ·cases h
  ·cases h
 |un i op k=>
  rw[AR]at h;split at h
  ·cases k with
   |un D o j=>
    rw[Np]at h;split at h<;>cases h
    exact f.2.2
   |_=>cases h
  ·cases h
 |bin i op x y=>
  rw[AR]at h;have a:∀{z:Ex},z=x\/z=y->FM z:=fun q=>q.elim (fun e=>e ▸ f.2.1) (fun e=>e ▸ f.2.2);by_cases g:op=25
  ·subst g;exact a (En h)
  by_cases l:op=26
  ·subst l;exact a (En h)
  by_cases m:op=16
  ·subst m;exact a (H9 h)
  by_cases p:op=17
  ·subst p;exact a (JX h)
  by_cases r:op=18
  ·subst r;rcases JF h with e|e
   ·exact a (.inl e)
   ·rw[e];rfl
  by_cases h11:op=11
  ·subst h11;exact a (Nq h)
  by_cases h12:op=12
  ·subst h12;exact a (DQ h)
  by_cases h13:op=13
  ·subst h13;exact a (JY h)
  by_cases h14:op=14
  ·subst h14;exact a (DQ h)
  by_cases s:op=19
  ·subst s;obtain⟨b,rfl⟩:=AX h;trivial
  by_cases t:op=22
  ·subst t;obtain⟨b,rfl⟩:=AX h;trivial
  by_cases u:op=20
  ·subst u;obtain⟨b,rfl⟩:=AX h;trivial
  by_cases v:op=21
  ·subst v;obtain⟨b,rfl⟩:=AX h;trivial
  by_cases w:op=24
  ·subst w;obtain⟨b,rfl⟩:=Fi h;trivial
  by_cases A:op=23
  ·subst A;obtain⟨b,rfl⟩:=Mc h;trivial
  simp[CS,g,l,m,p,r,h11,h12,h13,h14,s,t,u,v,w,A]at h
 |ite i x y z=>
  rw[AR]at h
  repeat' split at h
  all_goals first|(cases h;first|exact f.2.1|exact f.2.2)|cases h
 |_=>cases h
theorem GI (b:∀c∈ls,FM c){e:Ex}(a:FM e):FM (FL ls e):=by
 unfold FL;cases hf:Ar e with
 |some c=>exact Aeq a hf
 |none=>
  cases d:AR ls e with
  |none=>exact a
  |some c=>exact Aer b a d
theorem Er {ls:List Ex}(b:∀c∈ls,FM c):∀(e:Ex),FM e->FM (AG ls e)
 |.un i op k,h=>by rw[AG];exact GI b (show FM (.un i op _)from⟨h.1,Er b k h.2⟩)
 |.bin i op x y,h=>by rw[AG];exact GI b (show FM (.bin i op _ _)from⟨h.1,Er b x h.2.1,Er b y h.2.2⟩)
 |.ite i x y z,h=>by rw[AG];exact GI b (show FM (.ite i _ _ _)from⟨Er b x h.1,Er b y h.2.1,Er b z h.2.2⟩)
 |.int i n,h=>by rw[AG];exact GI b h;all_goals (intros;simp_all)
 |.text i n,h=>by rw[AG];exact GI b h;all_goals (intros;simp_all)
 |.bool i n,h=>by rw[AG];exact GI b h;all_goals (intros;simp_all)
 |.set i a n c ss,h=>by rw[AG];exact GI b h;all_goals (intros;simp_all)
 |.name i n,h=>by rw[AG];exact GI b h;all_goals (intros;simp_all)
 |.attr i n,h=>by rw[AG];exact GI b h;all_goals (intros;simp_all)
 |.lett i n,h=>by rw[AG];exact GI b h;all_goals (intros;simp_all)
theorem Qz (l:List Int):∀(e:Ex),FM e->FM (Cr l e)
 |.un ..,h=>⟨h.1,Qz l _ h.2⟩
 |.bin ..,h=>⟨h.1,Qz l _ h.2.1,Qz l _ h.2.2⟩
 |.ite ..,h=>⟨Qz l _ h.1,Qz l _ h.2.1,Qz l _ h.2.2⟩
 |.int ..,h=>h
 |.text ..,h=>h
 |.bool ..,h=>h
 |.set ..,h=>h
 |.name ..,h=>h
 |.attr ..,h=>h
 |.lett ..,h=>h
theorem Nr {ks:List Int}(h: 8<=op)(a:(ks.length:Int)=CI op):AD ⟨op,0,⟨#[]⟩,[],ks⟩=jA:=by
 have e1:JT ⟨op,0,⟨#[]⟩,[],ks⟩=jA:=by
  rw[JT,if_neg (by show ¬ op=5;omega),if_neg (by show ¬ op=6;omega),if_neg (by show ¬ (op=7\/op=1);omega),VR,if_neg (by show ¬ op=1;omega),if_neg (by show ¬ op=2;omega),if_neg (by show ¬ op=3;omega),if_neg (by show ¬ op=4;omega),if_neg (by show ¬ op=5;omega),if_neg (by show ¬ (op=6\/op=7);omega)];rfl
 rw[AD,e1,Bool.and_true];exact zL a
theorem EN:∀(e:Ex) (b:Nat),FM e->∀x∈DC e b,AD x=jA
 |.un i op k,b,h,x,hx=>by
  rw[DC]at hx;rcases zN.1 hx with q|q
  ·exact EN k b h.2 x q
  ·rw[zS.1 q];have h1:=h.1;exact Nr (by omega) (by rw[CI,if_neg (by omega),if_pos h1];rfl)
 |.bin i op l r,b,h,x,hx=>by
  rw[DC]at hx;rcases zN.1 hx with q|q
  ·rcases zN.1 q with q|q
   ·exact EN l b h.2.1 x q
   ·exact EN r _ h.2.2 x q
  ·rw[zS.1 q];have h1:=h.1;exact Nr (by omega) (by rw[CI,if_neg (by omega),if_neg (by omega),if_pos h1];rfl)
 |.ite i c t e,b,h,x,hx=>by
  rw[DC]at hx;rcases zN.1 hx with q|q
  ·rcases zN.1 q with q|q
   ·rcases zN.1 q with q|q
    ·exact EN c b h.1 x q
    ·exact EN t _ h.2.1 x q
   ·exact EN e _ h.2.2 x q
  ·rw[zS.1 q];exact Nr (by omega) (by show(3 :Int)=CI 27;decide)
 |.int i n,b,h,x,hx=>by rw[zS.1 hx];rfl
 |.text i s,b,h,x,hx=>by
  rw[zS.1 hx];have:CJ s=jA:=h;show(decide (((0 :Nat):Int)=CI 2)&&JT ⟨2,0,s,[],[]⟩)=jA;have e1:JT ⟨2,0,s,[],[]⟩=CJ s:=by simp[JT,VR]
  rw[e1,this];rfl
 |.bool i c,b,h,x,hx=>by rw[zS.1 hx];cases c<;>rfl
 |.set i a n c ss,b,h,x,hx=>by
  rw[zS.1 hx];have:AC ss=jA:=h;show(decide (((0 :Nat):Int)=CI 4)&&JT ⟨4,0,⟨#[]⟩,ss,[]⟩)=jA;have e1:JT ⟨4,0,⟨#[]⟩,ss,[]⟩=jA:=by
   show(AC ss&&jA&&jA)=jA;rw[this];rfl
  rw[e1];rfl
 |.name ..,b,h,x,hx=>h.elim
 |.attr i n,b,h,x,hx=>by
  rw[zS.1 hx];have h1: 0<=n/\n<6:=h;show(decide (((0 :Nat):Int)=CI 6)&&JT ⟨6,n,⟨#[]⟩,[],[]⟩)=jA;have e1:JT ⟨6,n,⟨#[]⟩,[],[]⟩=jA:=by
   show(decide (0<=n/\n<6)&&jA&&jA)=jA;rw[zL h1];rfl
  rw[e1];rfl
 |.lett i n,b,h,x,hx=>by rw[zS.1 hx];rfl
theorem AgK (h:CS op x y=X z):Bl z<=Bl (.bin 0 op x y):=by
 have hy:=(CH y).1;have r:=Eh 0 (Bl x);have s:=Eh (mx 0 (Bl x)) (Bl y);have a:∀{z:Ex},z=x\/z=y->Bl z<=Bl (.bin 0 op x y):=fun q=>by
  rw[Bl];rcases q with e|e<;>rw[e]<;>omega
 have b:∀{z:Ex},(∃c,z= .bool 0 c)->Bl z<=Bl (.bin 0 op x y):=fun ⟨c,e⟩=>by rw[e];show(1 :Int)<=mx (mx 0 (Bl x)) (Bl y)+1;omega
 by_cases d:op=25
 ·subst d;exact a (En h)
 by_cases f:op=26
 ·subst f;exact a (En h)
 by_cases g:op=16
 ·subst g;exact a (H9 h)
 by_cases i:op=17
 ·subst i;exact a (JX h)
 by_cases j:op=18
 ·subst j;rcases JF h with e|e
  ·exact a (.inl e)
  ·rw[e];show(1 :Int)<=mx (mx 0 (Bl x)) (Bl y)+1;omega
 by_cases h11:op=11
 ·subst h11;exact a (Nq h)
 by_cases h12:op=12
 ·subst h12;exact a (DQ h)
 by_cases h13:op=13
 ·subst h13;exact a (JY h)
 by_cases h14:op=14
 ·subst h14;exact a (DQ h)
 by_cases k:op=19
 ·subst k;exact b (AX h)
 by_cases l:op=22
 ·subst l;exact b (AX h)
 by_cases m:op=20
 ·subst m;exact b (AX h)
 by_cases n:op=21
 ·subst n;exact b (AX h)
 by_cases o:op=24
 ·subst o;exact b (Fi h)
 by_cases p:op=23
 ·subst p;exact b (Mc h)
 simp[CS,d,f,g,i,j,h11,h12,h13,h14,k,l,m,n,o,p]at h
theorem AaK {e:Ex}(h:e.cnt=1):Bl e=1:=by have:=CH e;omega
theorem GJ (e:Ex):Bl (FL ls e)<=Bl e:=by
 have h1:=(CH e).1;unfold FL;cases hf:Ar e with
 |some c=>show Bl c<=Bl e;rw[AaK (Tz hf)];exact h1
 |none=>
  cases a:AR ls e with
  |none=>exact Z6 _
  |some c=>
   show Bl c<=Bl e;cases e with
   |lett i n=>
    rw[AR]at a;split at a
    ·split at a
     ·cases a;rename_i hc;rw[AaK (AaH hc)];exact h1
     ·cases a
    ·cases a
   |un i op k=>
    rw[AR]at a;split at a
    ·cases k with
     |un f o j=>
      rw[Np]at a;split at a<;>cases a
      rw[Bl,Bl];have b:=Eh 0 (Bl c);have d:=Eh 0 (mx 0 (Bl c)+1);omega
     |_=>cases a
    ·cases a
   |bin i op x y=>rw[AR]at a;exact AgK a
   |ite i x y z=>
    rw[AR]at a;have b:=Eh 0 (Bl x);have d:=Eh (mx 0 (Bl x)) (Bl y);have g:=Eh (mx (mx 0 (Bl x)) (Bl y)) (Bl z);rw[Bl]
    repeat' split at a
    all_goals first|(cases a;omega)|cases a
   |_=>cases a
theorem DS {a b c d:Int}(h1:a<=c)(h2:b<=d):mx a b<=mx c d:=by unfold mx;split<;>split<;>omega
theorem Lc {ls:List Ex} :∀(e:Ex),Bl (AG ls e)<=Bl e
 |.un i op k=>by
  rw[AG];refine Int.le_trans (GJ _) ?_;rw[Bl,Bl];have:=DS (Z6 0) (Lc (ls:=ls) k);omega
 |.bin i op x y=>by
  rw[AG];refine Int.le_trans (GJ _) ?_;rw[Bl,Bl];have:=DS (DS (Z6 0) (Lc (ls:=ls) x)) (Lc (ls:=ls) y);omega
 |.ite i x y z=>by
  rw[AG];refine Int.le_trans (GJ _) ?_;rw[Bl,Bl];have:=DS (DS (DS (Z6 0) (Lc (ls:=ls) x)) (Lc (ls:=ls) y)) (Lc (ls:=ls) z);omega
 |.int i n=>by rw[AG];exact GJ _;all_goals (intros;simp_all)
 |.text i n=>by rw[AG];exact GJ _;all_goals (intros;simp_all)
 |.bool i n=>by rw[AG];exact GJ _;all_goals (intros;simp_all)
 |.set i a n c ss=>by rw[AG];exact GJ _;all_goals (intros;simp_all)
 |.name i n=>by rw[AG];exact GJ _;all_goals (intros;simp_all)
 |.attr i n=>by rw[AG];exact GJ _;all_goals (intros;simp_all)
 |.lett i n=>by rw[AG];exact GJ _;all_goals (intros;simp_all)
theorem QA (l:List Int):∀(e:Ex),Bl (Cr l e)=Bl e
 |.un .. =>by rw[Cr,Bl,Bl,QA l]
 |.bin .. =>by rw[Cr,Bl,Bl,QA l,QA l]
 |.ite .. =>by rw[Cr,Bl,Bl,QA l,QA l,QA l]
 |.int .. =>rfl
 |.text .. =>rfl
 |.bool .. =>rfl
 |.set .. =>rfl
 |.name .. =>rfl
 |.attr .. =>rfl
 |.lett .. =>rfl
def gdO (o:Option Ex):Prop:=∀e,o=X e->FM e/\Ib e/\Bl e<=64
def GdX (X:List Sx):Prop:=∀x∈X,gdO x.cond/\gdO x.grant
theorem Aes (h1:∀c∈ls,FM c)(h2:∀c∈ls,Ib c)(h:gdO o):gdO (o.map (AG ls)):=fun e he=>by
 cases o with
 |none=>cases he
 |some a=>
  obtain⟨g1,g2,g3⟩:=h a rfl;cases he;exact⟨Er h1 a g1,Ge h2 a g2,Int.le_trans (Lc a) g3⟩
theorem AaM:∀(S:List Sx) (ls:List Ex),(∀c∈ls,FM c)->(∀c∈ls,Ib c)->GdX S->GdX (Ce ls S)
 |[],_,_,_,_,x,hx=>by cases hx
 |x ::S,ls,h1,h2,h,y,hy=>by
  rw[Ce]at hy;have hx:=h x za;have c1:=Aes h1 h2 hx.1;rcases zP.1 hy with e|e
  ·rw[e];exact⟨c1,Aes h1 h2 hx.2⟩
  ·have b:∀c∈Pg ls (Ef ls x),FM c/\Ib c:=fun c hc=>by
    rw[Pg]at hc;split at hc
    ·rcases zN.1 hc with q|q
     ·exact⟨h1 c q,h2 c q⟩
     ·rw[zS.1 q];cases d:(Ef ls x).cond with
      |none=>exact⟨trivial,trivial⟩
      |some a=>exact⟨(c1 a d).1,(c1 a d).2.1⟩
    ·exact⟨h1 c hc,h2 c hc⟩
   exact AaM S _ (fun c hc=>(b c hc).1) (fun c hc=>(b c hc).2) (fun z f=>h z (zf _ f)) y e
theorem AaN:∀(S:List Sx),GdX S->GdX (Bb S)
 |[],_,x,hx=>by cases hx
 |x ::S,h,y,hy=>by
  have a:=AaN S (fun z b=>h z (zf _ b));rw[Bb]at hy;split at hy
  ·exact a y hy
  ·split at hy
   ·rw[zS.1 hy];exact⟨fun e he=>(by cases he),(h x za).2⟩
   ·rcases zP.1 hy with e|e
    ·rw[e];exact h x za
    ·exact a y e
theorem QB (l:List Int):∀(e:Ex),Ib e->Ib (Cr l e)
 |.un _ _ k,h=>QB l k h
 |.bin _ _ x y,h=>⟨QB l x h.1,QB l y h.2⟩
 |.ite _ x y z,h=>⟨QB l x h.1,QB l y h.2.1,QB l z h.2.2⟩
 |.int ..,h=>h
 |.text ..,h=>h
 |.bool ..,h=>h
 |.set ..,h=>h
 |.name ..,h=>h
 |.attr ..,h=>h
 |.lett ..,h=>h
theorem Aet (l:List Int)(h:gdO o):gdO (o.map (Cr l)):=fun e he=>by
 cases o with
 |none=>cases he
 |some a=>
  obtain⟨g1,g2,g3⟩:=h a rfl;cases he;exact⟨Qz l a g1,QB l a g2,by rw[QA];exact g3⟩
theorem IJ:∀(S:List Sx) (n:Int),((Ed n S).map Prod.fst).Sublist S
 |[],_=>List.Sublist.slnil
 |x ::S,n=>by
  rw[Ed];split
  ·split
   ·exact(IJ S (n+1)).cons x
   ·exact(IJ S (n+1)).cons_cons x
  ·exact(IJ S n).cons_cons x
theorem QD (X:List Sx):Qt X=((Ed 0 X).map Prod.fst).map (MN (CC (Ed 0 X))):=by rw[Qt,z7];rfl
theorem UD {X:List Sx}(h:GdX X):GdX (BM X):=by
 have h1:=AaN _ (AaM X [] (fun c hc=>by cases hc) (fun c hc=>by cases hc) h);intro y hy;rw[BM,QD]at hy;obtain⟨z,a,rfl⟩:=zg.1 hy;have:=h1 z ((IJ _ 0).subset a);exact⟨Aet _ this.1,Aet _ this.2⟩
def I8:List Sx->Prop
 |[]=>False
 |x ::S=>(x.kind=3/\S=[])\/(x.kind≠3/\I8 S)
def nmX (X:List Sx):Prop:=∀x∈X,(x.kind=1->Dm x.name=jA)/\(x.kind≠1->x.name=⟨#[]⟩)
def MP (X:List Sx):List ByteArray:=(X.filter fun x=>decide (x.kind=1)).map Sx.name
theorem WQ:∀{S:List Sx},I8 S->AgF S
 |x ::S,h=>by
  rcases h with⟨h1,h2⟩|⟨h1,h2⟩
  ·exact⟨fun _=>h2,by rw[h2];trivial⟩
  ·exact⟨fun e=>absurd e h1,WQ h2⟩
theorem QE:∀(S:List Sx) (ls:List Ex),I8 S->I8 (Ce ls S)
 |x ::S,ls,h=>by
  rw[Ce];rcases h with⟨h1,h2⟩|⟨h1,h2⟩
  ·exact .inl ⟨h1,by rw[h2];rfl⟩
  ·exact .inr ⟨h1,QE S _ h2⟩
theorem AaO:∀(S:List Sx) (ls:List Ex),nmX S->nmX (Ce ls S)/\MP (Ce ls S)=MP S
 |[],_,_=>⟨fun x hx=>(by cases hx),rfl⟩
 |x ::S,ls,h=>by
  rw[Ce];obtain⟨c,b⟩:=AaO S (Pg ls (Ef ls x)) (fun z d=>h z (zf _ d));refine⟨fun y hy=>?_,?_⟩
  ·rcases zP.1 hy with e|e
   ·rw[e];exact h x za
   ·exact c y e
  ·unfold MP at b|-;by_cases a:x.kind=1
   ·rw[List.filter_cons_of_pos (by exact zL (show(Ef ls x).kind=1 from a)),List.filter_cons_of_pos (by exact zL a),jd,jd,b];rfl
   ·rw[List.filter_cons_of_neg (by rw[zI];exact(show ¬ (Ef ls x).kind=1 from a)),List.filter_cons_of_neg (by rw[zI];exact a),b]
theorem QF:∀(S:List Sx),I8 S->I8 (Bb S)
 |x ::S,h=>by
  rw[Bb];rcases h with⟨h1,h2⟩|⟨h1,h2⟩
  ·rw[if_neg (by omega),if_neg (by omega),h2];exact .inl ⟨h1,rfl⟩
  ·have a:=QF S h2;split
   ·exact a
   ·split
    ·exact .inl ⟨rfl,rfl⟩
    ·exact .inr ⟨h1,a⟩
theorem AgM {B:List Sx}(h:A.Sublist B):(MP A).Sublist (MP B):=(h.filter _).map _
theorem AaP:∀(S:List Sx),nmX S->nmX (Bb S)/\(MP (Bb S)).Sublist (MP S)
 |[],_=>⟨fun x hx=>(by cases hx),List.Sublist.slnil⟩
 |x ::S,h=>by
  obtain⟨d,a⟩:=AaP S (fun z f=>h z (zf _ f));have ec:∀(b:List Sx),MP (x ::b)=if x.kind=1 then x.name ::MP b else MP b:=fun b=>by
   unfold MP;by_cases c:x.kind=1
   ·rw[List.filter_cons_of_pos (by exact zL c),if_pos c];rfl
   ·rw[List.filter_cons_of_neg (by simpa using c),if_neg c]
  rw[Bb];split
  ·refine⟨d,?_⟩;rw[ec];split
   ·exact a.cons _
   ·exact a
  ·split
   ·refine⟨fun y hy=>?_,?_⟩
    ·rw[zS.1 hy];exact⟨fun e=>absurd (show(3 :Int)=1 from e) (by decide),fun _=>rfl⟩
    ·exact List.nil_sublist _
   ·refine⟨fun y hy=>?_,?_⟩
    ·rcases zP.1 hy with e|e
     ·rw[e];exact h x za
     ·exact d y e
    ·rw[ec,ec];split
     ·exact a.cons_cons _
     ·exact a
theorem Mf:∀(S:List Sx) (n:Int) (l:List Int),I8 S->I8 (((Ed n S).map Prod.fst).map (MN l))
 |x ::S,n,l,h=>by
  rw[Ed];rcases h with⟨h1,h2⟩|⟨h1,h2⟩
  ·rw[if_neg (by omega),h2];exact .inl ⟨h1,rfl⟩
  ·split
   ·split
    ·exact Mf S (n+1) l h2
    ·exact .inr ⟨h1,Mf S (n+1) l h2⟩
   ·exact .inr ⟨h1,Mf S n l h2⟩
theorem Aeu (l:List Int)(X:List Sx):MP (X.map (MN l))=MP X:=by
 unfold MP;rw[List.filter_map,z7];rfl
theorem Pq {X:List Sx}(h1:I8 X)(h2:nmX X):I8 (BM X)/\nmX (BM X)/\(MP (BM X)).Sublist (MP X):=by
 have a1:=QF _ (QE X [] h1);obtain⟨b1,b2⟩:=AaO X [] h2;obtain⟨c1,c2⟩:=AaP _ b1;rw[BM,QD];refine⟨Mf _ 0 _ a1,fun y hy=>?_,?_⟩
 ·obtain⟨z,a,rfl⟩:=zg.1 hy;exact c1 z ((IJ _ 0).subset a)
 ·rw[Aeu,<-b2];exact(AgM (IJ _ 0)).trans c2
theorem Qj (S:List Sx):(BM S).length<=S.length:=by
 have l1:∀(S:List Sx) (ls:List Ex),(Ce ls S).length=S.length:=fun S=>by
  induction S with
  |nil=>intro ls;rfl
  |cons x S a=>intro ls;rw[Ce,jY,jY,a]
 have b:∀(S:List Sx),(Bb S).length<=S.length:=fun S=>by
  induction S with
  |nil=>exact NLN
  |cons x S a=>
   rw[Bb,jY];split
   ·omega
   ·split
    ·simp
    ·rw[jY];omega
 rw[BM,QD,ze];have:=(IJ (Bb (Ce [] S)) 0).length_le;have:=b (Ce [] S);rw[l1]at this;omega
theorem AaQ:∀(S:List Sx) (b:Nat) (ts:List Int),IE ts S->I8 S->nmX S->BX (BK b S)=jA
 |x ::S,b,ts,h,he,hn=>by
  have hx:=hn x za;have hs:DY ⟨x.kind,x.name,GD x.cond b,GD x.grant (b+AF x.cond)⟩=jA:=by
   rcases h with⟨k,e,t,h1,h2,h3,h4⟩|⟨k,h1,h3,h4⟩|⟨k,h1,h3,h4⟩
   ·simp[DY,k,hx.1 k,h3,GD]
   ·rw[DY,if_neg (by show ¬ x.kind=1;omega),if_pos (show x.kind=2 from k)];show decide (x.name.size=0)=jA;rw[hx.2 (by omega)];rfl
   ·rw[DY,if_neg (by show ¬ x.kind=1;omega),if_neg (by show ¬ x.kind=2;omega),if_pos (show x.kind=3 from k)];show(decide (x.name.size=0)&&decide (GD x.cond b= -1))=jA;rw[hx.2 (by omega),h1];rfl
  rw[BK,BX,hs];rcases he with⟨h1,h2⟩|⟨h1,h2⟩
  ·rw[h2];simp[BK,BX,h1]
  ·have a:∃c,IE c S:=by
    rcases h with⟨_,_,t,_,_,_,h4⟩|⟨_,_,_,h4⟩|⟨_,_,_,h4⟩
    ·exact⟨_,h4⟩
    ·exact⟨_,h4⟩
    ·exact⟨_,h4⟩
   obtain⟨c,a⟩:=a;rw[AaQ S _ c a h2 (fun z d=>hn z (zf _ d))];cases S with
   |nil=>exact h2.elim
   |cons y f=>simp[BK,h1]
theorem IB:∀(S:List Sx) (b:Nat),GdX S->∀x∈AM b S,AD x=jA
 |[],_,_,x,hx=>by cases hx
 |y ::S,b,h,x,hx=>by
  have hy:=h y za;have a:∀(o:Option Ex) (c:Nat),gdO o->x∈Kk o c->AD x=jA:=fun o c d hq=>by
   cases o with
   |none=>cases hq
   |some e=>exact EN e c (d e rfl).1 x hq
  rw[AM]at hx;rcases zN.1 hx with q|q
  ·rcases zN.1 q with q|q
   ·exact a _ _ hy.1 q
   ·exact a _ _ hy.2 q
  ·exact IB S _ (fun z f=>h z (zf _ f)) x q
theorem Wp {S:List Sx}(h1:IE [] S)(h2:GdX S)(h3:I8 S)(h4:nmX S)(hc:Bu S<=4000)(f:S.length<=600):Bn (AM 0 S) (BK 0 S)=jA:=by
 have g:∀(S:List Sx) (ts:List Int),IE ts S->∀x∈S,(x.kind=3↔x.cond=T):=fun S=>by
  induction S with
  |nil=>intro ts _ x hx;cases hx
  |cons y S b=>
   intro ts h x hx;rcases zP.1 hx with e|e
   ·subst e;rcases h with⟨k,e,t,a,_⟩|⟨k,⟨e,a,_⟩,_⟩|⟨k,a,_⟩
    ·simp[k,a]
    ·simp[k,a]
    ·simp[k,a]
   ·rcases h with⟨_,_,t,_,_,_,h4⟩|⟨_,_,_,h4⟩|⟨_,_,_,h4⟩
    ·exact b _ h4 x e
    ·exact b _ h4 x e
    ·exact b _ h4 x e
 have c:∀{o:Option Ex},gdO o->dpO o<=64:=fun {o} h=>by
  cases o with
  |none=>exact(by decide:(0 :Int)<=64)
  |some e=>exact(h e rfl).2.2
 obtain⟨l,g1,g2,g3⟩:=PM (AM 0 S) S 0 (fun j y hy=>by rw[zU];exact hy) (fun y hy=>⟨c (h2 y hy).1,c (h2 y hy).2,g S [] h1 y hy⟩);have d:=Om g1 [] g3;rw[zU,Nat.sub_zero,List.nil_append,<-El S 0]at d;have i: 1<=S.length:=by
  cases S with
  |nil=>exact h3.elim
  |cons=>simp
 simp only[Bn,zF,zI];refine⟨⟨⟨by rw[El];exact hc,⟨by rw[Fh];exact i,by rw[Fh];exact f⟩,AaQ S 0 [] h1 h3 h4⟩,z1.2 (IB S 0 h2)⟩,?_⟩;rw[Ei,d];exact zL g2
section
variable {aS aO aZ aW : jD} {G : Nat -> Prop}
theorem Bf:∀{e:Ex},FM e->e.typed
 |.un ..,h=>⟨h.1,Bf h.2⟩
 |.bin ..,h=>⟨h.1,Bf h.2.1,Bf h.2.2⟩
 |.ite ..,h=>⟨Bf h.1,Bf h.2.1,Bf h.2.2⟩
 |.int ..,h=>trivial
 |.text ..,h=>trivial
 |.bool ..,h=>trivial
 |.set ..,h=>trivial
 |.name ..,h=>h
 |.attr ..,h=>h
 |.lett ..,h=>trivial
theorem Ot:∀(e:Ex),FM e.st↔FM e
 |.un _ _ k=>by simp only[Ex.st,FM,Ot k]
 |.bin _ _ k l=>by simp only[Ex.st,FM,Ot k,Ot l]
 |.ite _ k l m=>by simp only[Ex.st,FM,Ot k,Ot l,Ot m]
 |.int .. =>Iff.rfl
 |.text .. =>Iff.rfl
 |.bool .. =>Iff.rfl
 |.set .. =>Iff.rfl
 |.name .. =>Iff.rfl
 |.attr .. =>Iff.rfl
 |.lett .. =>Iff.rfl
theorem FO {e f:Ex}(h:e.st=f.st)(hf:FM f):FM e:=(Ot e).1 (h ▸ (Ot f).2 hf)
theorem Fb {e f:Ex}(h:e.st=f.st):Al ts e=Al ts f:=by rw[<-Fr ts e,h,Fr]
theorem Ra {e f:Ex}(h:e.st=f.st):(FL ls e).st=(FL ls f).st:=by rw[<-Ft,h,Ft]
def OzS (G:Nat->Prop) (w:Z) (zb:Nat) (ls:List Ex):Prop:=∃rb la lc,(∃f2 f3 f6 f7 f8 f9 f10 f11 f12 f13 f14 f15 f16 c2 c3 c13 c14,OzM w zb rb f2 f3 f6 f7 f8 f9 f10 f11 f12 f13 f14 f15 f16 c2 c3 c13 c14)/\LtM G w zb (.slice (X ⟨rb,0,T⟩) 17 17) la lc ls
theorem OzS.below {w w':Z}{zb:Nat}{ls:List Ex}(h:OzS G w zb ls)(a:Below w.heap.size w w'):OzS G w' zb ls:=by
 obtain⟨b,c,d,⟨f,g,i,j,k,l,m,n,o,p,q,r,s,c2,c3,t,u,h1⟩,h2⟩:=h;exact⟨b,c,d,⟨f,g,i,j,k,l,m,n,o,p,q,r,s,c2,c3,t,u,h1.below a⟩,h2.below a⟩
theorem Ae0 {zb c:Nat}{k l o p q r s t u v z A B:R}{c2 C D:Nat}(h:OzM w zb c k l o p q r s t u v z A B c2 c' C D){F:Option jD}{H:Nat}{I:R}(L:LtM G w zb I F H ls)(E:∀b,w.heap.size<=b->G b)(hS:CZ w aS aO aZ aW)(ts:List Int)(J:ts.length=ls.length):AeT G w (X ⟨c,0,T⟩) (TH ts) (Q9 ls):=by
 have d:=h.row.lt;have hc:=fun (j:Nat)=>h.row.cell j;have K:Ih G w k (TH ts) (Fa [25] (JC jA)):=by
  obtain⟨g,i,hv,M⟩:=h.x2.m (by decide);rw[hv];exact Mp M (fun args w=>Bm func142 (by kernel_rfl) (by kernel_rfl) args w) _ _ (fun x y a f mx my=>Xb jA c2 _ x y a (h.r2.after f NLN) mx my)
 have N:Ih G w l (TH ts) (Fa [26] (JC jC)):=by
  obtain⟨g,i,hv,M⟩:=h.x3.m (by decide);rw[hv];exact Mp M (fun args w=>Bm func142 (by kernel_rfl) (by kernel_rfl) args w) _ _ (fun x y a f mx my=>Xb jC c' _ x y a (h.r3.after f NLN) mx my)
 have O:Ih G w o (TH ts) (Fa [16] (Gd)):=by
  obtain⟨g,i,hv,M⟩:=h.x6.m (by decide);rw[hv];exact Ey M (fun args w=>Bm func99 (by kernel_rfl) (by kernel_rfl) args w) _ _ (fun x y a f mx my=>Acm x y a mx my)
 have P:Ih G w p (TH ts) (Fa [17] (JD)):=by
  obtain⟨g,i,hv,M⟩:=h.x7.m (by decide);rw[hv];exact Ey M (fun args w=>Bm func100 (by kernel_rfl) (by kernel_rfl) args w) _ _ (fun x y a f mx my=>AeJ x y a mx my)
 have S:Ih G w q (TH ts) (Fa [18] (GF)):=by
  obtain⟨g,i,hv,M⟩:=h.x8.m (by decide);rw[hv];exact Ey M (fun args w=>Bm func101 (by kernel_rfl) (by kernel_rfl) args w) _ _ (fun x y a f mx my=>Acn x y a mx my)
 have W:Ih G w r (TH ts) (Fa [11] (Qo)):=by
  obtain⟨g,i,hv,M⟩:=h.x9.m (by decide);rw[hv];exact Ey M (fun args w=>Bm func102 (by kernel_rfl) (by kernel_rfl) args w) _ _ (fun x y a f mx my=>Ag4 x y a mx my)
 have aa:Ih G w s (TH ts) (Fa [12] (EE 0)):=by
  obtain⟨g,i,hv,M⟩:=h.x10.m (by decide);rw[hv];exact Ey M (fun args w=>Bm func103 (by kernel_rfl) (by kernel_rfl) args w) _ _ (fun x y a f mx my=>AeK x y a mx my)
 have ab:Ih G w t (TH ts) (Fa [13] (JE)):=by
  obtain⟨g,i,hv,M⟩:=h.x11.m (by decide);rw[hv];exact Ey M (fun args w=>Bm func104 (by kernel_rfl) (by kernel_rfl) args w) _ _ (fun x y a f mx my=>AeL x y a mx my)
 have ac:Ih G w u (TH ts) (Fa [14] (EE 1)):=by
  obtain⟨g,i,hv,M⟩:=h.x12.m (by decide);rw[hv];exact Ey M (fun args w=>Bm func105 (by kernel_rfl) (by kernel_rfl) args w) _ _ (fun x y a f mx my=>Ag5 x y a mx my)
 have ad:Ih G w v (TH ts) (Fa [19,22,24] (Em jA)):=by
  obtain⟨g,i,hv,M⟩:=h.x13.m (by decide);rw[hv];exact Mp M (fun args w=>Bm func147 (by kernel_rfl) (by kernel_rfl) args w) _ _ (fun x y a f mx my=>Xc jA C _ x y a (h.r13.after f NLN) mx my)
 have ae:Ih G w z (TH ts) (Fa [20,21] (Em jC)):=by
  obtain⟨g,i,hv,M⟩:=h.x14.m (by decide);rw[hv];exact Mp M (fun args w=>Bm func147 (by kernel_rfl) (by kernel_rfl) args w) _ _ (fun x y a f mx my=>Xc jC D _ x y a (h.r14.after f NLN) mx my)
 have af:Ih G w A (TH ts) (Fa [24] (TG)):=by
  obtain⟨g,i,hv,M⟩:=h.x15.m (by decide);rw[hv];exact Ey M (fun args w=>Bm func107 (by kernel_rfl) (by kernel_rfl) args w) _ _ (fun x y a f mx my=>Zb x y a mx my)
 have ag:Ih G w B (TH ts) (Fa [23] (inE)):=by
  obtain⟨g,i,hv,M⟩:=h.x16.m (by decide);rw[hv];exact Ey M (fun args w=>Bm func108 (by kernel_rfl) (by kernel_rfl) args w) _ _ (fun x y a f mx my=>Aiu x y a mx my)
 intro j ah
 match j,ah with
 |0,_=>exact⟨c,0,_,rfl,d,hc 0,AeY L ts J⟩
 |1,_=>exact⟨c,0,_,rfl,d,hc 1,Acv E hS ts⟩
 |2,_=>exact⟨c,0,_,rfl,d,hc 2,K⟩
 |3,_=>exact⟨c,0,_,rfl,d,hc 3,N⟩
 |4,_=>exact⟨c,0,_,rfl,d,hc 4,AeX E hS ts⟩
 |5,_=>exact⟨c,0,_,rfl,d,hc 5,Ahg _⟩
 |6,_=>exact⟨c,0,_,rfl,d,hc 6,O⟩
 |7,_=>exact⟨c,0,_,rfl,d,hc 7,P⟩
 |8,_=>exact⟨c,0,_,rfl,d,hc 8,S⟩
 |9,_=>exact⟨c,0,_,rfl,d,hc 9,W⟩
 |10,_=>exact⟨c,0,_,rfl,d,hc 10,aa⟩
 |11,_=>exact⟨c,0,_,rfl,d,hc 11,ab⟩
 |12,_=>exact⟨c,0,_,rfl,d,hc 12,ac⟩
 |13,_=>exact⟨c,0,_,rfl,d,hc 13,ad⟩
 |14,_=>exact⟨c,0,_,rfl,d,hc 14,ae⟩
 |15,_=>exact⟨c,0,_,rfl,d,hc 15,af⟩
 |16,_=>exact⟨c,0,_,rfl,d,hc 16,ag⟩
 |n+17,hn=>exact absurd hn (by simp[Q9])
theorem Mq {w0:Z}{zb:Nat}(h:OzS G w0 zb ls)(d:∀b,w0.heap.size<=b->G b)(hS:CZ w0 aS aO aZ aW)(ts:List Int)(f:ts.length=ls.length)(e:Ex)(a:Z)(c:Below w0.heap.size w0 a)(g:TH ts e)(m:e.mem G a):Calls j4 58 #[.pointer (X ⟨zb,0,T⟩),e.val] a (Fw G (FL ls e) a):=by
 obtain⟨i,j,k,⟨l,n,o,p,q,r,s,t,u,v,w,x,y,c2,c3,z,A,h1⟩,h2⟩:=h;have L:=h2.below c;rw[<-Xi];exact SC zb 17 17 (X ⟨i,0,T⟩) _ (TH ts) (Q9 ls) a rfl (by decide) L.row (Ae0 (h1.below c) L (fun b h=>d b (zB c.size h)) (hS.below c NLN) ts f) e g m
theorem DA (args:Array R)(w:Z):(callFunc 58 args).run j4 w= .ok (.enter 58 args) w:=Bm func58 (by kernel_rfl) (by kernel_rfl) args w
theorem Fw.like (h:x.st=y.st){b:Ending}(a:Fw G x w b w'):Fw G y w b w':=by
 obtain⟨e,h1,h2⟩:=a;exact⟨e,h1.trans h,h2⟩
theorem Lh {w0:Z}{zb:Nat}{ls:List Ex}(h:OzS G w0 zb ls)(q:∀b,w0.heap.size<=b->G b)(hS:CZ w0 aS aO aZ aW)(ts:List Int)(r:ts.length=ls.length)(hy:Fu ts ls)(hg:∀c∈ls,FM c):∀(e:Ex),FM e->(∃t,Al ts e=X t)->e.mem G w0->RbX G 58 #[.pointer (X ⟨zb,0,T⟩)] #[] w0 e.val (AG ls e)
 |.un i op k,g,t,m=>by
  obtain⟨t,d⟩:=t;have s:∃a,Al ts k=X a:=by
   rw[Al]at d;cases s:Al ts k with
   |none=>rw[s]at d;cases d
   |some a=>exact⟨a,rfl⟩
  have K:=Lh h q hS ts r hy hg k g.2 s m;obtain⟨a,u⟩:=s;obtain⟨y,z,v⟩:=k.form;rw[v]at K;simp only[Ex.val,v];refine AeU _ _ _ (Ab DA) w0 i op y z _ (Ab K) _ (Ab fun e1 j s1 f A=>?_);refine(Mq h q hS ts r (.un i op e1) j f ⟨⟨g.1,Bf (FO s1 (Er hg k g.2))⟩,t,?_⟩ A).mono fun w w' p=>p.like ?_
  ·rw[Al]at d|-;rw[Fb s1,BP hy k a u];rw[u]at d;exact d
  ·rw[AG];exact Ra (by simp only[Ex.st,s1])
 |.bin i op k l,g,t,m=>by
  obtain⟨t,d⟩:=t;have s:∃a b,Al ts k=X a/\Al ts l=X b:=by
   rw[Al]at d;cases s:Al ts k with
   |none=>rw[s]at d;cases d
   |some a=>
    cases E:Al ts l with
    |none=>rw[s,E]at d;cases d
    |some b=>exact⟨a,b,rfl,rfl⟩
  obtain⟨a,b,u,x⟩:=s;have B:=Lh h q hS ts r hy hg k g.2.1 ⟨a,u⟩ m.1;have C:=Lh h q hS ts r hy hg l g.2.2 ⟨b,x⟩ m.2;obtain⟨y,z,v⟩:=k.form;obtain⟨F,H,D⟩:=l.form;rw[v]at B;rw[D]at C;simp only[Ex.val,v,D];refine Aa1 _ _ _ (Ab DA) w0 i op y z _ (Ab B) F H _ (Ab C) _ (Ab fun e1 e2 j s1 s2 f A I=>?_);refine(Mq h q hS ts r (.bin i op e1 e2) j f ⟨⟨g.1,Bf (FO s1 (Er hg k g.2.1)),Bf (FO s2 (Er hg l g.2.2))⟩,t,?_⟩ ⟨A,I⟩).mono fun w w' p=>p.like ?_
  ·rw[Al]at d|-;rw[Fb s1,BP hy k a u,Fb s2,BP hy l b x];rw[u,x]at d;exact d
  ·rw[AG];exact Ra (by simp only[Ex.st,s1,s2])
 |.ite i k l o,g,t,m=>by
  obtain⟨t,d⟩:=t;have s:∃a b c,Al ts k=X a/\Al ts l=X b/\Al ts o=X c:=by
   rw[Al]at d;cases s:Al ts k with
   |none=>rw[s]at d;cases d
   |some a=>
    cases E:Al ts l with
    |none=>rw[s,E]at d;cases d
    |some b=>
     cases N:Al ts o with
     |none=>rw[s,E,N]at d;cases d
     |some c=>exact⟨a,b,c,rfl,rfl,rfl⟩
  obtain⟨a,b,c,u,x,hc⟩:=s;have B:=Lh h q hS ts r hy hg k g.1 ⟨a,u⟩ m.1;have C:=Lh h q hS ts r hy hg l g.2.1 ⟨b,x⟩ m.2.1;have L:=Lh h q hS ts r hy hg o g.2.2 ⟨c,hc⟩ m.2.2;obtain⟨y,z,v⟩:=k.form;obtain⟨F,H,D⟩:=l.form;obtain⟨O,P,M⟩:=o.form;rw[v]at B;rw[D]at C;rw[M]at L;simp only[Ex.val,v,D,M];refine Aa2 _ _ _ (Ab DA) w0 i y z _ (Ab B) F H _ (Ab C) O P _ (Ab L) _ (Ab fun e1 e2 e3 j s1 s2 J f A I S=>?_);refine(Mq h q hS ts r (.ite i e1 e2 e3) j f ⟨⟨Bf (FO s1 (Er hg k g.1)),Bf (FO s2 (Er hg l g.2.1)),Bf (FO J (Er hg o g.2.2))⟩,t,?_⟩ ⟨A,I,S⟩).mono fun w w' p=>p.like ?_
  ·rw[Al]at d|-;rw[Fb s1,BP hy k a u,Fb s2,BP hy l b x,Fb J,BP hy o c hc];rw[u,x,hc]at d;exact d
  ·rw[AG];exact Ra (by simp only[Ex.st,s1,s2,J])
 |.int i n,g,t,m=>CA _ _ _ (Ab DA) w0 _ _ _ (by decide) (by decide) (by decide) (Ab fun j f=>(Mq h q hS ts r (.int i n) j f ⟨Bf g,t⟩ (Ex.mem_below f NLN (.int i n) m)).mono fun w w' p=>p.like (by rw[AG];all_goals (intros;simp_all)))
 |.text i n,g,t,m=>CA _ _ _ (Ab DA) w0 _ _ _ (by decide) (by decide) (by decide) (Ab fun j f=>(Mq h q hS ts r (.text i n) j f ⟨Bf g,t⟩ (Ex.mem_below f NLN (.text i n) m)).mono fun w w' p=>p.like (by rw[AG];all_goals (intros;simp_all)))
 |.bool i n,g,t,m=>CA _ _ _ (Ab DA) w0 _ _ _ (by decide) (by decide) (by decide) (Ab fun j f=>(Mq h q hS ts r (.bool i n) j f ⟨Bf g,t⟩ (Ex.mem_below f NLN (.bool i n) m)).mono fun w w' p=>p.like (by rw[AG];all_goals (intros;simp_all)))
 |.set i a n c ss,g,t,m=>CA _ _ _ (Ab DA) w0 _ _ _ (by decide) (by decide) (by decide) (Ab fun j f=>(Mq h q hS ts r (.set i a n c ss) j f ⟨Bf g,t⟩ (Ex.mem_below f NLN (.set i a n c ss) m)).mono fun w w' p=>p.like (by rw[AG];all_goals (intros;simp_all)))
 |.attr i n,g,t,m=>CA _ _ _ (Ab DA) w0 _ _ _ (by decide) (by decide) (by decide) (Ab fun j f=>(Mq h q hS ts r (.attr i n) j f ⟨Bf g,t⟩ (Ex.mem_below f NLN (.attr i n) m)).mono fun w w' p=>p.like (by rw[AG];all_goals (intros;simp_all)))
 |.lett i n,g,t,m=>CA _ _ _ (Ab DA) w0 _ _ _ (by decide) (by decide) (by decide) (Ab fun j f=>(Mq h q hS ts r (.lett i n) j f ⟨Bf g,t⟩ (Ex.mem_below f NLN (.lett i n) m)).mono fun w w' p=>p.like (by rw[AG];all_goals (intros;simp_all)))
 |.name ..,g,t,m=>absurd g id
end
end Go.Proofs.YteiieikcjcfkkaaGreatDoor
