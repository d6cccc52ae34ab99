import Derived.Test.YteiieikcjcfkkaaGreatDoorMXAF
import Derived.Test.YteiieikcjcfkkaaGreatDoorMXAH
import Derived.Test.YteiieikcjcfkkaaGreatDoorMXAD
open Go.Proofs.Tryz
open Option renaming none->T,some->X
open Go.Value renaming int->U,slice->Y,string->Q
open Go.IntKind renaming i64->V
open Go renaming World->Z,Value->R,Addr->jD,Calls->jE,maxLen->jM,wpList_append_own->jk
open Bool renaming true->jA,false->jC
open Go.World.ownsRow renaming alloc->jV
open List renaming length_cons->jY
open Go.Proofs.Tryz renaming prog->j4
namespace Go.Proofs.YteiieikcjcfkkaaGreatDoor
set_option maxRecDepth 100000
set_option maxHeartbeats 3200000
open Go.RowKit
set_option linter.unusedVariables false
variable {b n c:Nat}{a:Option jD}{t:TypeId}{w w':Z}
def VR (x:Nd):Bool:=
 if x.op=1 then decide (0<=x.num)&&decide (x.text.size=0)&&decide (x.names.length=0)
 else if x.op=2 then CJ x.text&&decide (x.num=0)&&decide (x.names.length=0)
 else if x.op=3 then decide (x.num=0\/x.num=1)&&decide (x.text.size=0)&&decide (x.names.length=0)
 else if x.op=4 then AC x.names&&decide (x.num=0)&&decide (x.text.size=0)
 else if x.op=5 then Dm x.text&&decide (x.num=0)&&decide (x.names.length=0)
 else if x.op=6\/x.op=7 then jC
 else decide (x.num=0)&&decide (x.text.size=0)&&decide (x.names.length=0)
theorem LM (x:Nd)(an:Option jD)(nn cn:Nat)(l:Option jD)(m n:Nat)(w:Z)(p:Ap w an nn cn x.names)(hs:x.text.size<=1048576):
  jE j4 90 #[ndV x.op x.num x.text an nn cn l m n] w fun e w'=>e= .returned (.bool (VR x))/\Ah w w':=by
 have r:=p.len;obtain⟨op,num,text,names,kids⟩:=x;simp only at p hs r|-;have s:=Ag.new w #[U V op,U V num,Q text,Y an nn cn,Y l m n] 85;have t:=Av w (Dw op num text an nn cn l m n);have C:=p.below t NLN;have F:=Ab r;clear r;have a:=Ab (show VR ⟨op,num,text,names,kids⟩=(if op=1 then decide (0<=num)&&decide (text.size=0)&&decide (names.length=0)else if op=2 then CJ text&&decide (num=0)&&decide (names.length=0)else if op=3 then decide (num=0\/num=1)&&decide (text.size=0)&&decide (names.length=0)else if op=4 then AC names&&decide (num=0)&&decide (text.size=0)else if op=5 then Dm text&&decide (num=0)&&decide (names.length=0)else if op=6\/op=7 then jC else decide (num=0)&&decide (text.size=0)&&decide (names.length=0))from rfl);rw[<-Aa F]at a;generalize VR ⟨op,num,text,names,kids⟩=G at a|-;unfold ndV;have H:=Cs text;obtain⟨f,c1,c2,c3,c4,g⟩:=AP s;go_enter func90,ntmps90
 go_wp2_with fail
 generalize w.alloc (Dw op num text an nn cn l m n)=q at*;go_region
 have h:Ag q.drew w.heap.size #[U V op,U V num,Q text,Y an nn cn,Y l m n] 85:=⟨s.out⟩
 have b:Ah w q.drew:=t.drew;have d:Ap q.drew an nn cn names:=C.drew';clear s t C f c1 c2 c3 c4 g p;generalize q.drew=I at h b d|-;obtain⟨f,c1,c2,c3,c4,g⟩:=AP h;by_cases u:op=1
 ·subst u;have a:=Ab ((Aa a).trans (by rw[if_pos rfl]));go_wp2
  all_goals
   go_ret
   refine⟨Ad ?_,b⟩;rw[Aa a];have j:text.toList.isEmpty=decide (text.size=0):=by rw[zO,z3,decide_eq_true_iff];exact Cs text
   have k:((nn:Int)==0)=decide (nn=0):=by rw[zO];simp
   clear a h b d f c1 c2 c3 c4 g
   simp_all
   try omega
 by_cases o2:op=2
 ·subst o2;have a:=Ab ((Aa a).trans (by rw[if_neg (by omega),if_pos rfl]));cases hq:CJ text
  ·have c:=Ab hq;clear hq;go_wp2_with (go_at_call 131;refine(GE _ _ (by unfold jM;omega)).mono ?_;rintro e o ⟨rfl,i⟩;rw[<-Lu,Aa c,i];clear i)
   all_goals
    go_ret
    refine⟨Ad ?_,b⟩;rw[Aa a];have hq:=Aa c;have j:text.toList.isEmpty=decide (text.size=0):=by rw[zO,z3,decide_eq_true_iff];exact Cs text
    have k:((nn:Int)==0)=decide (nn=0):=by rw[zO];simp
    clear a h b d f c1 c2 c3 c4 g
    simp_all
    try omega
  ·have c:=Ab hq;clear hq;go_wp2_with (go_at_call 131;refine(GE _ _ (by unfold jM;omega)).mono ?_;rintro e o ⟨rfl,i⟩;rw[<-Lu,Aa c,i];clear i)
   all_goals
    go_ret
    refine⟨Ad ?_,b⟩;rw[Aa a];have hq:=Aa c;have j:text.toList.isEmpty=decide (text.size=0):=by rw[zO,z3,decide_eq_true_iff];exact Cs text
    have k:((nn:Int)==0)=decide (nn=0):=by rw[zO];simp
    clear a h b d f c1 c2 c3 c4 g
    simp_all
    try omega
 by_cases v:op=3
 ·subst v;have a:=Ab ((Aa a).trans (by rw[if_neg (by omega),if_neg (by omega),if_pos rfl]));go_wp2
  all_goals
   go_ret
   refine⟨Ad ?_,b⟩;rw[Aa a];have j:text.toList.isEmpty=decide (text.size=0):=by rw[zO,z3,decide_eq_true_iff];exact Cs text
   have k:((nn:Int)==0)=decide (nn=0):=by rw[zO];simp
   clear a h b d f c1 c2 c3 c4 g
   simp_all
   try omega
 by_cases y:op=4
 ·subst y;have a:=Ab ((Aa a).trans (by rw[if_neg (by omega),if_neg (by omega),if_neg (by omega),if_pos rfl]));cases hq:AC names
  ·have c:=Ab hq;clear hq;go_wp2_with (go_at_call 133;refine(AB _ _ _ _ _ d).mono ?_;rintro e o ⟨rfl,z⟩;rw[Aa c];have A:=b.trans (z.mono b.size))
   all_goals
    go_ret
    refine⟨Ad ?_,A⟩;rw[Aa a];have hq:=Aa c;have j:text.toList.isEmpty=decide (text.size=0):=by rw[zO,z3,decide_eq_true_iff];exact Cs text
    have k:((nn:Int)==0)=decide (nn=0):=by rw[zO];simp
    clear a h b d f c1 c2 c3 c4 g
    simp_all
    try omega
  ·have c:=Ab hq;clear hq;go_wp2_with (go_at_call 133;refine(AB _ _ _ _ _ d).mono ?_;rintro e o ⟨rfl,z⟩;rw[Aa c];have A:=b.trans (z.mono b.size))
   all_goals
    go_ret
    refine⟨Ad ?_,A⟩;rw[Aa a];have hq:=Aa c;have j:text.toList.isEmpty=decide (text.size=0):=by rw[zO,z3,decide_eq_true_iff];exact Cs text
    have k:((nn:Int)==0)=decide (nn=0):=by rw[zO];simp
    clear a h b d f c1 c2 c3 c4 g
    simp_all
    try omega
 by_cases B:op=5
 ·subst B;have a:=Ab ((Aa a).trans (by rw[if_neg (by omega),if_neg (by omega),if_neg (by omega),if_neg (by omega),if_pos rfl]));cases hq:Dm text
  ·have c:=Ab hq;clear hq;go_wp2_with (go_at_call 132;refine(DT _ _ hs).mono ?_;rintro e o ⟨rfl,i⟩;rw[Aa c,i];clear i)
   all_goals
    go_ret
    refine⟨Ad ?_,b⟩;rw[Aa a];have hq:=Aa c;have j:text.toList.isEmpty=decide (text.size=0):=by rw[zO,z3,decide_eq_true_iff];exact Cs text
    have k:((nn:Int)==0)=decide (nn=0):=by rw[zO];simp
    clear a h b d f c1 c2 c3 c4 g
    simp_all
    try omega
  ·have c:=Ab hq;clear hq;go_wp2_with (go_at_call 132;refine(DT _ _ hs).mono ?_;rintro e o ⟨rfl,i⟩;rw[Aa c,i];clear i)
   all_goals
    go_ret
    refine⟨Ad ?_,b⟩;rw[Aa a];have hq:=Aa c;have j:text.toList.isEmpty=decide (text.size=0):=by rw[zO,z3,decide_eq_true_iff];exact Cs text
    have k:((nn:Int)==0)=decide (nn=0):=by rw[zO];simp
    clear a h b d f c1 c2 c3 c4 g
    simp_all
    try omega
 by_cases D:op=6
 ·subst D;have a:=Ab ((Aa a).trans (by rw[if_neg (by omega),if_neg (by omega),if_neg (by omega),if_neg (by omega),if_neg (by omega),if_pos (by omega)]));go_wp2
  all_goals
   go_ret
   refine⟨Ad ?_,b⟩;rw[Aa a];have j:text.toList.isEmpty=decide (text.size=0):=by rw[zO,z3,decide_eq_true_iff];exact Cs text
   have k:((nn:Int)==0)=decide (nn=0):=by rw[zO];simp
   clear a h b d f c1 c2 c3 c4 g
   simp_all
   try omega
 by_cases E:op=7
 ·subst E;have a:=Ab ((Aa a).trans (by rw[if_neg (by omega),if_neg (by omega),if_neg (by omega),if_neg (by omega),if_neg (by omega),if_pos (by omega)]));go_wp2
  all_goals
   go_ret
   refine⟨Ad ?_,b⟩;rw[Aa a];have j:text.toList.isEmpty=decide (text.size=0):=by rw[zO,z3,decide_eq_true_iff];exact Cs text
   have k:((nn:Int)==0)=decide (nn=0):=by rw[zO];simp
   clear a h b d f c1 c2 c3 c4 g
   simp_all
   try omega
 have a:=Ab ((Aa a).trans (by rw[if_neg u,if_neg o2,if_neg v,if_neg y,if_neg B,if_neg (by omega)]));have J:=zA.2 u;have K:=zA.2 o2;have L:=zA.2 v;have M:=zA.2 y;have N:=zA.2 B;have O:=zA.2 D;have P:=zA.2 E;go_wp2
 all_goals
  go_ret
  refine⟨Ad ?_,b⟩;rw[Aa a];have j:text.toList.isEmpty=decide (text.size=0):=by rw[zO,z3,decide_eq_true_iff];exact Cs text
  have k:((nn:Int)==0)=decide (nn=0):=by rw[zO];simp
  clear a h b d f c1 c2 c3 c4 g
  simp_all
  try omega
theorem A6 {a c d f:Value}(R:Ag w b #[a,c,d,f] t):w.cell? ⟨b,0,T⟩=X a/\w.cell? ⟨b,1,T⟩=X c/\w.cell? ⟨b,2,T⟩=X d/\w.cell? ⟨b,3,T⟩=X f/\∀j,w.frozen? ⟨b,j,T⟩=jC:=
 ⟨by simpa using R.cell 0,by simpa using R.cell 1,by simpa using R.cell 2,by simpa using R.cell 3,fun j=>R.frozen j⟩
def stV (s:St):R:= .agg #[U V s.kind,Q s.name,U V s.cond,U V s.grant]
theorem SL (s:St)(w:Z)(hs:s.name.size<=1048576):
  jE j4 129 #[stV s] w fun e w'=>e= .returned (.bool (DY s))/\Ah w w':=by
 obtain⟨kind,name,cond,grant⟩:=s;simp only at hs;have d:=Av w (PN kind name cond grant);have a:=Ab (show DY ⟨kind,name,cond,grant⟩=(if kind=1 then Dm name&&decide (grant= -1)else if kind=2 then decide (name.size=0)else if kind=3 then decide (name.size=0)&&decide (cond= -1)else jC)from rfl);generalize DY ⟨kind,name,cond,grant⟩=k at a|-;unfold stV;have l:=Cs name;by_cases f:kind=1
 ·subst f;cases hq:Dm name
  ·have b:=Ab hq;clear hq;go_enter func129,ntmps129
   go_wp2_with (go_at_call 132;refine(DT _ _ hs).mono ?_;rintro e i ⟨rfl,c⟩;rw[Aa b,c];clear c)
   all_goals
    go_ret
    refine⟨Ad ?_,Av w _⟩;rw[Aa a,Aa b];simp
  ·have b:=Ab hq;clear hq;go_enter func129,ntmps129
   go_wp2_with (go_at_call 132;refine(DT _ _ hs).mono ?_;rintro e i ⟨rfl,c⟩;rw[Aa b,c];clear c)
   all_goals
    go_ret
    refine⟨Ad ?_,Av w _⟩;rw[Aa a,Aa b];simp
    try rfl
 by_cases g:kind=2
 ·subst g;go_enter func129,ntmps129
  go_wp2
  all_goals
   go_ret
   refine⟨Ad ?_,Av w _⟩;rw[Aa a];have j:name.toList.isEmpty=decide (name.size=0):=by rw[zO,z3,decide_eq_true_iff];exact Cs name
   clear a d
   simp_all
 by_cases h:kind=3
 ·subst h;go_enter func129,ntmps129
  go_wp2
  all_goals
   go_ret
   refine⟨Ad ?_,Av w _⟩;rw[Aa a];have j:name.toList.isEmpty=decide (name.size=0):=by rw[zO,z3,decide_eq_true_iff];exact Cs name
   have m:(cond== -1)=decide (cond= -1):=rfl;clear a d
   simp_all
 have e1:=zA.2 f;have e2:=zA.2 g;have e3:=zA.2 h;go_enter func129,ntmps129
 go_wp2
 go_ret
 exact⟨Ad (by rw[Aa a,if_neg f,if_neg g,if_neg h]),d⟩
structure Jl (w:Z) (a:Option jD) (n c:Nat) (L:List St):Prop where
 len:L.length=n
 small:n<=1048576
 sizes:∀s∈L,s.name.size<=1048576
 cells:∀j,(h:j<L.length)->∃b off,a=X ⟨b,off,T⟩/\b<w.heap.size/\w.cell? ⟨b,off+j*4,T⟩=X (U V L[j].kind)/\w.cell? ⟨b,off+j*4+1,T⟩=X (Q L[j].name)/\w.cell? ⟨b,off+j*4+2,T⟩=X (U V L[j].cond)/\w.cell? ⟨b,off+j*4+3,T⟩=X (U V L[j].grant)
theorem Jl.below {B:Nat}{L:List St}(h:Jl w a n c L)(d:Below B w w')(hB:w.heap.size<=B):Jl w' a n c L:=
 ⟨h.len,h.small,h.sizes,fun j i=>by
  obtain⟨b,f,k,l,m,c1,c2,c3⟩:=h.cells j i;have g:b<B:=by omega
  exact⟨b,f,k,zE l d.size,(d.cell (p:=⟨b,f+j*4,T⟩) g).trans m,(d.cell (p:=⟨b,f+j*4+1,T⟩) g).trans c1,(d.cell (p:=⟨b,f+j*4+2,T⟩) g).trans c2,(d.cell (p:=⟨b,f+j*4+3,T⟩) g).trans c3⟩⟩
def U8 (L:List St) (j:Nat) (h:j<L.length):Bool:=DY L[j]&&(decide (L[j].kind=3)==decide (j+1=L.length))
theorem Lv:∀(L:List St),BX L=jA↔∀j,(h:j<L.length)->U8 L j h=jA
 |[]=>by simp[BX]
 |s ::r=>by
  rw[BX,zF,Lv r];have e:r.isEmpty=decide (0+1=(s ::r).length):=by cases r<;>simp
  constructor
  ·rintro⟨h1,h2⟩ j a;cases j with
   |zero=>rw[e]at h1;exact h1
   |succ j=>
    have:=h2 j (by simpa using a);rw[U8]at this|-;simp only[z8,jY]at this|-;rw[show decide (j+1+1=r.length+1)=decide (j+1=r.length) by rw[decide_eq_decide];omega];exact this
  ·intro h;refine⟨by rw[e];exact h 0 (by simp),fun j a=>?_⟩;have:=h (j+1) (by simpa using a);rw[U8]at this|-;simp only[z8,jY]at this;rw[show decide (j+1+1=r.length+1)=decide (j+1=r.length) by rw[decide_eq_decide];omega]at this;exact this
theorem BU (s:St)(w:Z)(hs:s.name.size<=1048576):
  jE j4 129 #[.agg #[U V s.kind,Q s.name,U V s.cond,U V s.grant]] w fun e w'=>e= .returned (.bool (DY s))/\Ah w w':=SL s w hs
theorem Ej (a:Option jD)(n c:Nat)(L:List St)(w:Z)(h:Jl w a n c L):
  jE j4 86 #[Y a n c] w fun e w'=>e= .returned (.bool (decide (1<=n/\n<=600)&&BX L))/\Ah w w':=by
 have ah:=h.small;by_cases h1:n<1
 ·have W:(n:Int)<1:=by omega
  go_enter func86,ntmps86
  go_wp2
  go_ret
  exact⟨Ad (by simp;omega),BRN⟩
 have W: ¬ ((n:Int)<1):=by omega
 by_cases h6: 600<n
 ·have aa:(600 :Int)<(n:Int):=by omega
  go_enter func86,ntmps86
  go_wp2
  go_ret
  exact⟨Ad (by simp;omega),BRN⟩
 have aa: ¬ ((600 :Int)<(n:Int)):=by omega
 have u:=Ab (show decide (1<=n/\n<=600)=jA from zL ⟨by omega,by omega⟩);have N:=h.len;have J:=Ab N;clear N;go_enter func86,ntmps86
 go_wp2_with fail
 go_loopw [16] (fun i wr=>∃ (k:Nat),k<=n/\i=U V k/\Ah w wr/\∀j,(r:j<L.length)->j<k->U8 L j r=jA) (fun i _=>n-(intOf i).toNat)
 case atStart=>exact⟨0,zD _,rfl,BRN,fun j r ab=>by omega⟩
 case round=>
  obtain⟨k,ab,rfl,H,O⟩:=hrel;have K:=Ab O;clear O;by_cases P:k<n
  ·have ai:(k:Int)<(n:Int):=by omega
   have D:k<L.length:=by rw[Aa J];exact P
   obtain⟨b,aj,rfl,ak,ac,c1,c2,c3⟩:=(h.below H NLN).cells k D;have p:=h.sizes L[k] (zH D);have q:=Ab (show U8 L k D=(DY L[k]&&(decide (L[k].kind=3)==decide (k+1=n))) by rw[U8,Aa J]);generalize L[k]=s at ac c1 c2 c3 p q;have t:=Ag.new wr #[U V s.kind,Q s.name,U V s.cond,U V s.grant] 53;have f:=H.alloc H.size (PN s.kind s.name s.cond s.grant);have E:=Ab (show U8 L k D=jC->BX L=jC from fun e=>by
    rw[<-Bool.not_eq_true,Lv];intro ad;rw[ad k D]at e;cases e)
   have S:=Ab (show U8 L k D=jA->∀j,(r:j<L.length)->j<k+1->U8 L j r=jA from fun e j r al=>by
    by_cases ae:j=k
    ·subst ae;exact e
    ·exact Aa K j r (by omega))
   clear K;have I:=Ab P;by_cases kl:k+1=n
   ·have af:((k:Int)==(n:Int)-1)=jA:=zM.2 (by omega);have F:=zL kl;have G:=Ab F;clear kl F;by_cases m:s.kind=3
    ·have e3:(s.kind==3)=jA:=zM.2 m;have d3:=zL m;have v:=Ab d3;clear m d3;cases hv:DY s
     ·have o:=Ab (Aa E (by rw[Aa q,hv];rfl));have g:=Ab hv;clear hv;go_wp2_with (go_at_call 129;refine(BU s _ p).mono ?_;rintro e x ⟨rfl,d⟩;rw[Aa g];have l:=t.after d NLN;obtain⟨y,z,A,B,C⟩:=A6 l)
      go_ret
      exact⟨Ad (by rw[Aa u,Aa o];rfl),f.trans (d.mono f.size)⟩
     ·have M:=Ab (Aa S (by rw[Aa q,hv,Aa v,Aa G];rfl));have g:=Ab hv;clear hv;go_wp2_with (go_at_call 129;refine(BU s _ p).mono ?_;rintro e x ⟨rfl,d⟩;rw[Aa g];have l:=t.after d NLN;obtain⟨y,z,A,B,C⟩:=A6 l)
      go_roundw
      case rel=>exact⟨k+1,Aa I,by go_num,f.trans (d.mono f.size),Aa M⟩
      case measure=>have:=Aa I;simp[intOf];omega
    ·have e3:(s.kind==3)=jC:=zA.2 m;have d3:=zJ m;have v:=Ab d3;clear m d3;cases hv:DY s
     ·have o:=Ab (Aa E (by rw[Aa q,hv];rfl));have g:=Ab hv;clear hv;go_wp2_with (go_at_call 129;refine(BU s _ p).mono ?_;rintro e x ⟨rfl,d⟩;rw[Aa g];have l:=t.after d NLN;obtain⟨y,z,A,B,C⟩:=A6 l)
      go_ret
      exact⟨Ad (by rw[Aa u,Aa o];rfl),f.trans (d.mono f.size)⟩
     ·have o:=Ab (Aa E (by rw[Aa q,hv,Aa v,Aa G];rfl));have g:=Ab hv;clear hv;go_wp2_with (go_at_call 129;refine(BU s _ p).mono ?_;rintro e x ⟨rfl,d⟩;rw[Aa g];have l:=t.after d NLN;obtain⟨y,z,A,B,C⟩:=A6 l)
      go_ret
      exact⟨Ad (by rw[Aa u,Aa o];rfl),f.trans (d.mono f.size)⟩
   ·have af:((k:Int)==(n:Int)-1)=jC:=zA.2 (by omega);have F:=zJ kl;have G:=Ab F;clear kl F;by_cases m:s.kind=3
    ·have e3:(s.kind==3)=jA:=zM.2 m;have d3:=zL m;have v:=Ab d3;clear m d3;cases hv:DY s
     ·have o:=Ab (Aa E (by rw[Aa q,hv];rfl));have g:=Ab hv;clear hv;go_wp2_with (go_at_call 129;refine(BU s _ p).mono ?_;rintro e x ⟨rfl,d⟩;rw[Aa g];have l:=t.after d NLN;obtain⟨y,z,A,B,C⟩:=A6 l)
      go_ret
      exact⟨Ad (by rw[Aa u,Aa o];rfl),f.trans (d.mono f.size)⟩
     ·have o:=Ab (Aa E (by rw[Aa q,hv,Aa v,Aa G];rfl));have g:=Ab hv;clear hv;go_wp2_with (go_at_call 129;refine(BU s _ p).mono ?_;rintro e x ⟨rfl,d⟩;rw[Aa g];have l:=t.after d NLN;obtain⟨y,z,A,B,C⟩:=A6 l)
      go_ret
      exact⟨Ad (by rw[Aa u,Aa o];rfl),f.trans (d.mono f.size)⟩
    ·have e3:(s.kind==3)=jC:=zA.2 m;have d3:=zJ m;have v:=Ab d3;clear m d3;cases hv:DY s
     ·have o:=Ab (Aa E (by rw[Aa q,hv];rfl));have g:=Ab hv;clear hv;go_wp2_with (go_at_call 129;refine(BU s _ p).mono ?_;rintro e x ⟨rfl,d⟩;rw[Aa g];have l:=t.after d NLN;obtain⟨y,z,A,B,C⟩:=A6 l)
      go_ret
      exact⟨Ad (by rw[Aa u,Aa o];rfl),f.trans (d.mono f.size)⟩
     ·have M:=Ab (Aa S (by rw[Aa q,hv,Aa v,Aa G];rfl));have g:=Ab hv;clear hv;go_wp2_with (go_at_call 129;refine(BU s _ p).mono ?_;rintro e x ⟨rfl,d⟩;rw[Aa g];have l:=t.after d NLN;obtain⟨y,z,A,B,C⟩:=A6 l)
      go_roundw
      case rel=>exact⟨k+1,Aa I,by go_num,f.trans (d.mono f.size),Aa M⟩
      case measure=>have:=Aa I;simp[intOf];omega
  ·have e:k=n:=by omega
   subst e;have ag:=Ab (show BX L=jA from(Lv L).2 (fun j r=>Aa K j r (by have:=Aa J;omega)));go_wp2
   go_ret
   exact⟨Ad (by rw[Aa u,Aa ag];rfl),H⟩
theorem Kr:(j4.info? 3).map (fun i=>(i.zero,i.size,i.bytes))=X (X (U V 0),1,8):=by kernel_rfl
def Aq (L:List Int):List R:=L.map (U V)
theorem A5 (w:Z)(v:R)(t:TypeId)(b:Nat)(a:b=w.heap.size):∀j u,([v]:List R)[j]? =X u->(w.alloc (.cells #[v] t)).cell? ((⟨b,0,T⟩:jD).add j)=X u:=fun j u h=>by
 subst a;have c:j=0:=by
  have:=(zd.1 h).1;simp at this;exact this
 subst c;rw[<-h];simp[Addr.add]
theorem ZN (L:List St)(k:Nat)(h:k<L.length):(L.take (k+1)).flatMap Aj=(L.take k).flatMap Aj++Aj L[k]:=by
 rw[zQ h,yE];simp
theorem MX:∀(L:List St),(L.flatMap Aj).length<=2*L.length
 |[]=>by simp
 |s ::r=>by
  have:=MX r;have h1:(Aj s).length<=2:=by unfold Aj;split<;>split<;>simp
  rw[zi,zC,jY];omega
theorem Ag.grown {cs:Array R}{row:Option Nat}(h:Ag w b cs t)(hg:w.grownBy w' row)(a:X b=row->False):Ag w' b cs t:=⟨(hg.block b h.lt a).trans h.out⟩
theorem Sh (a:Option jD)(n c:Nat)(L:List St)(w:Z)(h:Jl w a n c L):
  jE j4 89 #[Y a n c] w fun e w'=>∃v,e= .returned v/\w'.ownsRow w.heap.size 3 1 v (L.flatMap Aj).length (Aq (L.flatMap Aj))/\Ah w w':=by
 have ai:=h.small;have J:=h.len;have K:=Ab J;clear J;obtain⟨i,hi,B,C,D⟩:=info_parts Kr;go_enter func89,ntmps89
 go_wp2_with fail
 go_loopw [3,8] (fun v i wr=>∃k:Nat,k<=n/\i=U V k/\wr.ownsRow w.heap.size 3 1 v ((L.take k).flatMap Aj).length (Aq ((L.take k).flatMap Aj))/\Ah w wr) (fun _ i _=>n-(intOf i).toNat)
 case atStart=>exact⟨0,zD _,rfl,World.ownsRow_nil _ _ _ _,BRN⟩
 case round=>
  obtain⟨k,aj,rfl,m,z⟩:=hrel;by_cases M:k<n
  ·have ak:(k:Int)<(n:Int):=by omega
   have N:k<L.length:=by rw[Aa K];exact M
   obtain⟨b,al,rfl,ao,S,c1,c2,c3⟩:=(h.below z NLN).cells k N;have y:=Ab (ZN L k N);have F:=MX (L.take k);rw[zr]at F;have j:=Ab M;generalize L[k]=s at S c1 c2 c3 y;generalize (L.take k).flatMap Aj=A at m F y;have ap:A.length<=2*1048576:=by omega
   have O:=Ag.new wr #[U V s.kind,Q s.name,U V s.cond,U V s.grant] 53;have E:=z.alloc z.size (PN s.kind s.name s.cond s.grant);have o:=m.alloc (PN s.kind s.name s.cond s.grant);have aq:(wr.alloc (PN s.kind s.name s.cond s.grant)).heap.size=wr.heap.size+1:=by simp
   have zb:=z.size;clear F;by_cases l:s.kind=3
   ·have e3:(s.kind !=3)=jC:=by rw[l];rfl
    by_cases f:s.grant= -1
    ·have G:(s.grant != -1)=jC:=by rw[f];rfl
     have p:=Ab (show Aj s=[] by rw[Aj,if_neg (by omega),if_neg (by omega)];rfl);clear l f;go_wp2_with fail
     go_roundw
     case rel=>exact⟨k+1,Aa j,by go_num,by rw[Aa y,Aa p,Z3];exact o,E⟩
     case measure=>have:=Aa j;simp[intOf];omega
    ·have G:(s.grant != -1)=jA:=zc.2 f;have p:=Ab (show Aj s=[s.grant] by rw[Aj,if_neg (by omega),if_pos f];rfl);clear l f;go_wp2_with (at_builtin;refine jk _ rfl _ _ 24 rfl w.heap.size 3 i (U V 0) 1 8 underlying24 hi B C D rfl (by decide) _ _ _ rfl (jV o _) ⟨wr.heap.size+1,0,T⟩ 1 1 [U V s.grant] rfl rfl ?c1 ?c2 ?c3 ?c4 ?c5 ?_)
     case c1=>exact A5 _ _ _ _ (by simp)
     case c2=>intro u g;simp at g;subst g;rfl
     case c3=>skip;unfold jM;omega
     case c4=>skip;omega
     case c5=>simp;omega
     intro P H r d _;have t:=(E.alloc (by omega) (.cells #[U V s.grant] 3)).grown d (by simp;omega) (fun q hq=>(o.lt q hq).1);skip;clear d;go_wp2_with fail
     go_roundw
     case rel=>exact⟨k+1,Aa j,by go_num,by rw[Aa y,Aa p,Aq,zR,zC];exact r,t⟩
     case measure=>have:=Aa j;simp[intOf];omega
   ·have e3:(s.kind !=3)=jA:=zc.2 l;by_cases f:s.grant= -1
    ·have G:(s.grant != -1)=jC:=by rw[f];rfl
     have p:=Ab (show Aj s=[s.cond] by rw[Aj,if_pos l,if_neg (by omega)];rfl);clear l f;go_wp2_with (at_builtin;refine jk _ rfl _ _ 24 rfl w.heap.size 3 i (U V 0) 1 8 underlying24 hi B C D rfl (by decide) _ _ _ rfl (jV o _) ⟨wr.heap.size+1,0,T⟩ 1 1 [U V s.cond] rfl rfl ?c1 ?c2 ?c3 ?c4 ?c5 ?_)
     case c1=>exact A5 _ _ _ _ (by simp)
     case c2=>intro u g;simp at g;subst g;rfl
     case c3=>skip;unfold jM;omega
     case c4=>skip;omega
     case c5=>simp;omega
     intro P H r d _;have t:=(E.alloc (by omega) (.cells #[U V s.cond] 3)).grown d (by simp;omega) (fun q hq=>(o.lt q hq).1);have I:=(O.alloc (.cells #[U V s.cond] 3)).grown d (fun e=>by have:=(m.lt _ e.symm).2;omega);have W:=t.size;obtain⟨aa,ab,ac,ad,ae⟩:=A6 I;clear d;go_wp2_with fail
     go_roundw
     case rel=>exact⟨k+1,Aa j,by go_num,by rw[Aa y,Aa p,Aq,zR,zC];exact r,t⟩
     case measure=>have:=Aa j;simp[intOf];omega
    ·have G:(s.grant != -1)=jA:=zc.2 f;have p:=Ab (show Aj s=[s.cond,s.grant] by rw[Aj,if_pos l,if_pos f];rfl);clear l f;go_wp2_with (at_builtin;refine jk _ rfl _ _ 24 rfl w.heap.size 3 i (U V 0) 1 8 underlying24 hi B C D rfl (by decide) _ _ _ rfl (jV o _) ⟨wr.heap.size+1,0,T⟩ 1 1 [U V s.cond] rfl rfl ?c1 ?c2 ?c3 ?c4 ?c5 ?_)
     case c1=>exact A5 _ _ _ _ (by simp)
     case c2=>intro u g;simp at g;subst g;rfl
     case c3=>skip;unfold jM;omega
     case c4=>skip;omega
     case c5=>simp;omega
     intro P H r d _;have t:=(E.alloc (by omega) (.cells #[U V s.cond] 3)).grown d (by simp;omega) (fun q hq=>(o.lt q hq).1);have I:=(O.alloc (.cells #[U V s.cond] 3)).grown d (fun e=>by have:=(m.lt _ e.symm).2;omega);have W:=t.size;obtain⟨aa,ab,ac,ad,ae⟩:=A6 I;obtain⟨x3,ar,af⟩:=Bo r;subst af;clear d;go_wp2_with (at_builtin;refine jk _ rfl _ _ 24 rfl w.heap.size 3 i (U V 0) 1 8 underlying24 hi B C D rfl (by decide) _ _ _ rfl (jV r _) ⟨H.heap.size,0,T⟩ 1 1 [U V s.grant] rfl rfl ?c1 ?c2 ?c3 ?c4 ?c5 ?_)
     case c1=>exact A5 _ _ _ _ (by simp)
     case c2=>intro u g;simp at g;subst g;rfl
     case c3=>skip;unfold jM;omega
     case c4=>skip;omega
     case c5=>simp;omega
     intro au av ag d _;have ah:=(t.alloc (by omega) (.cells #[U V s.grant] 3)).grown d (by simp;omega) (fun q hq=>(r.lt q hq).1);skip;clear d;go_wp2_with fail
     go_roundw
     case rel=>exact⟨k+1,Aa j,by go_num,by rw[Aa y,Aa p,Aq,zR,zC];simpa[Aq]using ag,ah⟩
     case measure=>have:=Aa j;simp[intOf];omega
  ·have e:k=n:=by omega
   subst e;have e2:L.take k=L:=zY (by rw[Aa K];exact NLN);rw[e2]at m;obtain⟨x,aw,hv⟩:=Bo m;subst hv;go_wp2
   go_ret
   exact⟨_,rfl,m,z⟩
def Afw (w:Z) (b o:Nat) (x:Nd):Prop:=∃an nn cn ak nk ck,w.cell? ⟨b,o,T⟩=X (U V x.op)/\w.cell? ⟨b,o+1,T⟩=X (U V x.num)/\w.cell? ⟨b,o+2,T⟩=X (Q x.text)/\w.cell? ⟨b,o+3,T⟩=X (Y an nn cn)/\w.cell? ⟨b,o+4,T⟩=X (Y ak nk ck)/\Ap w an nn cn x.names/\AK w ak nk ck x.kids
structure GY (w:Z) (a:Option jD) (n c:Nat) (L:List Nd):Prop where
 len:L.length=n
 small:n<=1048576
 sizes:∀x∈L,x.text.size<=1048576
 cells:∀j,(h:j<L.length)->∃b off,a=X ⟨b,off,T⟩/\b<w.heap.size/\Afw w b (off+j*5) L[j]
theorem Afw.below {w w':Z}{B b o:Nat}{x:Nd}(h:Afw w b o x)(l:b<w.heap.size)(a:Below B w w')(hB:w.heap.size<=B):Afw w' b o x:=by
 obtain⟨an,nn,cn,d,f,g,i,c1,c2,c3,c4,j,k⟩:=h;have c:b<B:=by omega
 exact⟨an,nn,cn,d,f,g,(a.cell (p:=⟨b,o,T⟩) c).trans i,(a.cell (p:=⟨b,o+1,T⟩) c).trans c1,(a.cell (p:=⟨b,o+2,T⟩) c).trans c2,(a.cell (p:=⟨b,o+3,T⟩) c).trans c3,(a.cell (p:=⟨b,o+4,T⟩) c).trans c4,j.below a hB,k.below a hB⟩
theorem GY.below {w w':Z}{B:Nat}{a:Option jD}{n c:Nat}{L:List Nd}(h:GY w a n c L)(d:Below B w w')(hB:w.heap.size<=B):GY w' a n c L:=
 ⟨h.len,h.small,h.sizes,fun j g=>by
  obtain⟨b,i,k,f,hc⟩:=h.cells j g;exact⟨b,i,k,zE f d.size,hc.below f d hB⟩⟩
structure Ko (w:Z):Prop where
 lt: 4 <w.heap.size
 cells:∀k,w.cell? ⟨4,k,T⟩=Nn[k]?
theorem Ko.below {B:Nat}(h:Ko w)(a:Below B w w')(hB:w.heap.size<=B):Ko w':=
 ⟨zE h.lt a.size,fun k=>(a.cell (p:=⟨4,k,T⟩) (zE h.lt hB)).trans (h.cells k)⟩
theorem Jn {a:Z}{op num:Int}{text:ByteArray}{an c:Option jD}{nn cn d f:Nat}(R:Ag a b #[U V op,U V num,Q text,Y an nn cn,Y c d f] t)(g:Ah a w'):
  w'.cell? ⟨b,0,T⟩=X (U V op)/\w'.cell? ⟨b,1,T⟩=X (U V num)/\w'.cell? ⟨b,2,T⟩=X (Q text)/\w'.cell? ⟨b,3,T⟩=X (Y an nn cn)/\w'.cell? ⟨b,4,T⟩=X (Y c d f):=by
 obtain⟨h,c1,c2,c3,c4,_⟩:=AP (R.after g NLN);exact⟨h,c1,c2,c3,c4⟩
end Go.Proofs.YteiieikcjcfkkaaGreatDoor
