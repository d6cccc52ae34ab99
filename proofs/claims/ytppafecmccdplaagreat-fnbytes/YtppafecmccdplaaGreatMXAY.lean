import Derived.Deep.DeepCutAuto
import Derived.Test.YtppafecmccdplaaGreatMXAR
open Go.Proofs.Tryz
open Option renaming none->T,some->Y
open Go.Value renaming int->U,slice->X,string->Q,agg->jE
open Go.IntKind renaming i64->V
open Bool renaming true->R,false->jA
open Go.Obj renaming cells->jC
open Go.Proofs.Tryz renaming prog->jL
namespace Go.Proofs.YtppafecmccdplaaGreat
set_option linter.unusedVariables false
set_option maxRecDepth 100000
set_option maxHeartbeats 6400000
variable {E:List Int}{b c:Type}
section
open Go.RowKit Go.Lib
theorem OY (a b:Option Addr)(n c m d:Nat)(s:Int)(P:List Vl)(I:List Cg)(w:World)(C:Vls w a n c P)(J:Iss w b m d I):
  Calls jL 15 #[jE #[X a n c,U V s,X b m d]] w fun e w'=>e= .returned (.bool (Da P s I))/\An w w':=by
 have ay:=C.small;have hm:=J.small;have ad:=Ab C.len;have ae:=Ab J.len;have D:=Ab (show Da P s I=(decide (n<=4000/\m<=20000/\0<=s/\s<=600)&&P.all CH&&I.all Gl) by rw[Da,C.len,J.len]);have aj:=Ah.new w #[X a n c,U V s,X b m d] 26;have E:=AN w (jC #[X a n c,U V s,X b m d] 26);generalize Da P s I=A at D|-;by_cases N:n<=4000/\m<=20000/\0<=s/\s<=600
 ·have az: ¬ ((4000 :Int)<(n:Int)):=by omega
  have aA: ¬ ((20000 :Int)<(m:Int)):=by omega
  have aB: ¬ (s<0):=by omega
  have aC: ¬ (600<s):=by omega
  have O:=Ab (show A=(P.all CH&&I.all Gl) by rw[Aa D,zN N,zr]);clear D N;go_enter func15,ntmps15
  go_wp2_with fail
  go_loopw [30] (fun i wr=>∃k:Nat,k<=n/\i=U V k/\An w wr/\Ah wr w.heap.size #[X a n c,U V s,X b m d] 26/\Hid (∀j,(q:j<P.length)->j<k->CH P[j]=R)) (fun i _=>n-(intOf i).toNat)
  case atStart=>exact⟨0,zE _,rfl,E,aj,Ab (fun j _ h=>absurd h (by omega))⟩
  case round=>
   obtain⟨k,hk,rfl,r,S,t⟩:=hrel;skip;by_cases F:k<n
   ·have W:(k:Int)<(n:Int):=by omega
    have B:k<P.length:=by rw[Aa ad];exact F
    have aa:=C.sizes P[k] (zH B);obtain⟨ak,al,rfl,ao,an,nn,cn,K,L,ap,aq,af⟩:=(C.below r NLN).cells k B;have f:=Ab (show CH P[k]=jA->A=jA from fun e=>by
     rw[Aa O,show P.all CH=jA by rw[<-Bool.not_eq_true,JY];intro h;rw[h k B]at e;cases e];rfl)
    have l:=Ab (show CH P[k]=R->∀j,(q:j<P.length)->j<k+1->CH P[j]=R from fun e j q h'=>by
     by_cases ab:j=k
     ·subst ab;exact e
     ·exact Aa t j q (by omega))
    have u:=Ab F;clear t;generalize P[k]=z at K L ap aq aa af f l;have o:=r.alloc r.size (jC #[U V z.kind,U V z.num,Q z.text,X an nn cn] 44);have ag:=AN wr (jC #[U V z.kind,U V z.num,Q z.text,X an nn cn] 44);have ah:=af.below ag NLN;have ar:=S.after ag NLN;cases hv:CH z
    ·have g:=Ab (Aa f hv);have v:=Ab hv;clear hv f l;go_wp2_with (go_at_call 37;refine(OR z an nn cn _ ah aa).mono ?_;rintro e ac ⟨rfl,M⟩;rw[Aa v])
     go_ret
     exact⟨Ag (Aa g).symm,o.trans (M.mono o.size)⟩
    ·have G:=Ab (Aa l hv);have v:=Ab hv;clear hv f l;go_wp2_with (go_at_call 37;refine(OR z an nn cn _ ah aa).mono ?_;rintro e ac ⟨rfl,M⟩;rw[Aa v])
     go_roundw
     case rel=>exact⟨k+1,Aa u,by go_num,o.trans (M.mono o.size),ar.after M NLN,G⟩
     case measure=>have:=Aa u;simp[intOf];omega
   ·have ai:=Ab (show A=I.all Gl by rw[Aa O,(JY CH P).2 (fun j q=>Aa t j q (by have:=Aa ad;omega)),zr]);have W: ¬ ((k:Int)<(n:Int)):=by omega
    obtain⟨au,av,aw⟩:=Ao S;have ax:=Ab r;clear t O r;go_wp2_with fail
    go_loopw [41] (fun i wr=>∃k:Nat,k<=m/\i=U V k/\An w wr/\Hid (∀j,(q:j<I.length)->j<k->Gl I[j]=R)) (fun i _=>m-(intOf i).toNat)
    case atStart=>exact⟨0,zE _,rfl,Aa ax,Ab (fun j _ h=>absurd h (by omega))⟩
    case round=>
     obtain⟨p,aD,rfl,r,t⟩:=hrel;clear S au av aw;by_cases F:p<m
     ·have W:(p:Int)<(m:Int):=by omega
      have B:p<I.length:=by rw[Aa ae];exact F
      obtain⟨ak,al,rfl,ao,K,L⟩:=(J.below r NLN).cells p B;have f:=Ab (show Gl I[p]=jA->A=jA from fun e=>by
       rw[Aa ai,<-Bool.not_eq_true,JY];intro h;rw[h p B]at e;cases e)
      have l:=Ab (show Gl I[p]=R->∀j,(q:j<I.length)->j<p+1->Gl I[j]=R from fun e j q h'=>by
       by_cases ab:j=p
       ·subst ab;exact e
       ·exact Aa t j q (by omega))
      have u:=Ab F;clear t;generalize I[p]=z at K L f l;have o:=r.alloc r.size (jC #[U V z.op,U V z.arg] 49);obtain⟨op,arg⟩:=z;simp only at K L o;have x:=Ab (show Gl ⟨op,arg⟩=(decide (1<=op/\op<=25)&&(if VH op then decide (0<=arg/\arg<=65535)else decide (arg=0)))from rfl);by_cases aE:op<1
      ·have g:=Ab (Aa f (by rw[Aa x,zI (by omega)];rfl));clear f l;go_wp2
       go_ret
       exact⟨Ag (Aa g).symm,o⟩
      by_cases aF: 25<op
      ·have g:=Ab (Aa f (by rw[Aa x,zI (by omega)];rfl));clear f l;go_wp2
       go_ret
       exact⟨Ag (Aa g).symm,o⟩
      by_cases aG:arg<0
      ·have g:=Ab (Aa f (by rw[Aa x,zN (by omega),zr];split;exact zI (by omega);exact zI (by omega)));clear f l;go_wp2
       go_ret
       exact⟨Ag (Aa g).symm,o⟩
      by_cases aH: 65535<arg
      ·have g:=Ab (Aa f (by rw[Aa x,zN (by omega),zr];split;exact zI (by omega);exact zI (by omega)));clear f l;go_wp2
       go_ret
       exact⟨Ag (Aa g).symm,o⟩
      by_cases y:arg=0
      ·have G:=Ab (Aa l (by rw[Aa x,zN (by omega),zr];split;exact zN (by omega);exact zN y));have e5:(arg !=0)=jA:=by rw[y];rfl
       clear f l y;go_wp2
       go_roundw
       case rel=>exact⟨p+1,Aa u,by go_num,o,G⟩
       case measure=>have:=Aa u;simp[intOf];omega
      ·have e5:(arg !=0)=R:=zp.2 y;cases hv:VH op
       ·have g:=Ab (Aa f (by rw[Aa x,hv,zN (by omega),zr,if_neg (by decide),zI y]));have v:=Ab hv;clear hv f l y;go_wp2_with (go_at_call 38;refine(My _ _).mono ?_;rintro e ac ⟨rfl,H⟩;rw[H,Aa v];clear H)
        go_ret
        exact⟨Ag (Aa g).symm,o⟩
       ·have G:=Ab (Aa l (by rw[Aa x,hv,zN (by omega),zr,if_pos rfl];exact zN (by omega)));have v:=Ab hv;clear hv f l y;go_wp2_with (go_at_call 38;refine(My _ _).mono ?_;rintro e ac ⟨rfl,H⟩;rw[H,Aa v];clear H)
        go_roundw
        case rel=>exact⟨p+1,Aa u,by go_num,o,G⟩
        case measure=>have:=Aa u;simp[intOf];omega
     ·have g:=Ab (show A=R by rw[Aa ai];exact(JY Gl I).2 (fun j q=>Aa t j q (by have:=Aa ae;omega)));have W: ¬ ((p:Int)<(m:Int)):=by omega
      clear t;go_wp2
      go_ret
      exact⟨Ag (Aa g).symm,r⟩
 ·have g:=Ab (show A=jA by rw[Aa D,zI N];rfl);clear D;go_enter func15,ntmps15
  by_cases aI:(4000 :Int)<(n:Int)
  ·go_wp2
   go_ret
   exact⟨Ag (Aa g).symm,E⟩
  by_cases aJ:(20000 :Int)<(m:Int)
  ·go_wp2
   go_ret
   exact⟨Ag (Aa g).symm,E⟩
  by_cases aK:s<0
  ·go_wp2
   go_ret
   exact⟨Ag (Aa g).symm,E⟩
  have aL: 600<s:=by omega
  go_wp2
  go_ret
  exact⟨Ag (Aa g).symm,E⟩
end
section
open Go.RowKit
theorem SC (a C b D:Option Addr)(n c c' m d E:Nat)(s:Int)(N:List Vl)(L:List Cg)(w:World)(h1:Vls w a n c N)(v:Vls w C n c' N)(p:Iss w b m d L)(F:Iss w D m E L):
  Calls jL 8 #[jE #[X a n c,U V s,X b m d],jE #[X C n c',U V s,X D m E]] w fun e w'=>e= .returned (.bool R)/\An w w':=by
 have av:=h1.small;have hm:=p.small;have ac:=Ab h1.len;have ad:=Ab p.len;go_enter func8,ntmps8
 go_upto_region 1 with fail
 refine Vh (P:=Code.wp _ _ _ _) fun ae G H I=>?_;obtain⟨J,K,M⟩:=Ao H;obtain⟨O,S,W⟩:=Ao I;go_wp2_with fail
 go_loopw [36] (fun i wr=>∃k:Nat,k<=n/\i=U V k/\An ae wr) (fun i _=>n-(intOf i).toNat)
 case atStart=>exact⟨0,zE _,rfl,BRN⟩
 case round=>
  obtain⟨k,hk,rfl,j⟩:=hrel;have y:=I.after j NLN;have af:=H.after j NLN;obtain⟨O,S,W⟩:=Ao y;have aw:w.heap.size+1<wr.heap.size:=y.lt;have q:=G.trans (j.mono G.size);by_cases f:k<n
  ·have l:k<N.length:=by rw[Aa ac];exact f
   obtain⟨ag,ah,rfl,ai,an,nn,cn,c0,c1,c2,c3,r⟩:=(h1.below q NLN).cells k l;obtain⟨b1,aj,rfl,ak,ax,al,ay,z,d1,d2,d3,t⟩:=(v.below q NLN).cells k l;have ao:(k:Int)<(n:Int):=by omega
   generalize N[k]=x at c0 c1 c2 c3 r z d1 d2 d3 t;obtain rfl:nn=al:=by rw[r.len,t.len]
   have o:=Ab f;have aa:=Ab (And.intro r t);clear f h1 v r t;go_wp2_with fail
   refine Vh (P:=fun ap=>Calls _ _ _ ap _) fun aq u _ _=>?_;refine(P6 _ _ _ _ _ _ aq ((Aa aa).1.below u NLN) ((Aa aa).2.below u NLN)).mono ?_;rintro e az ⟨rfl,b3⟩;have ar:=j.trans ((u.trans (b3.mono u.size)).mono j.size);dsimp only;go_wp2
   go_roundw
   case rel=>exact⟨k+1,Aa o,by go_num,ar⟩
   case measure=>have:=Aa o;simp[intOf];omega
  ·have ao: ¬ ((k:Int)<(n:Int)):=by omega
   obtain⟨J,K,M⟩:=Ao af;clear f;go_wp2_with fail
   obtain⟨A,rfl⟩:∃A,A=wr:=⟨_,rfl⟩
   go_loopw [77] (fun i wr=>∃k:Nat,k<=m/\i=U V k/\An A wr) (fun i _=>m-(intOf i).toNat)
   case atStart=>exact⟨0,zE _,rfl,BRN⟩
   case round=>
    obtain⟨g,aA,rfl,h⟩:=hrel;have ab:=y.after h NLN;have B:=q.trans (h.mono q.size);by_cases f:g<m
    ·have l:g<L.length:=by rw[Aa ad];exact f
     obtain⟨ag,ah,rfl,ai,c0,c1⟩:=(p.below B NLN).cells g l;obtain⟨b1,aj,rfl,ak,z,d1⟩:=(F.below B NLN).cells g l;have au:(g:Int)<(m:Int):=by omega
     generalize L[g]=x at c0 c1 z d1;obtain⟨aB,aC,aD⟩:=Ao ab;have aE:w.heap.size+1<wr.heap.size:=ab.lt;have o:=Ab f;clear f h1 v p F J K M O S W;go_wp2_with fail
     go_region
     all_goals
      go_wp2
      go_roundw
      case rel=>exact⟨g+1,Aa o,by go_num,(by first|exact(h.alloc h.size _).drew|exact h.alloc h.size _)⟩
      case measure=>have:=Aa o;simp[intOf];omega
    ·have au: ¬ ((g:Int)<(m:Int)):=by omega
     go_wp2
     go_ret
     exact⟨rfl,B⟩
def FP {α:Type} (f:AI->α×AI) (x:α) (E:List Int):Prop:=∀L,f (E++L,jA)=(x,(L,jA))
theorem FP.bnd {f:AI->b×AI}{k:b->AI->c×AI}{a:b}{y:c}{F:List Int}(h:FP f a E)(h':FP (k a) y F):FP (Bl f k) y (E++F):=fun L=>by
 show k (f (E++F++L,jA)).1 (f (E++F++L,jA)).2=_;rw[zJ,h];exact h' L
theorem FP.rt (a:b):FP (rt a) a []:=fun L=>rfl
theorem FP.tail {a:Type}{f:AI->a×AI}{x:a}(h:FP f x (E++[])):FP f x E:=by rwa[zd]at h
theorem FP.map {f:AI->b×AI}{a:b}(h:FP f a E)(g:b->c):FP (Bl f fun x=>Go.Proofs.YtppafecmccdplaaGreat.rt (g x)) (g a) E:=(h.bnd (k:=fun x=>Go.Proofs.YtppafecmccdplaaGreat.rt (g x)) (FP.rt (g a))).tail
theorem FP.take (A:List Int){n:Nat}(h:A.length=n):FP (Be n) A A:=fun L=>by
 subst h;rw[Be,if_neg (by simp)];simp
theorem Uk (x:Int):∀w,BS x (w+1)=BS (x / 256) w++[x % 256]
 |0=>by simp[BS,BQ]
 |w+1=>by
  rw[BS,Uk x w,BS,List.cons_append]
  congr 1
  unfold BQ;rw[show 8*(w+1)=8+8*w by omega,Int.pow_add,<-Int.ediv_ediv_of_nonneg (by decide)];rfl
theorem Ko:∀(n:Nat),n<=7->∀x:Int,CL (BS x n)=x % 256 ^ n
 |0,_,x=>by rw[BS,Int.pow_zero,Int.emod_one];rfl
 |n+1,h,x=>by
  rw[Uk,Kr,Ko n (by omega)];have:n=0\/n=1\/n=2\/n=3\/n=4\/n=5\/n=6:=by omega
  unfold wrap64;rcases this with rfl|rfl|rfl|rfl|rfl|rfl|rfl<;>simp<;>omega
theorem XI (x:Int)(h: -9223372036854775808<=x/\x<=9223372036854775807):CL (BS x 8)=x:=by
 rw[Uk,Kr,Ko 7 (by omega)];unfold wrap64;simp;omega
theorem FP.num (n:Nat)(x:Int)(h:CL (BS x n)=x):FP (AG n) x (BS x n):=by
 have:=(FP.take (BS x n) (AZ x n)).bnd (k:=fun a=>Go.Proofs.YtppafecmccdplaaGreat.rt (CL a)) (FP.rt _);rw[h]at this;exact this.tail
theorem FP.num1 (x:Int)(h: 0<=x/\x<256):FP (AG 1) x (BS x 1):= .num 1 x (by rw[Ko 1 (by omega)];omega)
theorem FP.num2 (x:Int)(h: 0<=x/\x<65536):FP (AG 2) x (BS x 2):= .num 2 x (by rw[Ko 2 (by omega)];omega)
theorem Aan (s:ByteArray):Fr (KM s)=s:=by
 rcases s with⟨⟨l⟩⟩
 simp[Fr,KM,Function.comp_def]
theorem FP.text (s:ByteArray)(h:s.size<256):FP DF s (Bn s):=by
 have:=(FP.num1 (s.size:Int) (by omega)).bnd (k:=fun k=>Bl (Be k.toNat) fun a=>Go.Proofs.YtppafecmccdplaaGreat.rt (Fr a)) ((FP.take (KM s) (n:=((s.size:Int)).toNat) (by rw[IB];omega)).bnd (k:=fun a=>Go.Proofs.YtppafecmccdplaaGreat.rt (Fr a)) (FP.rt _));rw[Aan,zd]at this;exact this
theorem FP.many {a:Type}{f:AI->a×AI}{enc:a->List Int} :∀{l:List a},(∀x∈l,FP f x (enc x))->FP (Av f l.length) l (l.flatMap enc)
 |[],_=>fun L=>rfl
 |x ::l,h=>fun L=>by
  have hx:=h x (zS ..);have b:=FP.many (fun y hy=>h y (za _ hy));rw[zm,List.length_cons,Av,if_neg (by simp),zJ,hx,b]
theorem FP.val {v:Vl}(h:CH v=R)(d: -9223372036854775808<=v.num/\v.num<=9223372036854775807):FP JC v (Cw v):=by
 obtain⟨k,n,t,ns⟩:=v;refine(FP.num1 k ?_).bnd ?_
 ·rcases IE h with e|e|e|e<;>simp only at e<;>omega
 unfold FQ;unfold CH at h;rcases IE h with e|e|e|e<;>simp only at e<;>subst e
 ·simp at h;obtain⟨⟨h1,b⟩,c⟩:=h;subst b c;simp;exact(FP.num1 n (by omega)).map fun a=>(⟨1,a,⟨#[]⟩,[]⟩:Vl)
 ·simp at h;obtain⟨b,c⟩:=h;subst b c;simp;exact(FP.num 8 n (XI n d)).map fun a=>(⟨2,a,⟨#[]⟩,[]⟩:Vl)
 ·simp at h;obtain⟨⟨h1,b⟩,c⟩:=h;subst c b;simp;rw[Nk,zD]at h1;have:=of_decide_eq_true h1.1;exact(FP.text t (by omega)).map fun a=>(⟨3,0,a,[]⟩:Vl)
 ·simp at h;obtain⟨⟨h1,b⟩,c⟩:=h;subst b c;obtain⟨i,g⟩:=Gz h1;simp;have hm:=FP.many (f:=DF) (enc:=Bn) (l:=ns) (fun s hs=>FP.text s (by have:=g s hs;omega));refine(FP.num1 (ns.length:Int) (by omega)).bnd ?_;rw[zb];exact hm.map fun a=>(⟨4,0,⟨#[]⟩,a⟩:Vl)
theorem FP.ins {i:Cg}(h:Gl i=R):FP IF i (I9 i):=by
 obtain⟨o,a⟩:=i;unfold Gl at h;rw[zD]at h;have h1:=of_decide_eq_true h.1;have c: 0<=a/\a<=65535:=by
  have:=h.2;split at this
  ·exact of_decide_eq_true this
  ·have:=of_decide_eq_true this;simp only at this;omega
 simp only at h1;exact(FP.num1 o (by omega)).bnd ((FP.num2 a (by omega)).map fun b=>(⟨o,b⟩:Cg))
theorem Aao {P:List Vl}{s:Int}{I:List Cg}(h:Da P s I=R)(b:∀v∈P,-9223372036854775808<=v.num/\v.num<=9223372036854775807):Mj (Fb P s I)=Y ⟨P,s,I⟩:=by
 have h':=h;rw[Da,zD,zD]at h';have h1:=of_decide_eq_true h'.1.1;have hv:=zt.1 h'.1.2;have hi:=zt.1 h'.2;have c:FP DA (⟨P,s,I⟩:Cd) (Lg ⟨P,s,I⟩):=by
  have c1:=FP.many (f:=JC) (enc:=Cw) (l:=P) (fun v a=>FP.val (hv v a) (b v a));have c2:=FP.many (f:=IF) (enc:=I9) (l:=I) (fun v a=>FP.ins (hi v a));unfold Lg;simp only[zJ];refine(FP.num2 (P.length:Int) (by omega)).bnd ?_;rw[zb];refine c1.bnd ((FP.num2 s (by omega)).bnd ((FP.num2 (I.length:Int) (by omega)).bnd ?_));rw[zb];exact c2.map fun i=>(⟨P,s,i⟩:Cd)
 have e:Fb P s I=[80,76,49]++Lg ⟨P,s,I⟩:=by simp[Fb,Lg]
 have c':=c [];rw[zd]at c';rw[e,Mj];simp[c',h]
set_option maxHeartbeats 1600000
theorem Kv (g:Nat)(h0 h1 a:Int)(v:Value)(O:List Int)(n:Int)(w:World)(b:Wr w g h0 h1 a v O)(c:O.length<=100000000):
  Calls jL 34 #[.pointer (Y ⟨g,0,T⟩),U V n] w fun e w'=>VI w g h0 h1 a v (O++BS n 2) e w':=by
 go_enter func34,ntmps34
 go_wp2_with (go_at_call 36;refine(Cy g h0 h1 a v O _ 2 _ b (by omega) c).mono ?_;rintro e w2 ⟨rfl,hx⟩)
 exact bodyPost_end (by simp[results,results34,go_sem]) rfl ⟨rfl,hx⟩
end
section
open Go.RowKit Go.Lib
theorem AcL (g:Nat)(h1:Int)(v:Value)(a b:Option Addr)(n c m d:Nat)(P:List Vl)(I:List Cg)(w0 w:World)(l:Wr w g n h1 m v [])(G:Vls w0 a n c P)(ao:Iss w0 b m d I)(ad:w0.heap.size<=g)(aI:An w0 w)(bZ:n<=4000)(hm:m<=20000)(bs:P.all CH=R):
  Calls jL 14 #[.pointer (Y ⟨g,0,T⟩),jE #[X a n c,U V h1,X b m d]] w fun e w'=>VI w g n h1 m v (Fb P h1 I) e w':=by
 obtain⟨i,hi,aJ,aK,aL⟩:=info_parts Mm;have ae:=l.alloc (jC #[X a n c,U V h1,X b m d] 26);have u:=Ah.new w #[X a n c,U V h1,X b m d] 26;have b0:=l.row.lt;obtain⟨x,cx,rfl⟩:=Au l.own;have ap:=(l.row.alloc (jC #[X a n c,U V h1,X b m d] 26)).cell 3;have aM:=(l.row.alloc (jC #[X a n c,U V h1,X b m d] 26)).frozen 3;simp only[List.getElem?_toArray,z1,z4]at ap;have bt:(Value.slice x ([]:List Int).length cx).ownBlock≠Y w.heap.size:=fun e=>by have:=(l.own.lt _ e).2;omega
 have bu:∀q,(Value.slice x ([]:List Int).length cx).ownBlock=Y q->g+1<=q:=fun q aq=>(l.own.lt q aq).1;have aN:=(Below.refl g w).alloc (by omega) (jC #[X a n c,U V h1,X b m d] 26);have aO:=Ab G.len;have aP:=Ab ao.len;have aQ:=Ab (show Fb P h1 I=[80,76,49]++BS n 2++P.flatMap Cw++BS h1 2++BS m 2++I.flatMap I9 by rw[Fb,G.len,ao.len]);generalize Fb P h1 I=bv at aQ|-;generalize aR:w.alloc (jC #[X a n c,U V h1,X b m d] 26)=y at ae u aN ap aM;have bw:=Ab aR;have bx:y.heap.size=w.heap.size+1:=by rw[<-aR];simp
 go_enter func14,ntmps14
 have aS:y.ownsRow (g+1) 5 1 (X x 0 cx) 0 []:=ae.own;have aT:∀q,(Value.slice x 0 cx).ownBlock=Y q->g+1<=q:=bu;have af:(Value.slice x 0 cx).ownBlock≠Y w.heap.size:=bt;have bz:g+1<=y.heap.size:=by omega
 clear bx;go_wp2_with (first
  |(at_builtin;refine Di rfl _ _ 22 9 rfl (g+1) 5 i underlying22 underlying9 hi aJ aK aL (.slice x 0 cx) 0 [] rfl aS ⟨#[80,76,49]⟩ rfl (by decide) (by decide) bz ?_;intro b1 A ar H hat;have ag:Ah A g #[U V n,U V h1,U V m,X x 0 cx] 39:=⟨(H.block g (by omega) (fun e=>by have:=aT g e.symm;omega)).trans ae.row.out⟩;have aU:Ah A w.heap.size #[X a n c,U V h1,X b m d] 26:=⟨(H.block w.heap.size u.lt (fun e=>af e.symm)).trans u.out⟩;obtain⟨J,K,L,M⟩:=AC ag;have bA:=ag.frozen 3;obtain⟨h,c1,bB⟩:=Au ar;subst bB;have aV:=(aN.grown H (by omega) (fun q aq=>by have:=aT q aq;omega)).setCell (p:=⟨g,3,T⟩) NLN (X h (0+(⟨#[80,76,49]⟩:ByteArray).size) c1);have aW:=AcH (g:=g) H hat (X h (0+(⟨#[80,76,49]⟩:ByteArray).size) c1);have aX:Wr (A.setCell ⟨g,3,T⟩ (X h (0+(⟨#[80,76,49]⟩:ByteArray).size) c1)) g n h1 m (X h (0+(⟨#[80,76,49]⟩:ByteArray).size) c1) [80,76,49]:=⟨ag.set 3 _,Nw ar⟩;have bC:=aU.setFar (p:=⟨g,3,T⟩) (by show w.heap.size≠g;omega) (X h (0+(⟨#[80,76,49]⟩:ByteArray).size) c1)))
 have aY:Wr (A.setCell ⟨g,3,T⟩ (X h 3 c1)) g n h1 m (X h 3 c1) [80,76,49]:=aX;have aZ:WK g y (X x 0 cx) (A.setCell ⟨g,3,T⟩ (X h 3 c1)) (X h 3 c1):=aW;have a0:Below g w (A.setCell ⟨g,3,T⟩ (X h 3 c1)):=aV;refine(Kv g n h1 m _ [80,76,49] n _ aY (by decide)).mono ?_;rintro e w2 ⟨rfl,bD,au,K2,a1⟩;have av:=aZ.trans K2;have a2:=a0.trans a1;obtain⟨B,aw⟩:∃B,Hid ([80,76,49]++BS n 2=B):=⟨_,Ab rfl⟩
 have b2:B.length<=5:=by rw[<-Aa aw,zB,AZ];exact NLN
 rw[Aa aw]at au;clear aX aW aV bC aY aZ a0 K2 a1 ar H hat ag aU J K L M bA ae aS l ap aM i hi aJ aK aL;have a3:=u.wk av (by omega) af;obtain⟨N,d1,d2⟩:=Ao a3;go_wp2_with fail
 go_loopw [26] (fun i wr=>∃ (k:Nat) (v':Value) (f:List Int),k<=n/\i=U V k/\Hid (f=B++(P.take k).flatMap Cw)/\f.length<=5+4000*k/\Wr wr g n h1 m v' f/\WK g y (X x 0 cx) wr v'/\Below g w wr) (fun i _=>n-(intOf i).toNat)
 case atStart=>exact⟨0,bD,B,zE _,rfl,Ab (by simp),by omega,au,av,a2⟩
 case round=>
  obtain⟨k,v',f,hk,rfl,ax,b3,O,ah,ai⟩:=hrel;have C:=aI.trans (ai.mono ad);by_cases a4:k<n
  ·have b4:(k:Int)<(n:Int):=by omega
   have o:k<P.length:=by rw[Aa aO];exact a4
   have a5:=G.sizes P[k] (zH o);have aj:CH P[k]=R:=zt.1 bs _ (zH o);obtain⟨r,s,rfl,t,an,nn,cn,S,W,a6,a7,a8⟩:=G.cells k o;have ay:=(C.cell (p:=⟨r,s+k*4,T⟩) t).trans S;have az:=(C.cell (p:=⟨r,s+k*4+1,T⟩) t).trans W;have bE:=(C.cell (p:=⟨r,s+k*4+2,T⟩) t).trans a6;have bF:=(C.cell (p:=⟨r,s+k*4+3,T⟩) t).trans a7;have aa:=Ab (Ff Cw P k o);have a9:=Ab a4;clear S W a6 a7;generalize P[k]=z at ay az bE bF a5 aj a8 aa;have D:=O.alloc (jC #[U V z.kind,U V z.num,Q z.text,X an nn cn] 44);have b5:=O.row.lt;have ba:=(Below.refl g wr).alloc (by omega) (jC #[U V z.kind,U V z.num,Q z.text,X an nn cn] 44);have bG:=C.trans (ba.mono ad);have bb:(f++Cw z).length<=5+4000*(k+1):=by rw[zB];have:=Qq aj;omega
   have bH:=Ab aj;clear aj;go_wp2_with (go_at_call 35;refine(AaP g n h1 m v' f z an nn cn _ D (by omega) (Aa bH) w0 a8 ad bG a5).mono ?_;rintro e bI ⟨rfl,aA,ab,K5,ak⟩)
   go_roundw
   case rel=>exact⟨k+1,aA,_,Aa a9,by go_num,Ab (by rw[Aa aa,Aa ax,zJ]),bb,ab,ah.trans K5.from,ai.trans (ba.trans ak)⟩
   case measure=>have:=Aa a9;simp[intOf];omega
  ·have e:k=n:=by omega
   subst e;have bJ:=Ab (show f=B++P.flatMap Cw by rw[Aa ax,zf (by rw[Aa aO];exact NLN)]);clear ax a3 N d1 d2 au av a2 G;have bc:=u.wk ah (by omega) af;obtain⟨N,d1,d2⟩:=Ao bc;obtain⟨J,K,L,M⟩:=AC O.row;go_wp2_with fail
   refine(Kv g k h1 m v' f h1 _ O (by omega)).mono ?_;rintro e b6 ⟨rfl,bK,D,bd,bf⟩;have bg:=ah.trans bd;have bh:=ai.trans bf;obtain⟨ac,aB⟩:∃ac,Hid (f++BS h1 2=ac):=⟨_,Ab rfl⟩
   have bb:ac.length<=16000007:=by rw[<-Aa aB,zB,AZ];omega
   rw[Aa aB]at D;clear N d1 d2 J K L M O ah ai bd bf bc C;obtain⟨J,K,L,M⟩:=AC D.row;go_wp2_with fail
   refine(Kv g k h1 m bK ac m _ D (by omega)).mono ?_;rintro e bI ⟨rfl,aA,ab,K5,ak⟩;have aC:=bg.trans K5;have bi:=bh.trans ak;obtain⟨E,aD⟩:∃E,Hid (ac++BS (m:Int) 2=E):=⟨_,Ab rfl⟩
   have b7:E.length<=16000009:=by rw[<-Aa aD,zB,AZ];omega
   rw[Aa aD]at ab;clear J K L M D bg bh K5 ak;have bj:=u.wk aC (by omega) af;obtain⟨N,d1,d2⟩:=Ao bj;go_wp2_with fail
   go_loopw [51] (fun i wr=>∃ (j:Nat) (v':Value) (f:List Int),j<=m/\i=U V j/\Hid (f=E++(I.take j).flatMap I9)/\f.length<=16000009+3*j/\Wr wr g k h1 m v' f/\WK g y (X x 0 cx) wr v'/\Below g w wr) (fun i _=>m-(intOf i).toNat)
   case atStart=>exact⟨0,aA,E,zE _,rfl,Ab (by simp),by omega,ab,aC,bi⟩
   case round=>
    obtain⟨j,aE,aF,b8,rfl,bk,b9,al,bl,aG⟩:=hrel;have bm:=aI.trans (aG.mono ad);clear bj N d1 d2 ab aC bi;by_cases bn:j<m
    ·have ca:(j:Int)<(m:Int):=by omega
     have o:j<I.length:=by rw[Aa aP];exact bn
     obtain⟨r,s,rfl,t,S,W⟩:=ao.cells j o;have ay:=(bm.cell (p:=⟨r,s+j*2,T⟩) t).trans S;have az:=(bm.cell (p:=⟨r,s+j*2+1,T⟩) t).trans W;have aa:=Ab (Ff I9 I j o);have bo:=Ab bn;clear S W;generalize I[j]=z at ay az aa;have bL:=al.alloc (jC #[U V z.op,U V z.arg] 49);have bM:=Ah.new wr #[U V z.op,U V z.arg] 49;have cb:=al.row.lt;have bN:aE.ownBlock≠Y wr.heap.size:=fun e=>by have:=(al.own.lt _ e).2;omega
     have bO:=(Below.refl g wr).alloc (by omega) (jC #[U V z.op,U V z.arg] 49);obtain⟨F,aH⟩:∃F,Hid (aF++BS z.op 1=F):=⟨_,Ab rfl⟩
     have cc:F.length<=16000009+3*j+1:=by rw[<-Aa aH,zB,AZ];omega
     have bP:=Ab (show F++BS z.arg 2=E++(I.take (j+1)).flatMap I9 by rw[Aa aa,<-Aa aH,Aa bk,I9,zJ,zJ]);have bQ:(F++BS z.arg 2).length<=16000009+3*(j+1):=by rw[zB,AZ];omega
     go_wp2_with (first
      |(go_at_call 36;refine(Cy g k h1 m aE aF _ 1 _ bL (by omega) (by omega)).mono ?_;rintro e cd ⟨rfl,bR,bp,br,bS⟩;rw[Aa aH]at bp;have bT:=(bM.wk br (by omega) bN).cell 1;simp only[List.getElem?_toArray,z1,z4]at bT)
      |(go_at_call 34;refine(Kv g k h1 m bR F _ _ bp (by omega)).mono ?_;rintro e ce ⟨rfl,bU,bV,bW,bX⟩))
     go_roundw
     case rel=>exact⟨j+1,bU,_,Aa bo,by go_num,bP,bQ,bV,bl.trans (br.trans bW).from,aG.trans (bO.trans (bS.trans bX))⟩
     case measure=>have:=Aa bo;simp[intOf];omega
    ·have e:j=m:=by omega
     subst e;have bY:=Ab (show aF=bv by rw[Aa aQ,Aa bk,zf (by rw[Aa aP];exact NLN),<-Aa aD,<-Aa aB,Aa bJ,<-Aa aw]);go_wp2_with fail
     refine bodyPost_end (by simp[results,results14,go_sem]) rfl ⟨rfl,aE,by rw[<-Aa bY];exact al,?_,aG⟩
     have:=bl;rw[<-Aa bw]at this;exact this.from
set_option maxHeartbeats 3200000
theorem Ow (a b:Option Addr)(n c m d:Nat)(s:Int)(P:List Vl)(I:List Cg)(w:World)(l:Vls w a n c P)(o:Iss w b m d I):
  Calls jL 5 #[jE #[X a n c,U V s,X b m d]] w fun e w'=>AcJ w (Eo P s I) e w':=by
 have B:=l.small;have hm:=o.small;have x:=Ab (show Da P s I=R->n<=4000/\m<=20000/\P.all CH=R from fun h=>by
  rw[Da,zD,zD,l.len,o.len]at h;have:=of_decide_eq_true h.1.1;exact⟨this.1,this.2.1,h.1.2⟩)
 have p:=Ab (show Eo P s I=if Da P s I then Fb P s I else []from rfl);have k:=Ah.new w #[X a n c,U V s,X b m d] 26;have f:=AN w (jC #[X a n c,U V s,X b m d] 26);have q:=l.below f NLN;have r:=o.below f NLN;generalize y:Da P s I=C at x p;have z:=Ab y;clear y;go_enter func5,ntmps5
 cases C
 ·have t:=Ab (show Eo P s I=[] by rw[Aa p];rfl);go_wp2_with (go_at_call 12;refine(GL _ _ _ _ _ _ _ P I _ q r).mono ?_;rintro e w2 ⟨rfl,j⟩;rw[Aa z])
  go_ret
  exact⟨_,rfl,by rw[Aa t];exact World.ownsRow_nil _ _ _ _,f.trans (j.mono f.size)⟩
 ·have t:=Ab (show Eo P s I=Fb P s I by rw[Aa p];rfl);obtain⟨D,E,F⟩:=Aa x rfl;go_wp2_with (first
   |(go_at_call 12;refine(GL _ _ _ _ _ _ _ P I _ q r).mono ?_;rintro e w2 ⟨rfl,j⟩;rw[Aa z];obtain⟨K,L,M⟩:=Ao (k.after j NLN))
   |(go_at_call 13;refine(Jh _ _ _ _ _ _ _ _ B hm).mono ?_;rintro e g ⟨rfl,G⟩;have i:=j.trans (G.mono j.size);obtain⟨N,O,S⟩:=Ao (k.after i NLN);have W:=(k.after i NLN).lt;obtain⟨aa,ab,ac⟩:=Ao ((k.after i NLN).alloc (jC #[U V n,U V s,U V m,X T 0 0] 39))))
  have u:=f.trans (i.mono f.size);have A:=AN g (jC #[U V n,U V s,U V m,X T 0 0] 39);have H:Wr (g.alloc (jC #[U V n,U V s,U V m,X T 0 0] 39)) g.heap.size n s m (X T 0 0) []:=⟨Ah.new g _ _,World.ownsRow_nil _ _ _ _⟩
  refine(AcL g.heap.size s _ a b n c m d P I g _ H (q.below i NLN) (r.below i NLN) NLN A D E F).mono ?_;rintro e ad ⟨rfl,ae,v,K5,J⟩;obtain⟨af,c5,rfl⟩:=Au v.own;obtain⟨ag,ah,ai,aj⟩:=AC v.row;go_wp2
  go_ret
  refine⟨_,rfl,?_,u.trans ((A.trans J).mono u.size)⟩;rw[Aa t];exact Aj v.own (by have:=u.size;omega)
end
end Go.Proofs.YtppafecmccdplaaGreat
