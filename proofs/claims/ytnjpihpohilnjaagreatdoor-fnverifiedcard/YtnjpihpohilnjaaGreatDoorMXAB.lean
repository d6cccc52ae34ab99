import Derived.Test.YtnjpihpohilnjaaGreatDoorMXAH
import Derived.Test.YtnjpihpohilnjaaGreatDoorMXAQ
import Derived.Test.YtnjpihpohilnjaaGreatDoorMXAX
open List renaming length->T,length->ja
open Option renaming none->U,some->Q
open Array renaming size->R,size->jh
open Go renaming World->jB,Value->jF,Addr->jG,TypeId->jV
open Bool renaming false->jE
namespace Go.Proofs.YtnjpihpohilnjaaGreatDoor
open Proofs.Tryz
open Value renaming int->V,slice->Y,string->jC,ownBlock->jL,agg->jM,pointer->jP
open IntKind renaming i64->X,i64->jd
open World renaming heap->Z,cell?->jI,setCell->jJ,alloc->jK,ownsRow->jO,drew->jR,frozen?->jY
open Addr renaming mk->jA,block->jT
open Ending renaming returned->jN
open Proofs.Tryz renaming prog->jZ
open Go.RowKit
set_option linter.unusedVariables false
set_option maxRecDepth 100000
set_option maxHeartbeats 6400000
variable{b:Array jF}{kn:Bool}{f ft:De->De}{op m:Int}{N:L6}{ys:L7}{i j k l at_ q n:Nat}{G:Nat->Prop}{x g:L3}{t:jV}{pv c d q2 u lv:jF}{w a:jB}
section
open Go.RowKit Go.Lib
end
theorem AiE:(jZ.info? 77).map (λi=>(i.zero,i.size,i.bytes))=Q (Q<|jM #[V X 0,V X 0,jC ByteArray.empty,Y U 0 0],4,56):=Oy
theorem Ag.dO {k b:Nat}{a c:Array jF}{T:jV}(R:Ag w k a t)(Q:Ag w b c T)(h:t≠T):k≠b:=λe=>by
 subst e;have:=R.out.symm.trans Q.out;simp at this;exact h this.2
def Lp (f:De->De) (N:Nat):Prop:=∀s,T s.aK<=T (f s).aK/\T (f s).aK<=T s.aK+N/\T (f s).aI<=T s.aI+N
theorem AbG (P:M1)(v:Vl):T (Qd P v)<=T P+1:=by grind [Qd]
theorem Tp (s:De)(i:I5):T (Bh s i).aI<=T s.aI+1:=by
 unfold Bh;split
 all_goals simp_all[AbG]
theorem Lp.put (i:I5):Lp (λs=>Bh s i) 1:=λs=>⟨by rw[EW];omega,by rw[EW];omega,Tp s i⟩
theorem Lp.const (v:Vl):Lp (Nt v) 1:=Lp.put _
theorem Lp.comp {g:De->De}{n m:Nat}(c:Lp f n)(hg:Lp g m):Lp (λs=>g<|f s)<|n+m:=λs=>by
 have a:=c s;have b:=hg<|f s;dsimp only;omega
theorem Lp.dH {fc fe:De->De}{n m:Nat}(hc:Lp fc n)(ht:Lp ft m)(he:Lp fe k):Lp (Jp fc ft fe)<|n+m+k+2:=λs=>by
 unfold Jp;dsimp only;have a:=hc s;have b:=Lp.put ⟨23,0,Aw⟩<|fc s;have c:=ht<|Bh (fc s) ⟨23,0,Aw⟩;have d:=Lp.put ⟨22,0,Aw⟩<|ft<|Bh (fc s) ⟨23,0,Aw⟩;simp only at b d;generalize e4:Bh (ft (Bh (fc s) ⟨23,0,Aw⟩)) ⟨22,0,Aw⟩=f at d|-;have e:=he (Dg f (T (fc s).aK) (T f.aK));have g:∀(t:De) (j:Nat) (x:Int),T (Dg t j x).aK=T t.aK:=λt j x=>by simp[Dg]
 have h:∀(t:De) (j:Nat) (x:Int),T (Dg t j x).aI=T t.aI:=λt j x=>rfl;simp only[g,h]at e|-;omega
theorem CC:∀e:Ex,Lp (hA e) (Am e)
 |.int .. =>Lp.const _
 |.text .. =>Lp.const _
 |.bool .. =>Lp.const _
 |.set .. =>Lp.const _
 |.name .. =>Lp.const _
 |.attr _ n=>Lp.put ⟨2,n,Aw⟩
 |.lett _ n=>Lp.put ⟨3,n,Aw⟩
 |.un _ op k=>by
  have:=(CC k).comp<|Lp.put ⟨op-3,0,Aw⟩;rw[Am,Nat.add_comm];exact this
 |.bin _ op l r=>by
  rw[Am];by_cases a:op=25
  .rw[H8<|.inl a];have:=(CC l).dH (CC r)<|Lp.const ⟨1,0,⟨#[]⟩,[]⟩;intro s;have:=this s
   grind [hA]
  by_cases b:op=26
  .rw[H8<|.inr b];have:=(CC l).dH (Lp.const ⟨1,1,⟨#[]⟩,[]⟩)<|CC r;intro s;have:=this s
   grind [hA]
  rw[H7 Oa];have:=((CC l).comp<|CC r).comp<|Lp.put ⟨op-3,0,Aw⟩;intro s;have:=this s
  grind [hA]
 |.ite _ c t e=>by
  rw[Am];have:=(CC c).dH (CC t)<|CC e;intro s;have:=this s;rw[hA];omega
def Em (Es:L8) (k:Int):Nat:=if k= -1 then 0 else Am (DH Es k)
theorem GF:∀e:Ex,Am e<=3*e.aL
 |.int .. =>Hs
 |.text .. =>Hs
 |.bool .. =>Hs
 |.set .. =>Hs
 |.name .. =>Hs
 |.attr .. =>Hs
 |.lett .. =>Hs
 |.un _ _ k=>by have:=GF k;simp only[Am,Ex.aL];omega
 |.bin _ _ l r=>by have:=GF l;have:=GF r;simp only[Am,Ex.aL];split<;>omega
 |.ite _ c t e=>by have:=GF c;have:=GF t;have:=GF e;simp only[Am,Ex.aL];omega
theorem Aas (Es:L8)(k:Int)(h:k= -1\/(0<=k/\k<T Es)):Em Es k<=3*Bv Es k:=by grind [DH,GF,Bv,Em]
def VT (Es:L8) (L:L9):Nat:=(L.map λs=>Em Es s.cond+Em Es s.aG+2).sum
theorem YJ (Es:L8):∀(L:L9),(∀s∈L,(s.cond= -1\/(0<=s.cond/\s.cond<T Es))/\(s.aG= -1\/(0<=s.aG/\s.aG<T Es)))->VT Es L<=3*DJ Es L+2*T L
 |[],_=>by simp[VT,DJ]
 |s ::L,h=>by
  have f:=YJ Es L λx hx=>h x<|zi _ hx;obtain⟨c,d⟩:=h s (za ..);have a:=Aas Es _ c;have b:=Aas Es _ d;have e1:VT Es (s ::L)=Em Es s.cond+Em Es s.aG+2+VT Es L:=by simp[VT]
  have e2:DJ Es (s ::L)=Bv Es s.cond+Bv Es s.aG+DJ Es L:=by simp[DJ]
  grind
theorem AdI (Es:L8)(L:L9)(k:Nat)(h:k<T L):VT Es (L.take k)+(Em Es L[k].cond+Em Es L[k].aG+2)<=VT Es L:=by grind [z8,List.getElem_cons_drop,VT]
theorem Aat (Es:L8)(g:Int)(s:De):T s.aK<=T (cpD Es g s).aK/\T (cpD Es g s).aK<=T s.aK+(Em Es g+1)/\T (cpD Es g s).aI<=T s.aI+(Em Es g+1):=by
 rw[cpD,Em];by_cases h:g= -1
 .rw[H8 h,H8 h];exact Lp.put _ s
 .rw[H7 h,H7 h];exact(CC _).comp (Lp.put ⟨25,0,Aw⟩) s
theorem Agz (Es:L8)(t:St)(s:De)(ht:t.aC=3\/t.cond≠-1):T s.aK<=T (VS Es s t).aK/\T (VS Es s t).aK<=T s.aK+(Em Es t.cond+Em Es t.aG+2)/\T (VS Es s t).aI<=T s.aI+(Em Es t.cond+Em Es t.aG+2)/\(VS Es s t).aE<=s.aE+1:=by
 have q:=AdH Es s t;have c:(VS Es s t).aE<=s.aE+1:=by
  rw[q];show s.aE+LG t<=_
  grind [LG]
 rw[VS];rw[VS]at c;by_cases d:t.aC=1
 .rw[H8 d]at c|-;have hc: ¬ t.cond= -1:=by obtain h|h:=ht<;>omega
  have:=(CC<|DH Es t.cond).comp (Lp.put ⟨4,(s.aE:Int),Aw⟩) s;have e:Em Es t.cond=Am (DH Es t.cond):=by rw[Em,H7 hc]
  grind [De.bJ]
 rw[H7 d]at c|-;by_cases f:t.aC=2
 .rw[H8 f]at c|-;have hc: ¬ t.cond= -1:=by obtain h|h:=ht<;>omega
  have e:Em Es t.cond=Am (DH Es t.cond):=by rw[Em,H7 hc]
  have a:=(CC<|DH Es t.cond).comp (Lp.put ⟨23,0,Aw⟩) s;have b:=Aat Es t.aG<|Bh (hA (DH Es t.cond) s) ⟨23,0,Aw⟩;have g:∀(t:De) (j:Nat) (x:Int),T (Dg t j x).aK=T t.aK:=λt j x=>by simp[Dg]
  have i:∀(t:De) (j:Nat) (x:Int),T (Dg t j x).aI=T t.aI:=λt j x=>rfl
  grind
 .rw[H7 f]at c|-;have b:=Aat Es t.aG s;omega
theorem Nu (Es:L8):∀(L:L9) (s:De),(∀t∈L,t.aC=3\/t.cond≠-1)->T (Ln Es s L).aK<=T s.aK+VT Es L/\T (Ln Es s L).aI<=T s.aI+VT Es L/\(Ln Es s L).aE<=s.aE+T L
 |[],s,_=>by simp[Ln,VT]
 |t ::L,s,h=>by
  have a:=Agz Es t s (h t (za ..));have b:=Nu Es L (VS Es s t) λx hx=>h x<|zi _ hx;have e1:VT Es (t ::L)=Em Es t.cond+Em Es t.aG+2+VT Es L:=by simp[VT]
  grind [VS,Ln]
theorem AZ.cp_one {e:Ex}(t:AZ N i e):∀{f:Ex},AZ N i f->∀s,hA e s=hA f s:=by
 induction t with
 |int h d b=>grind [AZ.cC]
 |text h d b=>grind [AZ.cC]
 |bool h d b=>grind [AZ.cC]
 |name h d b=>grind [AZ.cC]
 |attr h d b=>grind [AZ.cC]
 |lett h d b=>grind [AZ.cC]
 |set h d b a n c=>intro f u R;obtain⟨o,r⟩|⟨o,r⟩|⟨o,r⟩|⟨o,r⟩|⟨o,r⟩|⟨o,r⟩|⟨o,r⟩|⟨o,r⟩|⟨o,r⟩|⟨o,r⟩:=u.cC h<;>first|omega|(obtain⟨_,_,_,r⟩:=r;subst r;rfl)
 |un h d b hi t A=>grind [hA,AZ.cC]
 |bin h d b hi t u j k=>
   intro f v s;obtain⟨o,r⟩|⟨o,r⟩|⟨o,r⟩|⟨o,r⟩|⟨o,r⟩|⟨o,r⟩|⟨o,r⟩|⟨o,r⟩|⟨o,p,q,w,x,g,l,m,r⟩|⟨o,r⟩:=v.cC h<;>first|omega|skip
   subst r;rw[b]at g;simp only[List.cons.injEq,and_true,Int.natCast_inj]at g;obtain⟨rfl,rfl⟩:=g;rw[hA,hA,funext (j l),funext (k m)]
 |ite h d b hi t u v j k y=>
   intro f z s;obtain⟨o,r⟩|⟨o,r⟩|⟨o,r⟩|⟨o,r⟩|⟨o,r⟩|⟨o,r⟩|⟨o,r⟩|⟨o,r⟩|⟨o,r⟩|⟨o,p,q,B,w,x,C,g,l,m,v',r⟩:=z.cC h<;>first|omega|skip
   subst r;rw[b]at g;simp only[List.cons.injEq,and_true,Int.natCast_inj]at g;obtain⟨rfl,rfl,rfl⟩:=g;rw[hA,hA,funext (j l),funext (k m),funext (y v')]
theorem AbH {Es a:L8}(f:T Es=T N)(i:T a=T N)(l:∀j,(h:j<T Es)->AZ N j Es[j])(hF:∀j,(h:j<T a)->AZ N j a[j])(L:L9):Lo Es L=Lo a L:=by
 have b:∀k:Int,hA (DH Es k)=hA (DH a k):=λk=>by grind [DH,AZ.cp_one]
 have c:∀g,cpD Es g=cpD a g:=λg=>by funext s;rw[cpD,cpD,b]
 have d:VS Es=VS a:=by funext s t;simp only[VS,b,c]
 rw[Lo,Lo,Ln,Ln,d]
def Lc (N:L6) (L:L9) (T:L2) (c:De):Prop:=
 (Ld N L T jE/\c=⟨[],0,[]⟩)\/(Ld N L T true/\∃Es:L8,ja Es=ja N/\(∀j,(h:j<ja Es)->AZ N j Es[j])/\c=Lo Es L)
def CpA (c:De) (w:jB) (e:Ending) (w':jB):Prop:=∃x cx y cy nv,e=jN (jM #[Y x (T c.aI) cx,V X c.aE,Y y (T c.aK) cy])/\Dz w' (R<|Z w) (Y x (T c.aI) cx) c.aI nv/\jO w' (R<|Z w) 80 2 (Y y (T c.aK) cy) (T c.aK) (Cr c.aK)/\Ai w w'
def chk:L2->L2->Int->Bool
 |w ::ws,g ::gs,any=>if (w=0/\g≠(if w=0/\any=0 then g else any))\/(0<w/\g≠w)then jE else chk ws gs (if w=0/\any=0 then g else any)
 |_,_,_=>true
theorem Aiu (st:L2)(h: 1<=T st):st.drop (T st-1)=[CA st]:=by
 apply List.ext_getElem
 all_goals grind [Jl]
theorem AkP (st:L2)(h: 2<=T st):st.drop (T st-2)=[st.getD (T st-2) 0,CA st]:=by
 apply List.ext_getElem
 all_goals grind [Jl]
theorem VD (st:L2)(h: 1<=T st)(a:∀x∈st,1<=x): 1<=CA st:=by grind [zI,Jl]
theorem Ac5 (st:L2)(h: 2<=T st)(a:∀x∈st,1<=x): 1<=st.getD (T st-2) 0:=by grind [zM,zI]
theorem Ac6 (PK:L2)(i:Be)(sl:L2)(h0: 1<=i.op)(a:i.op<=25):T (DB PK i sl).1=AM i.op:=by
 obtain⟨op,b⟩:=i;simp only at h0 a;obtain e|e|e|e|e|e|e|e|e|e|e|e|e|e|e|e|e|e|e|e|e|e|e|e|e:=AfY h0 a
 all_goals subst e;rfl
theorem Ac7 (PK:L2)(i:Be)(st sl:L2)(h0: 1<=i.op)(c:i.op<=25)(f:i.op≠4)(b:AM i.op<=T st)(d:∀x∈st,1<=x):chk (DB PK i sl).1 (st.drop<|T st-AM i.op) 0=AJ i ⟨st,sl⟩:=by
 obtain⟨op,g⟩:=i;simp only at h0 c f b;obtain e|e|e|e|e|e|e|e|e|e|e|e|e|e|e|e|e|e|e|e|e|e|e|e|e:=AfY h0 c
 all_goals subst e
 all_goals first
  |rfl
  |omega
  |have a: 1<=T st:=b;have ht:=VD st a d;show chk _ (st.drop<|T st-1) 0=_;rw[Aiu st a];simp[AJ,FQ,AM,DB,rwV,ZF,chk];grind
  |grind [AM,AJ,DB,chk,Aiu,VD]
  |have a: 2<=T st:=b;have:=Ac5 st a d;grind [AM,AJ,FQ,DB,rwV,PJ,chk,AkP]
theorem Sw (PK:L2)(i:Be)(st sl:L2)(h0: 1<=i.op)(d:i.op<=25)(ht:AJ i ⟨st,sl⟩=true):(DB PK i sl).2=BR PK i ⟨st,sl⟩:=by
 obtain⟨op,b⟩:=i;simp only at h0 d;by_cases h5: 5<=op/\op<=21
 .have f:=Ym (PK:=PK) (i:=⟨op,b⟩) (s:=⟨st,sl⟩) h5.1 h5.2;rw[f];have a:(FQ op st).isSome=true:=by
   have:AJ ⟨op,b⟩ ⟨st,sl⟩=(FQ op st).isSome:=by
    unfold AJ
    grind
   grind
  have hm:DB PK ⟨op,b⟩ sl=rwV (op+3):=by
   unfold DB
   grind
  rw[hm];by_cases g:op<=7
  .have c:FQ op st=MZ (op+3) (CA st) 0:=by
    have:AM op=1:=by
     have:op=5\/op=6\/op=7:=Oa;obtain rfl|rfl|rfl:=this<;>rfl
    grind [FQ]
   rw[c,ZF _ _ Oa Oa]at a|-;have:op=5\/op=6\/op=7:=Oa
   grind [rwV]
  .have c:FQ op st=MZ (op+3) (st.getD (T st-2) 0) (CA st):=by
    have:AM op=2:=by
     obtain e|e|e|e|e|e|e|e|e|e|e|e|e|e|e|e|e|e|e|e|e|e|e|e|e:=AfY h0 d
     all_goals subst e
     all_goals first|rfl|omega
    grind [FQ]
   rw[c,PJ _ _ _ Oa Oa]at a|-;generalize CA st=y at a|-;generalize st.getD (T st-2) 0=x at a|-;have:op=8\/op=9\/op=10\/op=11\/op=12\/op=13\/op=14\/op=15\/op=16\/op=17\/op=18\/op=19\/op=20\/op=21:=Oa
   obtain rfl|rfl|rfl|rfl|rfl|rfl|rfl|rfl|rfl|rfl|rfl|rfl|rfl|rfl:=this
   all_goals grind [rwV]
 .have:op=1\/op=2\/op=3\/op=4\/op=22\/op=23\/op=24\/op=25:=Oa;obtain rfl|rfl|rfl|rfl|rfl|rfl|rfl|rfl:=this<;>rfl
section
open Go.RowKit Go.Lib
structure Lt (w:jB) (ta tb:L3) (tn tc tm td:Nat) (s:Vs):Prop where
 st:AP w ta tn tc s.stack
 sl:AP w tb tm td s.aE
 n1:ta=U->tc=0
 n2:tb=U->td=0
theorem Lt.below {w w':jB}{a b:L3}{c d f g B:Nat}{s:Vs}(h:Lt w a b c d f g s)(i:Below B w w')(j:R (Z w)<=B):Lt w' a b c d f g s:=⟨h.st.below i j,h.sl.below i j,h.n1,h.n2⟩
def SpA (w:jB) (kn:Bool) (r:Int×Vs) (e:Ending) (w':jB):Prop:=∃v,e=jN (.tuple #[v,V X r.1])/\Ai w w'/\(r.1=0->∃x c y d,v=jM #[.bool kn,Y x (T r.2.stack) c,Y y (T r.2.aE) d]/\Lt w' x y (T r.2.stack) c (T r.2.aE) d r.2/\(∀ad,x=Q ad->R (Z w)<=jT ad)/\∀ad,y=Q ad->R (Z w)<=jT ad)/\∃k x1 n1 c1 x2 n2 c2,v=jM #[.bool k,Y x1 n1 c1,Y x2 n2 c2]
theorem Af4 (a b:L2)(c:Int)(j p:Nat)(d:j<T a)(f:p<T b):chk (a.drop j) (b.drop p) c=if (a[j]=0/\b[p]≠(if a[j]=0/\c=0 then b[p]else c))\/(0<a[j]/\b[p]≠a[j])then jE else chk (a.drop<|j+1) (b.drop<|p+1) (if a[j]=0/\c=0 then b[p]else c):=by grind [chk,z4]
theorem Pl (l:L2)(j:Nat)(h:∀x∈l,0<=x): 0<=l.getD j 0:=by
 rw[List.getD];cases a:l[j]? with
 |none=>simp
 |some x=>exact h x<|zn a
theorem Aah (op:Int): 0<=(rwV op).2:=by grind [rwV]
theorem Lz (PK:L2)(i:Be)(sl:L2)(a:∀x∈PK,1<=x)(b:∀x∈sl,0<=x): 0<=(DB PK i sl).2:=by
 unfold DB;split
 .exact Pl PK _ (λx hx=>H2<|a x hx)
 split
 .show 0<=F7 i.aY
  grind [F7]
 split
 .exact Pl sl _ b
 repeat' split
 all_goals simp_all[Aah]
theorem Uy {lo e n c:Nat}{a:L7}(h:jO w lo e 1 (Y x n c) n a)(k:Nat)(i:k<=n):jO w lo e 1 (Y x k c) k<|a.take k:=by
 obtain⟨h0,b⟩:=h;refine⟨by rw[zg,h0];omega,?_⟩;obtain⟨hv,j⟩|⟨g,cap,d,hv,hg,hc,l,h3,f,h5⟩:=b
 .grind
 .simp only[Value.slice.injEq]at hv;obtain⟨rfl,_,rfl⟩:=hv;refine .inr ⟨g,c,d,rfl,hg,hc,Oa,h3,f,?_⟩
  grind
def Fr (w W:jB) (v0 v1 v2:jF) (kn:Bool) (ta tb:L3) (tn tc tm td:Nat) (op arg:Int):Prop:=
 Ag W (R<|Z w) #[v0,v1,v2] 26/\Ag W (R (Z w)+1) #[.bool kn,Y ta tn tc,Y tb tm td] 46/\Ag W (R (Z w)+1+1) #[.bool jE,Y U 0 0,Y U 0 0] 46/\Ag W (R (Z w)+1+1+1) #[V X op,V X arg] 80/\Ai w W
theorem Fr.aA {w b c:jB}{d f g:jF}{kn:Bool}{i j:L3}{k l m n:Nat}{op o:Int}(h:Fr w b d f g kn i j k l m n op o)(a:Ai b c):Fr w c d f g kn i j k l m n op o:=by
 obtain⟨h0,q,r,h3,p⟩:=h;exact⟨h0.aA a NLN,q.aA a NLN,r.aA a NLN,h3.aA a NLN,p.trans<|a.mono p.size⟩
theorem Fr.grown {w a b:jB}{c d f:jF}{kn:Bool}{g i:L3}{j k l m:Nat}{op n:Int}(h:Fr w a c d f kn g i j k l m op n){x:N8}{lo:Nat}(hg:a.grownBy b x)(hx:∀q,x=Q q->lo<=q)(o:R (Z w)+1+1+1<lo):Fr w b c d f kn g i j k l m op n:=by grind [Fr,Ag.grown,Go.RowKit.Below.size,Go.RowKit.Below.grown]
theorem Fr.bF {b:jF}{f:L3}(h:Fr w a b c d kn f g i j k l op m)(p:jG)(v:jF)(r:R (Z w)+1+1+1<jT p):Fr w (jJ a p v) b c d kn f g i j k l op m:=by
 obtain⟨h0,n,o,h3,q⟩:=h;exact⟨h0.aF Oa v,n.aF Oa v,o.aF Oa v,h3.aF Oa v,q.setCell Oa v⟩
theorem Fr.cells {b:jF}{f:L3}(h:Fr w a b c d kn f g i j k l op m):
  (jI a ⟨R<|Z w,0,U⟩=Q b/\jI a ⟨R<|Z w,1,U⟩=Q c/\jI a ⟨R<|Z w,2,U⟩=Q d)/\(jI a ⟨R (Z w)+1,0,U⟩=Q (.bool kn)/\jI a ⟨R (Z w)+1,1,U⟩=Q (Y f i j)/\jI a ⟨R (Z w)+1,2,U⟩=Q (Y g k l))/\
  (jI a ⟨R (Z w)+1+1,0,U⟩=Q (.bool jE)/\jI a ⟨R (Z w)+1+1,1,U⟩=Q (Y U 0 0)/\jI a ⟨R (Z w)+1+1,2,U⟩=Q (Y U 0 0))/\(jI a ⟨R (Z w)+1+1+1,0,U⟩=Q (V X op)/\jI a ⟨R (Z w)+1+1+1,1,U⟩=Q (V X m))/\
  jY a ⟨R (Z w)+1+1,0,U⟩=jE/\jY a ⟨R (Z w)+1+1,1,U⟩=jE/\jY a ⟨R (Z w)+1+1,2,U⟩=jE:=by
 obtain⟨h0,n,o,h3,p⟩:=h
 grind [At,Ag.frozen,Bo]
theorem Fr.put {b:jF}{f:L3}(h:Fr w a b c d kn f g i j k l op m)(x y z:jF):
  (jI (jJ (jJ (jJ a ⟨jh (Z w)+1+1,0,U⟩ x) ⟨jh (Z w)+1+1,1,U⟩ y) ⟨jh (Z w)+1+1,2,U⟩ z) ⟨jh (Z w)+1+1,0,U⟩=Q x/\jI (jJ (jJ (jJ a ⟨jh (Z w)+1+1,0,U⟩ x) ⟨jh (Z w)+1+1,1,U⟩ y) ⟨jh (Z w)+1+1,2,U⟩ z) ⟨jh (Z w)+1+1,1,U⟩=Q y/\jI (jJ (jJ (jJ a ⟨jh (Z w)+1+1,0,U⟩ x) ⟨jh (Z w)+1+1,1,U⟩ y) ⟨jh (Z w)+1+1,2,U⟩ z) ⟨jh (Z w)+1+1,2,U⟩=Q z)/\
  Ai w (jJ (jJ (jJ a ⟨jh (Z w)+1+1,0,U⟩ x) ⟨jh (Z w)+1+1,1,U⟩ y) ⟨jh (Z w)+1+1,2,U⟩ z):=by
 obtain⟨h0,o,n,h3,p⟩:=h;have R:=((n.set 0 x).set 1 y).set 2 z
 grind [At,Go.RowKit.Below.setCell]
theorem Aia {lo e n c b:Nat}{a:L7}{d:Array jF}(h:jO w lo e 1 (Y x n c) n a)(R:Ag w b d t)(ht:e≠t)(hx:x=Q (jA q 0 U)):q≠b:=by
 obtain⟨hv,_⟩|⟨g,cap,i,hv,_,hc,_⟩:=h.2
 .grind
 .simp only[Value.slice.injEq]at hv;rw[hv.1]at hx;cases hx;intro f;subst f;have:=R.out
  grind
theorem Du {lo e n c:Nat}{a:L7}(h:jO w lo e 1 (Y x n c) n a)(p:jG)(R:Ag w (jT p) b t)(ht:e≠t)(v:jF):jO (jJ w p v) lo e 1 (Y x n c) n a:=by grind [Aia,Go.heap_setCell_other,Dq]
theorem Bg:(3 :jV)≠46:=Ob
theorem Sy {b:jB}{q r s:jF}{t u x y:L3}{v A B C k c l d lo:Nat}{D:Int}{st sl:L2}(hF:Fr w b q r s kn t u v A B C op D)(i:jO b lo 3 1 (Y x k c) k<|Ak st)(j:jO b lo 3 1 (Y y l d) l<|Ak sl)(m:jh (Z w)<=lo)(E:k<=1048576)(F:l<=1048576):
  Lt (jJ (jJ (jJ b ⟨jh (Z w)+1+1,0,U⟩<|.bool kn) ⟨jh (Z w)+1+1,1,U⟩<|Y x k c) ⟨jh (Z w)+1+1,2,U⟩<|Y y l d) x y k c l d ⟨st,sl⟩/\(∀a,x=Q a->jh (Z w)<=jT a)/\∀a,y=Q a->jh (Z w)<=jT a:=by
 obtain⟨_,_,R,_,_⟩:=hF;have f:=R.set 0<|.bool kn;have n:=f.set 1<|Y x k c;have a1:=Du (Du (Du i ⟨jh (Z w)+1+1,0,U⟩ R Bg<|.bool kn) ⟨jh (Z w)+1+1,1,U⟩ f Bg<|Y x k c) ⟨jh (Z w)+1+1,2,U⟩ n Bg<|Y y l d;have a2:=Du (Du (Du j ⟨jh (Z w)+1+1,0,U⟩ R Bg<|.bool kn) ⟨jh (Z w)+1+1,1,U⟩ f Bg<|Y x k c) ⟨jh (Z w)+1+1,2,U⟩ n Bg<|Y y l d;have nl:∀{z:L3} {n' c':Nat} {o:L7} {p:jB},jO p lo 3 1 (Y z n' c') n' o->(z=U->c'=0):=λ{z n' c' o p} h e=>by
  obtain⟨hv,_⟩|⟨g,cap,G,hv,_⟩:=h.2
  all_goals grind
 refine⟨⟨Cd a1 E,Cd a2 F,nl a1,nl a2⟩,λa e=>?_,λa e=>?_⟩
 .exact zB m (i.lt (jT a) D7).1
 .exact zB m (j.lt (jT a) D7).1
end
section
variable{aS aO aZ aW:jG}
structure Alp (w0:jB) (B mb lb:Nat) (ap:L3) (np cp:Nat) (ai:L3) (ni ci:Nat) (a1:L3) (n1 c1:Nat) (a2:L3) (n2 c2:Nat) (P:M1) (I:M2) (R:Rq) (S:Nat) (aS aO aZ aW:jG) (K:List M5):Prop where
 env:AhW w0 ap np cp a1 n1 c1 a2 n2 c2 P R aS aO aZ aW
 aK:PX w0 ai ni ci I
 okI:∀i∈I,EF i=true
 low:jh (Z w0)<=B
 len:T I<=20000
 kst:Kst (P.map Vl.aC) S I 0 K
def Afx (w0:jB) (B mb lb:Nat) (pv iv q1 q2:jF) (s:Int) (R:Rq) (S:Nat) (P:M1) (I:M2) (K:List M5) (X:Rn) (sv:jF) (w:jB) (tb rb:Nat) (wr:jB):Prop:=∃ (at_:Nat) (st:M4) (sl:List M7) (n pk:Nat) (v:Vs) (sa:L3) (sc:Nat) (xs ys:L7),
 Hid ((K.getD at_ U=Q v/\OkS v st sl/\T v.aE=S/\at_<T I)/\(n<=at_/\pk<=100/\T st<=pk)/\∃f,T I-at_<=f/\X=Oe R P I f at_ st sl n pk)/\Dl B mb lb pv iv q1 q2 s R S at_ st sl sa sc xs ys wr/\Ag wr tb #[V jd 0,V jd 0,Y U 0 0,V jd n,V jd pk] 37/\Ag wr rb #[V jd 0,V jd 0,Y U 0 0,V jd 0,V jd 0] 37/\Ai w0 wr/\AN (Ga mb lb sv) w wr/\(∀q,jL (Value.slice sa (T st) sc)=Q q->jL sv=Q q\/jh (Z w)<=q)
def Abl (w0:jB) (B mb lb:Nat) (pv iv q1 q2:jF) (s:Int) (R:Rq) (S:Nat) (X:Rn) (sv:jF) (w:jB) (tb rb:Nat) (wr:jB):Prop:=∃ (n pk:Nat) (ko co at':Int) (ss:L4) (y:L3) (cy:Nat) (sw:jF),
 Hid (ko≠0/\X=⟨(ko,co,ss),n,pk⟩)/\Ag wr mb (No pv s iv R q1 q2 sw (Y (Q<|jA lb 0 U) S S) at' ko co<|Y y (T ss) cy) 59/\jO wr (jh<|Z w) 9 1 (Y y (T ss) cy) (T ss) (ss.map Value.string)/\Ag wr tb #[V jd 0,V jd 0,Y U 0 0,V jd n,V jd pk] 37/\Ag wr rb #[V jd 0,V jd 0,Y U 0 0,V jd 0,V jd 0] 37/\Ai w0 wr/\AN (Ga mb lb sv) w wr
theorem PN {a b:jF}(h:jN a=jN b):a=b:=by cases h;rfl
theorem TkA.bE {B a b:Nat}{iv q1:jF}{s:Int}{R:Rq}{S:Nat}{P:M1}{i:Be}{st:M4}{sl:List M7}{c:L3}{r:Ending}{w':jB}(h:TkA aS aO aZ aW B a b pv iv q1 q2 s R S P i at_ st sl c q ys w r w'):∃v,r=jN v/\TkA aS aO aZ aW B a b pv iv q1 q2 s R S P i at_ st sl c q ys w (jN v) w':=by
 have d:=h;obtain⟨_,e,_⟩|⟨_,e,_⟩|⟨_,_,_,⟨e,_⟩,_⟩|⟨_,_,_,_,_,e,_⟩:=h
 all_goals grind
theorem hB {b:Nat}{a f g:jF}(R:Ag w b #[a,c,d,f,g] t):jI w (jA b 0 U)=Q a/\jI w (jA b 1 U)=Q c/\jI w (jA b 2 U)=Q d/\jI w (jA b 3 U)=Q f/\jI w (jA b 4 U)=Q g:=⟨R.cell 0,R.cell 1,R.cell 2,R.cell 3,R.cell 4⟩
def mzR (mb M:Nat) (wr:jB):Nat:=match jI wr (jA mb 11 U),jI wr (jA mb 12 U)with
 |some (.int _ a),Q (.int _ k)=>if k=0 then M+1-a.toNat else 0
 |_,_=>0
theorem ZH {a M:Nat}{b:jB}{iv q1 f:jF}{s at_ c g:Int}{R:Rq}(r:Ag b a (No pv s iv R q1 q2 u lv at_ c g f) t)(h:c≠0):mzR a M b=0:=by
 have e1:jI b (jA a 11 U)=Q (V X at_):=r.cell 11;have e2:jI b (jA a 12 U)=Q (V X c):=r.cell 12
 grind [mzR]
theorem Afy {b M:Nat}{c:jB}{iv q1 f:jF}{s g:Int}{a:Nat}{R:Rq}(r:Ag c b (No pv s iv R q1 q2 u lv a 0 g f) t):mzR b M c=M+1-a:=by
 have e1:jI c (jA b 11 U)=Q (V X a):=r.cell 11;have e2:jI c (jA b 12 U)=Q (V X 0):=r.cell 12;rw[mzR,e1,e2];simp
theorem Is (a b:Nat):max (a:Int) (b:Int)=if a<b then (b:Int)else (a:Int):=Oa
theorem PO {c:jB}{b n a:Nat}(d:Ag c b #[V X 0,V X 0,Y U 0 0,V X n,V X a] 37):Ag (jR<|jJ (jJ c (jA b 3 U)<|V X<|(n:Int)+1) (jA b 4 U)<|V X<|if a<l then (l:Int)else (a:Int)) b #[V X 0,V X 0,Y U 0 0,V X ((n+1 :Nat):Int),V X ((max a l:Nat):Int)] 37:=by
 have h:=((d.set 3<|V X<|(n:Int)+1).set 4<|V X<|if a<l then (l:Int)else (a:Int)).aA BRN.drew NLN
 grind
theorem JO.bF {x:jF}{v:Vv}{d:Nat}{f:Array jF}(h:JO G w x v)(r:Ag w d f t)(q:∀(j:Nat) (y:K9),f[j]? ≠Q (jC y)):JO (λb=>G b/\b≠d) w x v:=by
 cases v with
 |bool b=>exact h
 |int n=>exact h
 |text s=>exact h
 |set ss=>
   obtain⟨a,n,c,k,g,h3,l⟩:=h;refine⟨a,n,c,k,g,h3,λm e h0=>⟨l m e h0,λo=>?_⟩⟩;obtain⟨b,u,i,_,hc⟩:=g.cells 0 h0;rw[e]at i;cases i;have p:b=d:=o;subst p;rw[r.cell]at hc
   grind
theorem Vi {b:jB}{B n a:Nat}{e:jV}{x:jF}{c:L7}{u v:jF}(h:jO b B e 1 x n c)(d:∀q,jL x=Q q->q≠a):jO (jR<|jJ (jJ b (jA a 3 U) u) (jA a 4 U) v) B e 1 x n c:=
 Ad (Ah (Ah h (jA a 3 U) u d) (jA a 4 U) v d) (λq _=>rfl)
theorem AhX {B d f:Nat}{iv q1:jF}{s:Int}{R:Rq}{S:Nat}{at_:Int}{st:M4}{sl:List M7}{g:L3}{sc:Nat}{l ys:L7}{c:jB}{a m:Nat}{v:jF}(h:Dl B d f pv iv q1 q2 s R S at_ st sl g sc l ys c)(r:Ag c a #[V X 0,V X 0,Y U 0 0,V X n,V X m] 37):Dl B d f pv iv q1 q2 s R S at_ st sl g sc l ys<|jR<|jJ (jJ c (jA a 3 U) u) (jA a 4 U) v:=by
 have hm:a≠d:=λe=>by
  subst e;have:=r.out.symm.trans h.row.out
  grind
 have o:a≠f:=λe=>by
  subst e;have:=r.out.symm.trans h.cQ.out
  grind
 have t:∀q,jL (Value.slice g (T st) sc)=Q q->q≠a:=λq hq e=>Ac r h.cI Ob O9;have k:AN (λb=>b=a) c<|jR<|jJ (jJ c (jA a 3 U) u) (jA a 4 U) v:=(AN.setCell (S:=λb=>b=a) (AN.setCell (S:=λb=>b=a) (AN.refl _ c) (p:=(jA a 3 U)) (λ_=>rfl) u) (p:=(jA a 4 U)) (λ_=>rfl) v).trans (AN.aH (S:=λ_=>False) BRN.drew) λ_ _ h=>h.elim;have w:∀(j:Nat) (x:K9),(#[Value.int X 0,V X 0,Y U 0 0,V X n,V X m])[j]? ≠Q (jC x):=λj x e=>S4;have C:∀{y:jF} {z:Vv},JO (Np d f g) c y z->JO (Np d f g) (jR<|jJ (jJ c (jA a 3 U) u) (jA a 4 U) v) y z:=λhv=>((hv.bF r w).bP k λb i=>i.2).bL λb _ i=>i.1;refine⟨h.row.bP k λe=>hm e.symm,Vi h.cI t,h.cQ.bP k λe=>o e.symm,h.len,λj A=>?_,λj A=>?_,h.low,h.bA⟩
 all_goals grind [Dl.vsl,Dl.vst]
theorem Fi {c:jB}{b a:Nat}{d:Array jF}{u v:jF}(r:Ag c b d t)(h:b≠a):Ag (jR<|jJ (jJ c (jA a 3 U) u) (jA a 4 U) v) b d t:=
 ((r.aF (p:=(jA a 3 U)) h u).aF (p:=(jA a 4 U)) h v).aA BRN.drew NLN
theorem PQ {S:Nat->Prop}{b:jB}{a:Nat}{u v:jF}(k:AN S w b)(h:R (Z w)<=a):AN S w<|jR<|jJ (jJ b (jA a 3 U) u) (jA a 4 U) v:=
 ((k.setCell (p:=(jA a 3 U)) (λe=>H9 e (Oa:¬ (a<R (Z w)))) u).setCell (p:=(jA a 4 U)) (λe=>H9 e (Oa:¬ (a<R (Z w)))) v).trans (AN.aH (S:=λ_=>False) BRN.drew) (λ_ _ h=>h.elim)
theorem KY {w0 b:jB}{a:Nat}{u v:jF}(k:Ai w0 b)(h:R (Z w0)<=a):Ai w0<|jR<|jJ (jJ b (jA a 3 U) u) (jA a 4 U) v:=by grind [Go.RowKit.Below.setCell,Go.RowKit.Below.drew]
theorem AhY (w0:jB)(B a A:Nat)(ap:L3)(ab cp:Nat)(av:L3)(O ci:Nat)(a1:L3)(n1 c1:Nat)(a2:L3)(n2 c2:Nat)(P:M1)(I:M2)(s:Int)(R:Rq)(S:Nat)(K:List M5)(w:jB)(ys:L7)(E:Alp w0 B a A ap ab cp av O ci a1 n1 c1 a2 n2 c2 P I R S aS aO aZ aW K)(h0: 0<T I)(ca:K.getD 0 U=Q ⟨[],List.replicate S 0⟩)(bj:Dl B a A (Y ap ab cp) (Y av O ci) (Y a1 n1 c1) (Y a2 n2 c2) s R S (0 :Nat) [] (List.replicate S U) U 0 [] ys w)(bk:Ai w0 w):
  Calls jZ 21 #[jP<|Q<|jA a 0 U] w λr w'=>∃o n d x cx,Oe R P I (T I) 0 [] (List.replicate S U) 0 0=⟨o,n,d⟩/\r=jN (jM #[V jd o.1,V jd o.2.1,Y x (T o.2.2) cx,V jd n,V jd d])/\jO w' (jh<|Z w) 9 1 (Y x (T o.2.2) cx) (T o.2.2) (o.2.2.map Value.string)/\AN (λk=>k=a\/k=A) w w':=by
 have bl:=(AE w<|.cells #[V jd 0,V jd 0,Y U 0 0,V jd 0,V jd 0] 37).alloc Ox<|.cells #[V jd 0,V jd 0,Y U 0 0,V jd 0,V jd 0] 37;have cb:=Ag.new (jK w<|.cells #[V jd 0,V jd 0,Y U 0 0,V jd 0,V jd 0] 37) #[V jd 0,V jd 0,Y U 0 0,V jd 0,V jd 0] 37;simp only[World.size_alloc]at cb;have dj:=bj.row.lt;generalize aw:Oe R P I (T I) 0 [] (List.replicate S U) 0 0=X;have cA:=Ab<|show Afx w0 B a A (Y ap ab cp) (Y av O ci) (Y a1 n1 c1) (Y a2 n2 c2) s R S P I K X (Y U 0 0) w (jh (Z w)+1) (jh<|Z w) (jK (jK w<|.cells #[V jd 0,V jd 0,Y U 0 0,V jd 0,V jd 0] 37)<|.cells #[V jd 0,V jd 0,Y U 0 0,V jd 0,V jd 0] 37)from⟨0,[],List.replicate S U,0,0,⟨[],List.replicate S 0⟩,U,0,[],ys,Ab ⟨⟨ca,⟨rfl,Ox,λj dk=> .inl Ox⟩,Ox,h0⟩,⟨NLN,Oa,NLN⟩,T I,Oa,aw.symm⟩,bj.below bl,cb,(Ag.new w _ _).alloc _,bk.trans<|bl.mono bk.size,AN.aH bl,λq hq=>Hj⟩;have G:=Ab E;clear bj bk ca aw E;go_enter func21,ntmps21
 go_wp2_with fail
 go_loopw [4] (λ_ wr=>True/\(Afx w0 B a A (Y ap ab cp) (Y av O ci) (Y a1 n1 c1) (Y a2 n2 c2) s R S P I K X (Y U 0 0) w (jh (Z w)+1) (jh<|Z w) wr\/Abl w0 B a A (Y ap ab cp) (Y av O ci) (Y a1 n1 c1) (Y a2 n2 c2) s R S X (Y U 0 0) w (jh (Z w)+1) (jh<|Z w) wr)) (λ_ wr=>mzR a (T I) wr)
 case atStart=>exact⟨trivial,.inl<|Aa cA⟩
 case round=>
  obtain⟨_,cB|hF⟩:=hrel
  .obtain⟨at_,st,sl,n,d,v,a3,sc,dl,zs,ax,M,RT,ag,F,ay,cc⟩:=cB;obtain⟨g0,g1,g2,g3,az,aB,aD,g7,aE,aG,aI,aJ,aL,aM,aN⟩:=Ir M.row;obtain⟨⟨bm,bn,bo,ah⟩,⟨cd,bp,ce⟩,f1,cf,aw⟩:=Aa ax;obtain⟨f2,rfl⟩:∃f2,f1=f2+1:=⟨f1-1,Oa⟩
   obtain⟨br,cg,a4,bs⟩:=(Aa G).kst at_ (zE _) ah;obtain rfl:br=v:=Option.some.inj<|cg.symm.trans bm;have bt:I.getD at_ ⟨0,0⟩=I[at_]:=by rw[zj,zM ah];rfl
   rw[bt]at a4 bs;obtain⟨ai,aj,cC,bu,ch,cj⟩:=(Aa G).aK.cells at_ ah;subst cC;have dm:=(F.cell (p:=⟨ai,aj+at_*2,U⟩) bu).trans ch;have dn:=(F.cell (p:=⟨ai,aj+at_*2+1,U⟩) bu).trans cj;have dp:(at_:Int)<(O:Int):=H2<|(Aa G).aK.len;have cD:at_<=20000:=H2<|(Aa G).len;have t:=(SH wr).drew;have cE:=Ab<|(Afw (Aa G).env (M.below t) (F.trans<|t.mono F.size) (Aa G).low cD ((Aa G).okI _<|zI ah) a4 bn bo Oa).mono λr w' h=>h.bE;have bv:∀{b:Nat} {ck:Array jF},Ag wr b ck 37->¬ Ga a A (Y a3 (T st) sc) b:=λ{b ck} r e=>by
    obtain e|e|e:=e
    .subst e;have:=r.out.symm.trans M.row.out;simp at this
    .subst e;have:=r.out.symm.trans M.cQ.out;simp at this
    .exact Ac r M.cI Ob e
   have H:=Ab<|And.intro (bv RT)<|bv ag;have cF:=Ab cc;have cG:=Ab<|(Aa G).okI _<|zI ah;have a5:=Ab<|Afy (M:=T I) M.row;have a6:=Ab ay;have a7:=Ab (show ∀b,b<jh (Z w0)->¬ Ga a A (Y a3 (T st) sc) b from λb dq e=>by
    have:=(Aa G).low;obtain e|e|e:=e
    .have:=M.low.1;omega
    .have:=M.low.2;omega
    .have:=(M.cI.lt _ e).1;omega)
   have bw:=Ab<|show jh (Z w)<=jh (Z<|jR wr)from ay.size;have bx:=Ab (show jh (Z w0)<=a by have:=(Aa G).low;have:=M.low.1;omega);have a8:=Ab (show ∀q,q<jh (Z w)->Ga a A (Y a3 (T st) sc) q->Ga a A (Y U 0 0) q from λq hq h=>h.imp_right λh=>h.imp_right λh=>(cc q h).resolve_right Oa);have a9:=Ab (show jh (Z w0)<=jh (Z w)+1 by have:=(Aa G).low;have:=M.low.1;omega);have cH:(Tryz.f51.name== "runtime.NumGoroutine")=jE:=Oy;have cJ: Tryz.f51.body.isNone=jE:=Oy;clear bv;have ba:=Ab aw;have cK:=Ab cf;have cL:=Ab bs;have bb:=Ab ah;have cM:=Ab bn;have bc:=Ab bt;have ae:=Ab<|And.intro a4<|And.intro bm<|And.intro bo<|And.intro bp ce;have dr:=Ab M;have bd:=Ab RT;have bf:=Ab ag;have ds:n<=20000:=Oa;have cN:d<=100:=bp;have cO:=Ab cd;clear bm bn bo cd bp ce aw cf cg a4 bs bt bu ch cj ax;generalize I[at_]=i at*;clear ah;obtain⟨aP,aQ,aR,aT,aU⟩:=hB RT;clear RT ag M;go_wp2_with fail
   go_region_law (first
    |(refine Bk rfl 51 _ func51 cH cJ _ _ _ rfl (jP<|Q<|jA a 0 U) (jM #[V jd i.op,V jd i.aY]) rfl rfl _ (Aa cE) ?_;intro cP af cS)
    |fail)
   all_goals
    obtain⟨J,ak,hF⟩|⟨J,ak,us,ss,bz,hF⟩|⟨J,c,aq,⟨ak,hc⟩,us,dt,aV,ar,f⟩|⟨J,cT,st',cU,aq,ak,cV⟩:=cS
    .obtain rfl:=PN ak;obtain⟨at',y,C,g,L,f⟩:=hF;have m:=(((Aa bd).aA t NLN).bP f (Aa H).1)
     have W:=(((Aa bf).aA t NLN).bP f (Aa H).2)
     obtain⟨aP,aQ,aR,aT,aU⟩:=hB m;have bA:=λj=>m.frozen j;obtain⟨g0,g1,g2,g3,az,aB,aD,g7,aE,aG,aI,aJ,aL,aM,aN⟩:=Ir g;have D:=m.set 3<|V jd<|(n:Int)+1;obtain⟨bB,bC,bD,bF,bG⟩:=hB D;have bH:=λj=>D.frozen j;have z:a≠jh (Z w)+1:=λe=>(Aa H).1<|.inl e.symm;have aa:=g.aF (p:=⟨jh (Z w)+1,3,U⟩) z<|V jd<|(n:Int)+1;obtain⟨bI,bJ,bK,bL,bM,bN,bO,bQ,bR,bS,bT,bU,bV,bW,bX⟩:=Ir aa;have N:=Gz (F.trans<|t.mono F.size) f<|Aa a7;have aX:=Ab (show X=⟨(1,0,[]),n+1,d⟩ by rw[Aa ba,Oe,Aa bc,if_pos J]);have al:=Ab<|show Abl w0 B a A (Y ap ab cp) (Y (Q<|jA ai aj U) O ci) (Y a1 n1 c1) (Y a2 n2 c2) s R S X (Y U 0 0) w (jh (Z w)+1) (jh<|Z w) (jR<|jJ (jJ af ⟨jh (Z w)+1,3,U⟩<|V jd<|(n:Int)+1) ⟨jh (Z w)+1,4,U⟩<|V jd<|if d<T st then (T st:Int)else (d:Int))from⟨n+1,d,1,0,at',[],y,C,_,Ab ⟨Ob,Aa aX⟩,Fi g z,Vi (CF L<|Aa bw) λq hq e=>Ac m L Ob O9,by have:=PO (l:=T st) m;rw[Nat.max_eq_left (Aa ae).2.2.2.2]at this;exact this,Fi W Oa,KY N<|Aa a9,PQ (((Aa a6).trans (AN.aH (S:=λ_=>False) t) λ_ _ h=>h.elim).trans f<|Aa a8) Oa⟩;have ao:=Ab<|ZH (M:=T I) (Fi (u:= V jd ((n:Int)+1)) (v:= V jd (if d<T st then (T st:Int)else (d:Int))) g z) Ob;clear g L f m W D aa N;go_wp2_with fail
     go_region
     go_wp2
     go_roundw
     case rel=>(try simp only[Is]);exact⟨trivial,.inr<|Aa al⟩
     case measure=>(try simp only[Is]);rw[Aa ao,Aa a5];have:=Aa bb;omega
    .obtain rfl:=PN ak;have aV:T us<=d:=by have:=(Aa ae).2.2.2.2;rw[bz,zC]at this;omega
     have cl:FZ st= .set ss:=by rw[bz];simp[FZ]
     have cW:=Ab cl;have cX:=Ab aV;clear cl bz aV;obtain⟨at',y,C,g,L,f⟩:=hF;have m:=(((Aa bd).aA t NLN).bP f (Aa H).1)
     have W:=(((Aa bf).aA t NLN).bP f (Aa H).2)
     obtain⟨aP,aQ,aR,aT,aU⟩:=hB m;have bA:=λj=>m.frozen j;obtain⟨g0,g1,g2,g3,az,aB,aD,g7,aE,aG,aI,aJ,aL,aM,aN⟩:=Ir g;have D:=m.set 3<|V jd<|(n:Int)+1;obtain⟨bB,bC,bD,bF,bG⟩:=hB D;have bH:=λj=>D.frozen j;have z:a≠jh (Z w)+1:=λe=>(Aa H).1<|.inl e.symm;have aa:=g.aF (p:=⟨jh (Z w)+1,3,U⟩) z<|V jd<|(n:Int)+1;obtain⟨bI,bJ,bK,bL,bM,bN,bO,bQ,bR,bS,bT,bU,bV,bW,bX⟩:=Ir aa;have N:=Gz (F.trans<|t.mono F.size) f<|Aa a7;have aX:=Ab (show X=⟨(2,0,ss),n+1,d⟩ by rw[Aa ba,Oe,Aa bc,if_neg Oa,if_pos J,Aa cW]);have al:=Ab<|show Abl w0 B a A (Y ap ab cp) (Y (Q<|jA ai aj U) O ci) (Y a1 n1 c1) (Y a2 n2 c2) s R S X (Y U 0 0) w (jh (Z w)+1) (jh<|Z w) (jR<|jJ (jJ af ⟨jh (Z w)+1,3,U⟩<|V jd<|(n:Int)+1) ⟨jh (Z w)+1,4,U⟩<|V jd<|if d<T us then (T us:Int)else (d:Int))from⟨n+1,d,2,0,at',ss,y,C,_,Ab ⟨Ob,Aa aX⟩,Fi g z,Vi (CF L<|Aa bw) λq hq e=>Ac m L Ob O9,by have:=PO (l:=T us) m;rw[Nat.max_eq_left<|Aa cX]at this;exact this,Fi W Oa,KY N<|Aa a9,PQ (((Aa a6).trans (AN.aH (S:=λ_=>False) t) λ_ _ h=>h.elim).trans f<|Aa a8) Oa⟩;have ao:=Ab<|ZH (M:=T I) (Fi (u:= V jd ((n:Int)+1)) (v:= V jd (if d<T us then (T us:Int)else (d:Int))) g z) Ob;clear g L f m W D aa N;go_wp2_with fail
     go_region
     go_wp2
     go_roundw
     case rel=>(try simp only[Is]);exact⟨trivial,.inr<|Aa al⟩
     case measure=>(try simp only[Is]);rw[Aa ao,Aa a5];have:=Aa bb;omega
    .obtain rfl:=PN ak;obtain⟨cY,he⟩:=Gv (aS:=aS) (aO:=aO) (aZ:=aZ) (aW:=aW) hc;have du:=Ab he;rw[he];have g:=ar.row;have m:=(((Aa bd).aA t NLN).bP f (Aa H).1)
     have W:=(((Aa bf).aA t NLN).bP f (Aa H).2)
     have N:=Gz (F.trans<|t.mono F.size) f<|Aa a7;have cZ:=Ab<|(Aa G).env.sent.below N NLN;obtain⟨g0,g1,g2,g3,az,aB,aD,g7,aE,aG,aI,aJ,aL,aM,aN⟩:=Ir g;have c0:=Ab (show Calls jZ 52 #[.iface 273<|jP<|Q cY] af λe w'=>e=jN (V jd c)/\w'=af by
      have:=UW c af (Aa cZ) Oa;rw[he]at this;exact this)
     have z:a≠jh (Z w)+1:=λe=>(Aa H).1<|.inl e.symm;have bY:jh (Z w)≠a:=λe=>(Aa H).2<|.inl e;have bZ:=g.set 12<|V jd 3;have b0:=bZ.set 13<|V jd c;have bg:Ag (jJ (jJ (jJ af (jA a 12 U)<|V jd 3) (jA a 13 U)<|V jd c) (jA a 14 U)<|Y U 0 0) a (No (Y ap ab cp) s (Y (Q<|jA ai aj U) O ci) R (Y a1 n1 c1) (Y a2 n2 c2) (Y a3 (T us) sc) (Y (Q<|jA A 0 U) S S) ((at_:Int)+1) 3 c<|Y U 0 0) 59:=b0.set 14<|Y U 0 0;have c3:=λj=>g.frozen j;have c4:=λj=>bZ.frozen j;have c5:=λj=>b0.frozen j;have a0:=((m.aF (p:=(jA a 12 U)) (λe=>z e.symm)<|V jd 3).aF (p:=(jA a 13 U)) (λe=>z e.symm)<|V jd c).aF (p:=(jA a 14 U)) (λe=>z e.symm)<|Y U 0 0;have cm:=((W.aF (p:=(jA a 12 U)) bY<|V jd 3).aF (p:=(jA a 13 U)) bY<|V jd c).aF (p:=(jA a 14 U)) bY<|Y U 0 0;obtain⟨aP,aQ,aR,aT,aU⟩:=hB a0;have bA:=λj=>a0.frozen j;have D:=a0.set 3<|V jd<|(n:Int)+1;obtain⟨bB,bC,bD,bF,bG⟩:=hB D;have bH:=λj=>D.frozen j;have aa:=bg.aF (p:=⟨jh (Z w)+1,3,U⟩) z<|V jd<|(n:Int)+1;obtain⟨bI,bJ,bK,bL,bM,bN,bO,bQ,bR,bS,bT,bU,bV,bW,bX⟩:=Ir aa;have cn:T us<=d:=zB aV (Aa ae).2.2.2.2;have co:=((N.setCell (p:=(jA a 12 U)) (Aa bx)<|V jd 3).setCell (p:=(jA a 13 U)) (Aa bx)<|V jd c).setCell (p:=(jA a 14 U)) (Aa bx)<|Y U 0 0;have cq:=(((((Aa a6).trans (AN.aH (S:=λ_=>False) t) λ_ _ h=>h.elim).trans f<|Aa a8).setCell (p:=(jA a 12 U)) (λ_=> .inl rfl)<|V jd 3).setCell (p:=(jA a 13 U)) (λ_=> .inl rfl)<|V jd c).setCell (p:=(jA a 14 U)) (λ_=> .inl rfl)<|Y U 0 0;have aX:=Ab (show X=⟨(3,c,[]),n+1,d⟩ by rw[Aa ba,Oe,Aa bc,if_neg J.1,if_neg J.2,aq]);have al:=Ab<|show Abl w0 B a A (Y ap ab cp) (Y (Q<|jA ai aj U) O ci) (Y a1 n1 c1) (Y a2 n2 c2) s R S X (Y U 0 0) w (jh (Z w)+1) (jh<|Z w) (jR<|jJ (jJ (jJ (jJ (jJ af (jA a 12 U)<|V jd 3) (jA a 13 U)<|V jd c) (jA a 14 U)<|Y U 0 0) ⟨jh (Z w)+1,3,U⟩<|V jd<|(n:Int)+1) ⟨jh (Z w)+1,4,U⟩<|V jd<|if d<T us then (T us:Int)else (d:Int))from⟨n+1,d,3,c,(at_:Int)+1,[],U,0,_,Ab ⟨Ob,Aa aX⟩,Fi bg z,World.ownsRow_nil _ _ _ _,by have:=PO (l:=T us) a0;rw[Nat.max_eq_left cn]at this;exact this,Fi cm Oa,KY co<|Aa a9,PQ cq Oa⟩;have ao:=Ab<|ZH (M:=T I) (Fi (u:= V jd ((n:Int)+1)) (v:= V jd (if d<T us then (T us:Int)else (d:Int))) bg z) Ob;clear he ar g f m W bZ b0 bg a0 cm D aa N co cq aV cn aq J;go_wp2_with fail
     refine(Aa c0).mono ?_;rintro r dv ⟨rfl,rfl⟩;dsimp only;go_wp2_with fail
     go_region
     go_wp2
     go_roundw
     case rel=>(try simp only[Is]);exact⟨trivial,.inr<|Aa al⟩
     case measure=>(try simp only[Is]);rw[Aa ao,Aa a5];have:=Aa bb;omega
    .obtain rfl:=PN ak;obtain⟨c6,c7,c8,c9,ar,f,cr⟩:=cV;have g:=ar.row;have m:=(((Aa bd).aA t NLN).bP f (Aa H).1)
     have W:=(((Aa bf).aA t NLN).bP f (Aa H).2)
     obtain⟨aP,aQ,aR,aT,aU⟩:=hB m;have bA:=λj=>m.frozen j;obtain⟨g0,g1,g2,g3,az,aB,aD,g7,aE,aG,aI,aJ,aL,aM,aN⟩:=Ir g;have D:=m.set 3<|V jd<|(n:Int)+1;obtain⟨bB,bC,bD,bF,bG⟩:=hB D;have bH:=λj=>D.frozen j;have z:a≠jh (Z w)+1:=λe=>(Aa H).1<|.inl e.symm;have aa:=g.aF (p:=⟨jh (Z w)+1,3,U⟩) z<|V jd<|(n:Int)+1;obtain⟨bI,bJ,bK,bL,bM,bN,bO,bQ,bR,bS,bT,bU,bV,bW,bX⟩:=Ir aa;have N:=Gz (F.trans<|t.mono F.size) f<|Aa a7;obtain⟨b1,b2⟩:=XL (λx hx=>((Aa G).env.vals x hx).1) (Aa cG) (Aa ae).1 (Aa ae).2.2.1 (Aa cM) J.1 J.2 _ _ _ aq;obtain⟨cs,ct⟩:=Aa cL _ b2;have cu:=Abi (Aa ae).1 _ b2;have b3:=JK (Aa ae).1;have cv:=(It (PK:=P.map Vl.aC) (S:=S) (M:=T I) (at_:=at_) (i:=i) (s:=br)).trans (Aa ae).2.2.1;have cw:T st'<=100:=by rw[<-b1.1,zN]at b3;exact b3
     have al:=Ab<|show Afx w0 B a A (Y ap ab cp) (Y (Q<|jA ai aj U) O ci) (Y a1 n1 c1) (Y a2 n2 c2) s R S P I K X (Y U 0 0) w (jh (Z w)+1) (jh<|Z w) (jR<|jJ (jJ af ⟨jh (Z w)+1,3,U⟩<|V jd<|(n:Int)+1) ⟨jh (Z w)+1,4,U⟩<|V jd<|if d<T st' then (T st':Int)else (d:Int))from⟨cT,st',cU,n+1,max d<|T st',_,c6,c7,c8,c9,Ab ⟨⟨ct,b1,cv,cs⟩,⟨H2<|Aa cO,Nat.max_le.2 ⟨cN,cw⟩,Nat.le_max_right _ _⟩,f2,H2<|Aa cK,by rw[Aa ba,Oe,Aa bc,if_neg J.1,if_neg J.2,aq]⟩,AhX ar m,PO m,Fi W Oa,KY N<|Aa a9,PQ (((Aa a6).trans (AN.aH (S:=λ_=>False) t) λ_ _ h=>h.elim).trans f<|Aa a8) Oa,λq hq=>((cr q hq).elim (λh=>(Aa cF q h)) λh=> .inr (zB (Aa bw) h))⟩;have ao:=Ab<|Afy (M:=T I)<|Fi (u:= V jd ((n:Int)+1)) (v:= V jd (if d<T st' then (T st':Int)else (d:Int))) g z;have da:=Ab cu;clear ar g f cr m W D aa N b1 b2 cs ct cu b3 cv cw aq J;go_wp2_with fail
     go_region
     go_wp2
     go_roundw
     case rel=>(try simp only[Is]);exact⟨trivial,.inl<|Aa al⟩
     case measure=>(try simp only[Is]);rw[Aa ao,Aa a5];have:=Aa bb;have:=Aa da;omega
  .obtain⟨n,d,ac,ad,at',ss,y,C,dw,ax,g,L,RT,ag,F,ay⟩:=hF;obtain⟨g0,g1,g2,g3,az,aB,aD,g7,aE,aG,aI,aJ,aL,aM,aN⟩:=Ir g;have dx:(ac==0)=jE:=by simp[(Aa ax).1]
   obtain⟨aP,aQ,aR,aT,aU⟩:=hB RT;have b4:=RT.set 0<|V jd ac;have b5:=b4.set 1<|V jd ad;have cy:=b5.set 2<|Y y (T ss) C;have dy:=λj=>RT.frozen j;have f1:=λj=>b4.frozen j;have f2:=λj=>b5.frozen j;obtain⟨dz,cP,br,dA,dB⟩:=hB cy;have bh:=((ag.aF (p:=⟨jh (Z w)+1,0,U⟩) (Oa:jh (Z w)≠jh (Z w)+1)<|V jd ac).aF (p:=⟨jh (Z w)+1,1,U⟩) (Oa:jh (Z w)≠jh (Z w)+1)<|V jd ad).aF (p:=⟨jh (Z w)+1,2,U⟩) (Oa:jh (Z w)≠jh (Z w)+1)<|Y y (T ss) C;obtain⟨u0,u1,u2,u3,u4⟩:=hB bh;have b6:=bh.set 0<|V jd ac;have b7:=b6.set 1<|V jd ad;have b8:=b7.set 2<|Y y (T ss) C;have b9:=b8.set 3<|V jd n;have cz:=b9.set 4<|V jd d;have c3:=λj=>bh.frozen j;have c4:=λj=>b6.frozen j;have c5:=λj=>b7.frozen j;have dC:=λj=>b8.frozen j;have dD:=λj=>b9.frozen j;obtain⟨db,dc,dd,de,df⟩:=hB cz;have bi:∀q,jL (Value.slice y (T ss) C)=Q q->q≠jh (Z w)+1:=λq hq e=>Ac RT L Ob O9;have au:∀q,jL (Value.slice y (T ss) C)=Q q->q≠jh (Z w):=λq hq e=>Ac ag L Ob O9;have dg:=Ab<|Ah (Ah (Ah (Ah (Ah (Ah (Ah (Ah L ⟨jh (Z w)+1,0,U⟩ (V jd ac) bi) ⟨jh (Z w)+1,1,U⟩ (V jd ad) bi) ⟨jh (Z w)+1,2,U⟩ (Y y (T ss) C) bi) ⟨jh<|Z w,0,U⟩ (V jd ac) au) ⟨jh<|Z w,1,U⟩ (V jd ad) au) ⟨jh<|Z w,2,U⟩ (Y y (T ss) C) au) ⟨jh<|Z w,3,U⟩ (V jd n) au) ⟨jh<|Z w,4,U⟩ (V jd d) au;have f:AN (λk=>k=a\/k=A) w wr:=(AN.refl _ w).trans ay λq _ h=>h.elim .inl λh=>h.elim .inr λh=>Qy;have dh:=Ab<|AN.setCell (AN.setCell (AN.setCell (AN.setCell (AN.setCell (AN.setCell (AN.setCell (AN.setCell f (p:=⟨jh (Z w)+1,0,U⟩) (λh=>absurd h (Oa:¬ (jh (Z w)+1<jh (Z w))))<|V jd ac) (p:=⟨jh (Z w)+1,1,U⟩) (λh=>absurd h (Oa:¬ (jh (Z w)+1<jh (Z w))))<|V jd ad) (p:=⟨jh (Z w)+1,2,U⟩) (λh=>absurd h (Oa:¬ (jh (Z w)+1<jh (Z w))))<|Y y (T ss) C) (p:=⟨jh<|Z w,0,U⟩) (λh=>absurd h D0)<|V jd ac) (p:=⟨jh<|Z w,1,U⟩) (λh=>absurd h D0)<|V jd ad) (p:=⟨jh<|Z w,2,U⟩) (λh=>absurd h D0)<|Y y (T ss) C) (p:=⟨jh<|Z w,3,U⟩) (λh=>absurd h D0)<|V jd n) (p:=⟨jh<|Z w,4,U⟩) (λh=>absurd h D0)<|V jd d;have di:=Ab (Aa ax).2;clear b4 b5 cy bh b6 b7 b8 b9 cz RT ag g bi au f ay F L;go_wp2
   exact bodyPost_ret (v:= jM #[V jd ac,V jd ad,Y y (T ss) C,V jd n,V jd d]) (by simp[results,results21,go_sem,db,dc,dd,de,df]) rfl ⟨(ac,ad,ss),n,d,y,C,Aa di,rfl,Aa dg,Aa dh⟩
end
end Go.Proofs.YtnjpihpohilnjaaGreatDoor
