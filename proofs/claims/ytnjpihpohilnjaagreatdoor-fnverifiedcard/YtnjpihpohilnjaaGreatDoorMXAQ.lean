import Derived.Test.YtnjpihpohilnjaaGreatDoorMXAV
import Derived.Deep.CutBlock
import Derived.Test.YtnjpihpohilnjaaGreatDoorMXAW
open List renaming length->T
open Option renaming none->U,some->Q,some->jg
open Array renaming size->R,size->jh
open Go renaming World->jB,Value->jF,Addr->jG
open Bool renaming false->jE
namespace Go.Proofs.YtnjpihpohilnjaaGreatDoor
open Proofs.Tryz
open Value renaming int->V,int->jc,slice->Y,string->jC,agg->jM,tuple->jQ
open IntKind renaming i64->X,i64->jd
open World renaming heap->Z,cell?->jI,setCell->jJ,alloc->jK,drew->jR,frozen?->jY
open Addr renaming mk->jA
open Obj renaming cells->jH
open Proofs.Tryz renaming prog->jZ
open Go.RowKit
set_option linter.unusedVariables false
set_option maxRecDepth 100000
set_option maxHeartbeats 12800000
variable{ops:Array Oper}{k l:K5}{L:M9}{r:M6}{rest:List Oper}{b a c:Nat}{o:Oper}{y:L3}{v:jF}{w w0:jB}
theorem Ot {a:Type}(l:List a)(t:Nat)(h:t<T l)(f:a->a):l.modify t f=l.set t (f l[t]):=by
 apply List.ext_getElem
 all_goals grind
theorem Ady {R:Nat}{a:L3}{n:Nat}{zs:L2}{p:Nat}(a5:JU w R a n c zs p){P:M1}{s:Int}{I:M2}{x y:L3}{cx aw lo:Nat}{J:L7}(bB:Th w lo (Y x (T P) cx) P J)(bC:World.ownsRow w lo 80 2 (Y y (T I) aw) (T I)<|Cr I)(F:T P<=100000)(a6:T I<100000):
  Calls jZ 33 #[.pointer<|Q<|jA R 0 U,jM #[Y x (T P) cx,jc jd s,Y y (T I) aw]] w λr w'=>Adx 100000 (λo G I'=>(o,G,I')=JZ zs p P s I) w r w'/\AU R (R+1) w w':=by
 obtain⟨bD,bE,bF,bG,bI⟩:=info_parts Ml;obtain⟨b5,b6,b7,b8,b9⟩:=info_parts UB;go_enter func33,ntmps33
 go_upto_region 2 with fail
 refine Mm (P:=Code.wp _ _ _ _) λax ay az a7 L=>?_;have N:=bB.aM (w':=ax) λq cb t r _=>ay.block q r.lt;have aD:=Aj bC ay NLN;have cV:jh (Z w)+1+1<jh (Z ax):=L.lt;obtain⟨a8,a9,ba⟩:=At az;obtain⟨bb,d1,d2⟩:=At L;clear bB bC;go_wp2_with (at_builtin;refine Ou rfl _ _ 23 rfl 77 b5 (jM #[jc jd 0,jc jd 0,jC ByteArray.empty,Y U 0 0]) 4 56 underlying23 b6 b7 b8 b9 rfl Ob lo (T P) cx x (JX P J) rfl rfl N.aN N.bH O2 Oa ?_)
 intro pv cc aE b1;obtain⟨xp,cp,rfl,-⟩:=Ae aE;have fe:=(L.aA b1 NLN).frozen;have g0:=(L.aA b1 NLN).cell 0;clear bb d1 d2 a8 a9 ba;go_upto_region 3 with fail
 obtain⟨H,ai⟩:∃H,H=jJ cc ⟨jh (Z w)+1+1,0,U⟩ (Y xp (T P) cp):=⟨_,rfl⟩
 rw[<-ai];have K2:AN (λq=>q=jh (Z w)+1+1) ax H:=by rw[ai];exact AN.setCell (S:=λq=>q=jh (Z w)+1+1) (AN.aH b1) (p:=⟨jh (Z w)+1+1,0,U⟩) (λ_=>rfl) _
 have ae:Ag H (jh (Z w)+1+1) #[Y xp (T P) cp,jc jd s,Y U 0 0] 26:=by rw[ai];exact(L.aA b1 NLN).set 0 _
 have bJ:Th H (jh (Z w)+2) (Y xp (T P) cp) P J:=⟨N.len,by
  rw[ai];exact Ah (Az aE Oa) ⟨jh (Z w)+1+1,0,U⟩ _ λq hq=>by have:=(aE.lt q hq).1;show q≠jh (Z w)+1+1;omega,λj h3 aj=>Ad (N.aB j h3 aj) λq hq=>K2.block q ((N.aB j h3 aj).lt q hq).2 λe=>Ac L (N.aB j h3 aj) Ob Hb,N.ok⟩
 have aG:Ai w H:=ay.trans ⟨K2.os,K2.tape,K2.output,K2.size,λq hq=>K2.block q Oa Oa⟩;have bK:=Ad aD (w':=H) λq hq=>K2.block q (aD.lt q hq).2 λe=>Ac L aD Ob Hb;have bL:Ag H (jh<|Z w) #[Y x (T P) cx,jc jd s,Y y (T I) aw] 26:=⟨(K2.block _ az.lt Oa).trans az.out⟩
 have bc:Ag H (jh (Z w)+1) #[Y U 0 0,jc jd 0,Y U 0 0] 26:=⟨(K2.block _ a7.lt Oa).trans a7.out⟩
 have s2:jh (Z ax)<=jh (Z H):=K2.size;clear ai K2 az a7 L N aD ay b1 aE fe g0;obtain⟨a8,a9,ba⟩:=At bL;obtain⟨bb,d1,d2⟩:=At ae;go_wp2_with (at_builtin;refine Ou rfl _ _ 24 rfl 80 bD (jM #[jc jd 0,jc jd 0]) 2 16 underlying24 bE bF bG bI rfl Ob lo (T I) aw y (Cr I) rfl rfl bK (Adz I) O2 Oa ?_)
 intro iv aJ aL b3;obtain⟨xi,ci,rfl,bM⟩:=Ae aL;have fe:=(ae.aA b3 NLN).frozen;have g0:=(ae.aA b3 NLN).cell 2;clear bb d1 d2 a8 a9 ba;go_upto_region 4 with fail
 have bd:L5 w (jJ aJ ⟨jh (Z w)+1+1,2,U⟩<|Y xi (T I) ci) R (R+1) (jh (Z w)+2) (jh (Z w)+1) (jh (Z w)+1+1) s P I (Y xp (T P) cp) (Y xi (T I) ci) J:=by
  have O:AN (λq=>q=jh (Z w)+1+1) H<|jJ aJ ⟨jh (Z w)+1+1,2,U⟩<|Y xi (T I) ci:=AN.setCell (S:=λq=>q=jh (Z w)+1+1) (AN.aH b3) (p:=⟨jh (Z w)+1+1,2,U⟩) (λ_=>rfl) _;refine⟨(ae.aA b3 NLN).set 2 _,bJ.aM λq cb t r ht=>O.block q r.lt λe=>Bm r ae (by obtain rfl|rfl:=ht<;>decide) e,Ah (Az aL Oa) ⟨jh (Z w)+1+1,2,U⟩ _ (λq hq=>by have:=(aL.lt q hq).1;show q≠jh (Z w)+1+1;omega),⟨(O.block _ bc.lt Oa).trans bc.out⟩,AU.aH (aG.trans ⟨O.os,O.tape,O.output,O.size,λq hq=>O.block q Oa Oa⟩) NLN,⟨Oa,Oa,Oa,Oa,?_⟩⟩;have:=O.size;omega
 have aO:JU (jJ aJ ⟨jh (Z w)+1+1,2,U⟩<|Y xi (T I) ci) R a n c zs p:=a5.aA (B:=jh<|Z w) (by obtain⟨F,a6,h3,aj,h5⟩:=aG.trans<|b3.mono aG.size;exact(Below.setCell ⟨F,a6,h3,aj,h5⟩ (p:=⟨jh (Z w)+1+1,2,U⟩) (Oa:jh (Z w)<=jh (Z w)+1+1) _)) a5.lt;generalize jJ aJ ⟨jh (Z w)+1+1,2,U⟩ (Y xi (T I) ci)=cd at bd aO|-;clear ae bJ aG bK bL bc b3 aL fe g0 a5;go_wp2_with fail
 refine(BN R a n c zs p cd aO).mono ?_;rintro r ce ⟨v,cf,rfl,bf,cW,cX,bg,bN⟩;go_wp2_with fail
 refine(BN R a n c zs cf ce bg).mono ?_;rintro r aP ⟨aQ,cY,rfl,bO,cZ,c3,cg,bP⟩;have C:=(bd.aR aO.row bN).aR bg.row bP;clear bd bN bP aO bg cg;obtain⟨aS,aT,aU⟩:=At C.out;have f2:=C.out.frozen;by_cases ak:T I=0
 .have f:=Ab C;obtain⟨c0,c1,c2⟩:=At C.row;have bh:=Ab (show(P,s,I)=JZ zs p P s I by rw[JZ];simp only[ak,if_true]);have bQ:((T I:Int)==0)=true:=zD.2 Oa;clear C ak;go_wp2_with fail
  obtain⟨⟨ab,ac,ad⟩,a1,a2⟩:=(Aa f).cG (M:=100000) (X:=λo G I'=>(o,G,I')=JZ zs p P s I) (Aa bh) F Oa rfl;exact G2 (v:= jM #[Y xp (T P) cp,jc jd s,Y xi (T I) ci]) (by simp[results,results33,go_sem,ab,ac,ad]) rfl ⟨a1,a2⟩
 obtain⟨g,rfl,-⟩:=bM Oa;have ch:(0 :Int)<(T I:Int):=Oa;have c4:((T I:Int)==0)=jE:=zA.2 Oa;have c5: ¬ (T I=0):=ak;obtain⟨t,ht⟩:∃t:Nat,aQ*3 % (T I:Int)=(t:Int):=⟨(aQ*3 % (T I:Int)).toNat,(Int.toNat_of_nonneg<|Int.emod_nonneg _ Oa).symm⟩
 have D:t<T I:=H2<|Int.emod_lt_of_pos (aQ*3) ch;have c6:(t:Int)<(T I:Int):=Oa;have cj:=Ab (show((nx zs (nx zs p).2).1*3).toNat % I.length=t by
  rw[Aa bf];dsimp only;rw[Aa bO];dsimp only;have e:=Int.toNat_emod (x:=aQ*3) (y:=(T I:Int)) Oa Oa;rw[ht,zS,zS]at e;exact e.symm)
 have bR:=Ab (show(nx zs p).1=v by rw[Aa bf]);obtain⟨c0,c1,c2⟩:=At C.row;have ca:=Jn I t D;have ck:jI aP ⟨g,t*2,U⟩=Q (jc jd I[t].op):=by rw[<-ca.1];exact C.aK.cellAt (g:=g) (n:=T I) (t*2) Oa
 have q1:jI aP ⟨g,t*2+1,U⟩=Q (jc jd I[t].aY):=by rw[<-ca.2];exact C.aK.cellAt (g:=g) (n:=T I) (t*2+1) Oa
 have bS:=Ab ak;clear ca bf bO bM ak;go_upto_region 10 with fail
 refine Gd (P:=Code.wp _ _ _ _) λk bi m=>?_;have cl:=C.aK.lt g rfl;have cm:jh (Z w)+1+1<jh (Z aP):=C.row.lt;obtain⟨l,bj⟩:∃l,l=jh (Z aP):=⟨_,rfl⟩
 rw[<-bj]at m cl cm|-;have b:=C.below bi;have aV:=Ab C;have aW:=Ab bi;have aX:=Ab bj;clear bj c0 c1 c2 ck q1 aS aT aU f2 C bi;rw[ht];clear ht;have af:g≠l:=Oa
 have bT:l≠jh (Z w)+1+1:=Oa;obtain⟨c0,c1,c2⟩:=At b.row;have f1:=b.row.frozen;have bQ:=m.cell 0;have co:=m.cell 1;have cq:=m.frozen;obtain⟨aS,aT,aU⟩:=At b.out;have f2:=b.out.frozen;by_cases al:v % 12=7
 .obtain⟨z,bk⟩:∃z,z=T I-1:=⟨_,rfl⟩
  have bh:=Ab (show(P,s,I.take z)=JZ zs p P s I by rw[JZ,Aa bR,H7<|Aa bS,H8 al,bk]);have c7:IntKind.i64.wrap ((T I:Int)-1)=(z:Int):=by rw[(Oa:(T I:Int)-1=(z:Int))];simp[IntKind.wrap,IntKind.bits,IntKind.signed];omega
  have cr:T I<=ci:=by
   obtain⟨q,h0⟩|⟨E,cap,c8,q,F,a6,h3,_⟩:=b.aK.2
   .cases q
   .cases q;exact h3
  have c9: ¬ (ci=0):=Oa;have da:(z:Int)<=(ci:Int):=Oa;have db:(0 :Int)<=(z:Int):=Oa;have bU:=Ab bk;have f:=Ab<|b.cut z Oa;clear bk b cr;go_wp2_with fail
  have bl:T (I.take z)=z:=by rw[zg];have:=Aa bU;omega
  have aZ:L5 w (jJ k ⟨jh (Z w)+1+1,2,U⟩<|Y (Q<|jA g 0 U) z ci) R (R+1) (jh (Z w)+2) (jh (Z w)+1) (jh (Z w)+1+1) s P (I.take z) (Y xp (T P) cp) (Y (Q<|jA g 0 U) (T<|I.take z) ci) J:=by rw[bl];exact Aa f
  obtain⟨⟨ab,ac,ad⟩,a1,a2⟩:=aZ.cG (M:=100000) (X:=λo G I'=>(o,G,I')=JZ zs p P s I) (Aa bh) F (by rw[bl];have:=Aa bU;omega) rfl;rw[bl]at ab ac ad a1 a2;exact G2 (v:= jM #[Y xp (T P) cp,jc jd s,Y (Q<|jA g 0 U) z ci]) (by simp[results,results33,go_sem,ab,ac,ad]) rfl ⟨a1,a2⟩
 have W:=Ab (show JZ zs p P s I=((if v % 12=8/\0<T P then P.modify (t % P.length) λx=>⟨wrap64<|1+x.aC.tmod 5,x.num,x.text,x.aB⟩else P),(if v % 12=5 then v / 12-1 else s),(I.set t<|UF v t (T I) I[t])++(if v % 12=6 then [⟨24,0⟩]else [])) by
  rw[JZ,Aa bR,H7<|Aa bS,H7 al,Aa cj,Ot I t D])
 have ag:=Ab b;go_upto_block 0 with fail
 go_cut [46] (λ_ bV=>∃ (o:M1) (G:Int) (I':M2) (bm:L3) (bn E bo:Nat) (ao ap:Int),Hid (L5 w bV R (R+1) (jh (Z w)+2) (jh (Z w)+1) (jh (Z w)+1+1) G o I' (Y bm (T o) bn) (Y (Q<|jA E 0 U) (T I') bo) J)/\Ag bV l #[jc jd ao,jc jd ap] 80/\t<T I'/\T I'<=100000/\T o<=100000/\E≠l/\Hid ((o,G,I'.set t ⟨ao,ap⟩)=JZ zs p P s I))
 case first=>
  rcases(Oa:v % 12=0\/v % 12=1\/v % 12=2\/v % 12=3\/v % 12=4\/v % 12=5\/v % 12=9\/v % 12=10\/v % 12=11\/v % 12=6\/v % 12=8)with hv|hv|hv|hv|hv|hv|hv|hv|hv|hv|hv
  iterate 9
   .have aa:=Ab hv;go_wp2
    go_meet
    first
    |exact⟨P,s,I,xp,cp,g,ci,_,_,Ab<|(Aa aV).below<|(Aa aW).setCell (p:=(jA l 0 U)) (zt (Aa aX).symm) _,m.set 0 _,D,Oa,F,af,Ab<|by rw[Aa W];simp[Aa aa,UF]⟩
    |exact⟨P,s,I,xp,cp,g,ci,_,_,Ab<|(Aa aV).below<|(Aa aW).setCell (p:=(jA l 1 U)) (zt (Aa aX).symm) _,m.set 1 _,D,Oa,F,af,Ab<|by rw[Aa W];simp[Aa aa,UF]⟩
    |exact⟨P,s,I,xp,cp,g,ci,_,_,Ab<|(Aa aV).below<|((Aa aW).setCell (p:=(jA l 0 U)) (zt (Aa aX).symm) _).setCell (p:=(jA l 1 U)) (zt (Aa aX).symm) _,(m.set 0 _).set 1 _,D,Oa,F,af,Ab<|by rw[Aa W];simp[Aa aa,UF]⟩
    |exact⟨P,_,I,xp,cp,g,ci,_,_,Ab<|(Aa ag).slot _,m.aF (p:=⟨jh (Z w)+1+1,1,U⟩) bT _,D,Oa,F,af,Ab<|by rw[Aa W];simp[Aa aa,UF];exact List.set_getElem_self D⟩
  .have h:=b;have dc:l<jh (Z k):=m.lt;have dd:=h.lo.2.2.2.2;have aa:=Ab hv;go_wp2_with (at_builtin;refine G6 _ rfl _ _ 24 rfl (jh (Z w)+2) 80 bD (jM #[jc jd 0,jc jd 0]) 2 16 underlying24 bE bF bG bI rfl Ob (Y (Q<|jA g 0 U) (T I) ci) (T I) (Cr I) rfl (G1 h.aK _) ⟨jh<|Z k,0,U⟩ 1 1 [jc jd 24,jc jd 0] rfl rfl (G4<|G8 k<|jH #[jc jd 24,jc jd 0] 80) ?c1 Ob ?d1 ?e1 ?f1 (jh (Z k)+1) Ox ?_)
   case c1=>first|exact⟨rfl,rfl⟩|(intro u hu;simp at hu;obtain rfl|rfl:=hu<;>rfl)
   case d1=>unfold maxLen;omega
   case e1=>omega
   case f1=>first|omega|(simp;omega)
   intro g7 cs de bW bp hat ct;obtain⟨al,K,cu⟩:=h.app 24 0 bp bW;have aq:=Ck (m.alloc<|jH #[jc jd 24,jc jd 0] 80) bp (λe=>by have e:Q l=Q g:=e;simp at e;omega);have bX:=λj=>K.frozen j;have df:=K.cell 2;have cv:=Ab al;have cw:=Ab aq;have cy:g7≠l:=by
    obtain e|e:=hat
    .have e:Q g=Q g7:=e;simp at e;omega
    .omega
   clear bW bp hat ct al K cu h aq;go_wp2
   go_meet
   refine⟨P,s,I++[⟨24,0⟩],xp,cp,g7,cs,_,_,Ab ?_,(Aa cw).aF (p:=⟨jh (Z w)+1+1,2,U⟩) bT _,O0,O0,F,cy,Ab ?_⟩
   .rw[zC,z1];exact Aa cv
   .rw[Aa W,List.set_append_left _ _ D];simp[Aa aa,UF];exact List.set_getElem_self D
  .by_cases bY:T P=0
   .have cz: ¬ ((0 :Int)<(T P:Int)):=Oa;have cA:=Ab bY;clear bY;go_wp2
    go_meet
    exact⟨P,s,I,xp,cp,g,ci,_,_,ag,m,D,Oa,F,af,Ab<|by rw[Aa W];simp[Aa<|Ab hv,Aa cA,UF];exact List.set_getElem_self D⟩
   .have cz:(0 :Int)<(T P:Int):=Oa;obtain⟨j,cB⟩:∃j:Nat,(t:Int) % (T P:Int)=(j:Int):=⟨t % P.length,Oa⟩
    have br:t % P.length=j:=Oa;have ah:j<T P:=by rw[<-br];exact Nat.mod_lt _ Oa
    have dg:(j:Int)<(T P:Int):=Oa;have bs:j<T J:=by rw[b.aI.len];exact ah
    obtain⟨d,cC⟩:∃d,xp=Q (jA d 0 U):=by
     obtain⟨dh,c',e,hx⟩:=Ae b.aI.aN;cases e;obtain⟨d,e,_⟩:=hx Oa;exact⟨d,e⟩
    subst cC;obtain⟨bt,bu,bv,bw⟩:=UD P J j ah bs;have A:∀i,i<4->jI k ⟨d,j*4+i,U⟩=(JX P J)[j*4+i]? :=λi hi=>b.aI.aN.cellAt (g:=d) (n:=T P) (j*4+i) Oa;have e0:=(A 0 Oa).trans bt;have e1:=(A 1 Oa).trans bu;have e2:=(A 2 Oa).trans bv;have e3:=(A 3 Oa).trans bw;rw[zX]at e0;obtain⟨an,cn,hu⟩:=AA<|b.aI.aB j ah bs;rw[hu]at e3;have di:(t:Int).tmod (T P:Int)=(j:Int):=by rw[Int.tmod_eq_emod_of_nonneg Oa];exact cB
    have cD:jh (Z w)+1+1<jh (Z k):=b.row.lt;have cE:d<jh (Z k):=(b.aI.aN.lt d rfl).2;have aa:=Ab hv;have cF:=Ab br;have ar:=Ab<|K6 bt<|K6 bu<|K6 bv bw;clear A bt bu bv bw br;go_wp2_with fail
    go_region
    have au:Ai k<|jR<|jK k<|jH #[jc jd P[j].aC,jc jd P[j].num,jC P[j].text,Y an (T P[j].aB) cn] 77:=(BRN.alloc NLN _).drew;have K:Ag (jR<|jK k<|jH #[jc jd P[j].aC,jc jd P[j].num,jC P[j].text,Y an (T P[j].aB) cn] 77) (jh<|Z k) #[jc jd P[j].aC,jc jd P[j].num,jC P[j].text,Y an (T P[j].aB) cn] 77:=⟨(Ag.new k _ _).out⟩
    generalize jR (jK k (jH #[jc jd P[j].aC,jc jd P[j].num,jC P[j].text,Y an (T P[j].aB) cn] 77))=bZ at au K|-;have a0:=b.below au;have cH:=Ab<|m.aA au NLN;obtain⟨av,bx⟩:∃av,av=jh (Z k):=⟨_,rfl⟩
    rw[<-bx]at K cD cE|-;clear c0 c1 c2 f1 e0 e1 e2 e3 aS aT aU f2 bQ co cq;obtain⟨c0,c1,c2⟩:=At a0.row;obtain⟨e0,e1,e2,e3⟩:=Cx K;have bX:=K.frozen;have cI:∀i,jY bZ (jA d i U)=jE:=λi=>a0.aI.aN.frozenAt i;have A:∀i,i<4->jI bZ ⟨d,j*4+i,U⟩=(JX P J)[j*4+i]? :=λi hi=>a0.aI.aN.cellAt (g:=d) (n:=T P) (j*4+i) Oa;have a3:=(A 0 Oa).trans (Aa ar).1;have bz:=(A 1 Oa).trans (Aa ar).2.1;have cJ:=(A 2 Oa).trans (Aa ar).2.2.1;have b0:=(A 3 Oa).trans (Aa ar).2.2.2;rw[zX]at a3;rw[hu]at b0;have b2:=Ab bx;have cK:=Ab au;have cL:=Ab hu;clear A ar au bx b a0 K hu;go_wp2_with fail
    go_region
    have V:=((Aa ag).below<|(Aa cK).setCell (p:=(jA av 0 U)) (zt (Aa b2).symm)<|jc jd<|wrap64<|1+P[j].aC.tmod 5).val j ah bs ⟨wrap64<|1+P[j].aC.tmod 5,P[j].num,P[j].text,P[j].aB⟩ rfl ((Aa ag).aI.ok P[j]<|zI ah);rw[Aa cL]at V;have cM:=Ab<|V.below BRN.drew;have cN:l≠av:=by have:=(m.lt:l<jh (Z k));have:=Aa b2;omega
    have a4:l≠d:=λe=>Ac m (Aa ag).aI.aN Ob D7;have cO:=Ab<|(((((Aa cH).aF (p:=(jA av 0 U)) cN<|jc jd<|wrap64<|1+P[j].aC.tmod 5).aF (p:=⟨d,j*4,U⟩) a4<|jc jd<|wrap64<|1+P[j].aC.tmod 5).aF (p:=⟨d,j*4+1,U⟩) a4<|jc jd P[j].num).aF (p:=⟨d,j*4+2,U⟩) a4<|jC P[j].text).aF (p:=⟨d,j*4+3,U⟩) a4<|Y an (T P[j].aB) cn;clear V a3 bz cJ b0 e0 e1 e2 e3 c0 c1 c2 bX cI;go_wp2
    go_meet
    refine⟨P.set j ⟨wrap64<|1+P[j].aC.tmod 5,P[j].num,P[j].text,P[j].aB⟩,s,I,Q<|jA d 0 U,cp,g,ci,_,_,Ab<|by rw[zv];exact Aa cM,⟨(Aa cO).out⟩,D,Oa,by rw[zv];exact F,af,Ab ?_⟩;rw[Aa W,Aa cF,Ot P j ah];simp[Aa aa,UF,(Oa:0<T P)];exact List.set_getElem_self D
 case rest=>
  obtain⟨o,G,I',bm,bn,E,bo,ao,ap,f,aq,b4,cP,cQ,dj,cS⟩:=hcut;obtain⟨c0,c1,c2⟩:=At (Aa f).row;obtain⟨aS,aT,aU⟩:=At (Aa f).out;have f2:=(Aa f).out.frozen;have dk:jY wc ⟨E,t*2,U⟩=jE/\jY wc ⟨E,t*2+1,U⟩=jE:=⟨(Aa f).aK.frozenAt _,(Aa f).aK.frozenAt _⟩
  have ca:=Jn I' t b4;have a3:jI wc ⟨E,t*2,U⟩=Q (jc jd I'[t].op):=by rw[<-ca.1];exact(Aa f).aK.cellAt (g:=E) (n:=T I') (t*2) Oa
  have bz:jI wc ⟨E,t*2+1,U⟩=Q (jc jd I'[t].aY):=by rw[<-ca.2];exact(Aa f).aK.cellAt (g:=E) (n:=T I') (t*2+1) Oa
  have dl:=aq.cell 0;have dm:=aq.cell 1;have dn:(t:Int)<(T I':Int):=Oa;have cT:jh (Z w)+1+1≠E:=λe=>Ac (Aa f).row (Aa f).aK Ob D7;have cU:jh (Z w)+1≠E:=λe=>Ac (Aa f).out (Aa f).aK Ob D7;have dp:=cT.symm;have dq:=cU.symm;clear b ag W aV aW m ca;generalize I'[t].op=dr at a3;generalize I'[t].aY=ds at bz;go_wp2_with fail
  have bA:T (I'.set t (⟨ao,ap⟩:Be))=T I':=zv;have aZ:=(Aa f).ins2 t b4 ao ap;rw[<-bA]at aZ;obtain⟨⟨ab,ac,ad⟩,a1,a2⟩:=aZ.cG (M:=100000) (X:=λo G I'=>(o,G,I')=JZ zs p P s I) (Aa cS) cQ (by rw[bA];exact cP) rfl;rw[bA]at ab ac ad a1 a2;exact G2 (v:= jM #[Y bm (T o) bn,jc jd G,Y (Q<|jA E 0 U) (T I') bo]) (by simp[results,results33,go_sem,ab,ac,ad]) rfl ⟨a1,a2⟩
set_option maxHeartbeats 3200000
set_option linter.unusedSimpArgs false
theorem Dv (e:Ex): 1<=Am e:=by cases e<;>simp only[Am]<;>first|omega|(split<;>omega)
theorem AO.at0 (h:AO w (Q<|jA b a U)<|k ::r):jI w (jA b a U)=Q (V X k.op)/\jI w ⟨b,a+1,U⟩=Q (V X k.num)/\jI w ⟨b,a+2,U⟩=Q (jC k.text)/\jI w ⟨b,a+3,U⟩=Q (Y k.an k.nn k.cn)/\jI w ⟨b,a+4,U⟩=Q (Y k.ka k.kn k.kc):=by
 obtain⟨c,d,e,_,hc⟩:=h 0 Ox;cases e;have c0:=hc 0 Ob;have c1:=hc 1 Ob;have c2:=hc 2 Ob;have c3:=hc 3 Ob;have c4:=hc 4 Ob;simp only[zu,zX]at c0 c1 c2 c3 c4;exact⟨c0,c1,c2,c3,c4⟩
theorem AO.at1 (h:AO w (Q<|jA b a U)<|k ::l ::r):jI w ⟨b,a+5,U⟩=Q (V X l.op)/\jI w ⟨b,a+6,U⟩=Q (V X l.num)/\jI w ⟨b,a+7,U⟩=Q (jC l.text)/\jI w ⟨b,a+8,U⟩=Q (Y l.an l.nn l.cn)/\jI w ⟨b,a+9,U⟩=Q (Y l.ka l.kn l.kc):=by
 obtain⟨c,d,e,_,hc⟩:=h 1 Ox;cases e;have c0:=hc 0 Ob;have c1:=hc 1 Ob;have c2:=hc 2 Ob;have c3:=hc 3 Ob;have c4:=hc 4 Ob;simp only[Nat.one_mul,zX]at c0 c1 c2 c3 c4;exact⟨c0,c1,c2,c3,c4⟩
theorem AO.at2 {m:K5}(h:AO w (Q<|jA b a U)<|k ::l ::m ::r):jI w ⟨b,a+10,U⟩=Q (V X m.op)/\jI w ⟨b,a+11,U⟩=Q (V X m.num)/\jI w ⟨b,a+12,U⟩=Q (jC m.text)/\jI w ⟨b,a+13,U⟩=Q (Y m.an m.nn m.cn)/\jI w ⟨b,a+14,U⟩=Q (Y m.ka m.kn m.kc):=by
 obtain⟨c,d,e,_,hc⟩:=h 2 Ox;cases e;have c0:=hc 0 Ob;have c1:=hc 1 Ob;have c2:=hc 2 Ob;have c3:=hc 3 Ob;have c4:=hc 4 Ob;simp only[Nat.reduceMul,zX]at c0 c1 c2 c3 c4;exact⟨c0,c1,c2,c3,c4⟩
theorem Ov.two {w0:jB}{k l:J5}(h:Qh w0 k.a k.n k.c k.i.val.aB)(d:Qh w0 l.a l.n l.c l.i.val.aB):Ov w0 [k,l]:=λj b=>by
 simp only[zh,List.not_mem_nil,or_false]at b;obtain rfl|rfl:=b<;>assumption
theorem DM {a:Act}{Q:Exit->Act->jB->Prop}{B:Nat}(hv:BS w0 B v L w)(K:List J5)(c:Array jF)(d:Ov w0 K)(f:∀j u,(K.flatMap J5.cs)[j]? =jg u->jI (jK w<|jH c 133) ((⟨R<|Z w,0,U⟩:jG).add j)=jg u)(p:T L+T K<=4194304)(g:B<=R (Z w))(k:o.guard=U)(s x:Operand)
  (l:o.op= .call { callee:= .builtin .append,args:=#[s,x],argTypes:=#[129,129] })(hs:a.eval s=v)(m:Nat)(hx:a.eval x=Y (jg ⟨R<|Z w,0,U⟩) m m)(hm:T K=m)
  (h:∀b n' c' w',BS w0 B (Y b n' c') (L++K.map J5.i) w'->Below B w w'->wpList jZ ops Q rest (a.put o.dst<|Y b n' c') w'):wpList jZ ops Q (o ::rest) a<|jK w<|jH c 133:=by
 have C:=AE w<|jH c 133;exact LH k s x l w0 B v L hs (hv.below C) ⟨R<|Z w,0,U⟩ m m K hx hm d f Oa O0 λb n' c' w' q n=>h b n' c' w' q<|(C.mono g).trans n
theorem GG {a:Act}{Q:Exit->Act->jB->Prop}{B:Nat}{M:M9}(hv:BS w0 B v L w){m:Nat}(hu:BS w0 B (Y y m c) M w)(h0: 0<m)(d:T L+m<=4194304)(f:B<=R (Z w))(g:o.guard=U)(s x:Operand)
  (i:o.op= .call { callee:= .builtin .append,args:=#[s,x],argTypes:=#[129,129] })(hs:a.eval s=v)(hx:a.eval x=Y y m c)
  (h:∀b n' c' w',BS w0 B (Y b n' c') (L++M) w'->Below B w w'->wpList jZ ops Q rest (a.put o.dst<|Y b n' c') w'):wpList jZ ops Q (o ::rest) a w:=by grind [BS.bE,LH]
theorem Mo (w:jB)(b:Array jF)(t:TypeId):∃a,a=jK w (jH b t)/\Ai w a/\Ag a (R<|Z w) b t:=by grind [Go.RowKit.Below.refl,Go.RowKit.Below.alloc,Ag.new]
theorem KiC.below {w0 w w':jB}{e:Ex}(h:KiC w0 w k e)(B:Ai w w'):KiC w0 w' k e:=λa b=>h a<|B.trans<|b.mono B.size
theorem VV.below {w':jB}{e:Ex}(h:VV w k e)(B:Ai w w'):VV w' k e:=λa b=>h a<|B.trans<|b.mono B.size
theorem AdM (w0:jB)(op num:Int)(text:K9)(an:L3)(nn cn:Nat)(ka:L3)(kc:Nat)(n o:K5)(i:Int)(e0 e1:Ex)(aq: 11<=op/\op<=24)(at_:Nat)(t:at_+Am (.bin i op e0 e1)<=1048576)(w:jB)(u:AO w ka [n,o])(O:KiC w0 w n e0)(P:VV w n e0)(S:KiC w0 w o e1)(W:VV w o e1):
  Calls jZ 63 #[jM #[V X op,V X num,jC text,Y an nn cn,Y ka 2 kc],V X at_] w λr w'=>(∃v,r= .returned v/\BS w0 (R<|Z w) v (Ar (.bin i op e0 e1) at_) w')/\Ai w w':=by
 have x:=λa=>BJ e0 a;have l1:=λa=>BJ e1 a;have aa:=Ab (show Ar (.bin i op e0 e1) at_=Ar e0 at_++Ar e1 (at_+Am e0)++[(AR (op-3) 0).i] by rw[Ar,H7 Oa,H7 Oa,x];rfl);rw[Aa aa];rw[Am]at t;rw[H7 Oa]at t;have ab:=Ab<|VU op Oa;have ar:(op==6)=jE:=zA.2 Oa;have au:(op==7)=jE:=zA.2 Oa;have av:(op==25)=jE:=zA.2 Oa;have aw:(op==26)=jE:=zA.2 Oa;have ax:(op==27)=jE:=zA.2 Oa;obtain⟨b,y,rfl,_,_⟩:=u 0 Ox;obtain⟨d,ac,c,h⟩:=Mo w #[V X op,V X num,jC text,Y an nn cn,Y (Q<|jA b y U) 2 kc] 121;have p:=u.below c NLN;have q:=c.size;have j:=Ab λ(g:jB) (s:Ai d g)=>O.below c g s (at_) Oa;have z:=Ab<|P.below c;have m0:=x<|at_;generalize Ar e0 (at_)=ad at j m0|-;have k:=Ab λ(g:jB) (s:Ai d g)=>S.below c g s (at_+Am e0) Oa;have A:=Ab<|W.below c;have B:=l1<|at_+Am e0;generalize Ar e1 (at_+Am e0)=ae at k B|-;have ay:=Dv e0;have az:=Dv e1;simp only[VV]at z A;generalize Am e0=af at*;generalize Am e1=n1 at*;simp only[z9,Int.cast_ofNat_Int]at j k;have aB:T ad<=1048576:=Oa
 have q1:T ae<=1048576:=Oa;have aC:(at_:Int)<=1048576:=Oa;have aD:(af:Int)<=1048576:=Oa;have aE:(n1:Int)<=1048576:=Oa;subst ac;obtain⟨C,a1,a2,a3,a4⟩:=AO.at0 p;go_enter func63,ntmps63
 go_wp2_with fail
 generalize jK w (jH #[V X op,V X num,jC text,Y an nn cn,Y (Q (jA b y U)) 2 kc] 121)=d at c h p q C a1 a2 a3 a4 j z k A|-;have l:=SH d;refine(Aa j _ l).mono ?_;rintro r aF ⟨⟨aG,rfl,D⟩,ag⟩;obtain⟨aH,c1,E,_⟩:=D.bE;rw[Aa<|Ab m0]at E;subst E;have f:=l.trans<|ag.mono l.size;obtain⟨C,a1,a2,a3,a4⟩:=AO.at1<|p.below f NLN;obtain⟨F,G,H,I,J,_⟩:=Ap<|h.aA f NLN;go_wp2_with fail
 refine(Aa k _ f).mono ?_;rintro r w2 ⟨⟨aI,rfl,K⟩,L⟩;obtain⟨aJ,c2,M,_⟩:=K.bE;rw[Aa<|Ab B]at M;subst M;have N:=f.trans<|L.mono f.size;have ah:=K.low (B':=R<|Z d) f.size;have ai:=(D.low (B':=R<|Z d) l.size).below L;go_wp2_with (at_builtin;refine GG ai ah Oa O3 N.size rfl _ _ rfl rfl rfl ?_)
 intro aK aL c3 aM aj ak;have m:=N.trans ak;obtain⟨F,G,H,I,J,_⟩:=Ap<|h.aA m NLN;go_wp2_with fail
 refine(Aa ab _).mono ?_;rintro r wz ⟨rfl,al⟩;rw[al];obtain⟨F,G,H,I,J,_⟩:=Ap<|h.aA m NLN;go_wp2_with (at_builtin;refine DM aj [AR (op-3)<|0] _ (Ov.bH<|Qh.bR w0) (DL _ (AR (op-3)<|0) _ rfl) O3 m.size rfl _ _ rfl rfl _ rfl rfl ?_)
 intro aN aO c4 aP ao ap;go_wp2
 go_ret
 exact⟨⟨_,rfl,by have:=ao.low q;simpa[List.append_assoc,AR,Lq,Aw]using this⟩,c.trans<|(m.trans ap).mono q⟩
theorem AdN (w0:jB)(num:Int)(text:K9)(an:L3)(nn cn:Nat)(ka:L3)(kc:Nat)(x y:K5)(i:Int)(e0 e1:Ex)(at_:Nat)(H:at_+Am (.bin i 25 e0 e1)<=1048576)(w:jB)(I:AO w ka [x,y])(ad:KiC w0 w x e0)(ae:VV w x e0)(af:KiC w0 w y e1)(ag:VV w y e1):
  Calls jZ 63 #[jM #[V X 25,V X num,jC text,Y an nn cn,Y ka 2 kc],V X at_] w λr w'=>(∃v,r= .returned v/\BS w0 (R<|Z w) v (Ar (.bin i 25 e0 e1) at_) w')/\Ai w w':=by
 have J:=λa=>BJ e0 a;have l1:=λa=>BJ e1 a;have ah:=Ab (show Ar (.bin i 25 e0 e1) at_=Ar e0 at_++[(AR 23<|(at_:Int)+(Am e0:Nat)+(Am e1:Nat)+2).i]++Ar e1 (at_+Am e0+1)++[(AR 22<|(at_:Int)+(Am e0:Nat)+(Am e1:Nat)+3).i]++[(Lq 0).i] by rw[Ar,H8 rfl];simp only[J,l1,z9];rfl);rw[Aa ah];rw[Am]at H;rw[H8 Ob]at H;obtain⟨b,K,rfl,_,_⟩:=I 0 Ox;obtain⟨f,ai,c,d⟩:=Mo w #[V X 25,V X num,jC text,Y an nn cn,Y (Q<|jA b K U) 2 kc] 121;have q:=I.below c NLN;have z:=c.size;have s:=Ab λ(h:jB) (A:Ai f h)=>ad.below c h A (at_) Oa;have L:=Ab<|ae.below c;have m0:=J<|at_;generalize Ar e0 (at_)=aj at s m0|-;have t:=Ab λ(h:jB) (A:Ai f h)=>af.below c h A (at_+Am e0+1) Oa;have B:=Ab<|ag.below c;have M:=l1<|at_+Am e0+1;generalize Ar e1 (at_+Am e0+1)=ak at t M|-;have aD:=Dv e0;have aE:=Dv e1;simp only[VV]at L B;generalize Am e0=j at*;generalize Am e1=n1 at*;simp only[z9,Int.cast_ofNat_Int]at s t;have aF:T aj<=1048576:=Oa
 have q1:T ak<=1048576:=Oa;have aG:(at_:Int)<=1048576:=Oa;have aH:(j:Int)<=1048576:=Oa;have aI:(n1:Int)<=1048576:=Oa;subst ai;obtain⟨C,a1,a2,a3,a4⟩:=AO.at0 q;go_enter func63,ntmps63
 go_wp2_with fail
 generalize jK w (jH #[V X 25,V X num,jC text,Y an nn cn,Y (Q (jA b K U)) 2 kc] 121)=f at c d q z C a1 a2 a3 a4 s L t B|-;have u:=SH f;refine(Aa s _ u).mono ?_;rintro r aJ ⟨⟨aK,rfl,N⟩,al⟩;obtain⟨aL,c1,O,_⟩:=N.bE;rw[Aa<|Ab m0]at O;subst O;have k:=u.trans<|al.mono u.size;obtain⟨C,a1,a2,a3,a4⟩:=AO.at1<|q.below k NLN;obtain⟨l,m,n,o,p,_⟩:=Ap<|d.aA k NLN;go_wp2_with fail
 refine(Aa B _ k).mono ?_;rintro r w2 ⟨rfl,P⟩;have D:=k.trans<|P.mono k.size;have ao:=(N.low (B':=R<|Z f) u.size).below P;obtain⟨l,m,n,o,p,_⟩:=Ap<|d.aA D NLN;go_wp2_with (at_builtin;refine DM ao [AR (23)<|(at_:Int)+j+n1+2] _ (Ov.bH<|Qh.bR w0) (DL _ (AR (23)<|(at_:Int)+j+n1+2) _ rfl) O3 D.size rfl _ _ rfl rfl _ rfl rfl ?_)
 intro aM aN c3 aO ap aq;have g:=D.trans aq;obtain⟨C,a1,a2,a3,a4⟩:=AO.at1<|q.below g NLN;obtain⟨l,m,n,o,p,_⟩:=Ap<|d.aA g NLN;go_wp2_with fail
 refine(Aa t _ g).mono ?_;rintro r aP ⟨⟨aQ,rfl,S⟩,W⟩;obtain⟨aR,c4,aa,_⟩:=S.bE;rw[Aa<|Ab M]at aa;subst aa;have ab:=g.trans<|W.mono g.size;have ar:=S.low (B':=R<|Z f) g.size;have au:=ap.below W;go_wp2_with (at_builtin;refine GG au ar Oa O3 ab.size rfl _ _ rfl rfl rfl ?_)
 intro aS aT c5 aU av aw;have E:=ab.trans aw;obtain⟨l,m,n,o,p,_⟩:=Ap<|d.aA E NLN;go_wp2_with (at_builtin;refine DM av [AR (22)<|(at_:Int)+j+n1+3] _ (Ov.bH<|Qh.bR w0) (DL _ (AR (22)<|(at_:Int)+j+n1+3) _ rfl) O3 E.size rfl _ _ rfl rfl _ rfl rfl ?_)
 intro aV aW aX aY ax ay;have F:=E.trans ay;obtain⟨l,m,n,o,p,_⟩:=Ap<|d.aA F NLN;go_wp2_with fail
 refine(Qi 0 _).mono ?_;rintro r aZ ⟨rfl,ac⟩;have G:=F.trans<|ac.mono F.size;have az:=ax.below ac;obtain⟨l,m,n,o,p,_⟩:=Ap<|d.aA G NLN;go_wp2_with (at_builtin;refine DM az [Lq 0] _ (Ov.bH<|Qh.bR w0) (DL _ (Lq 0) _ rfl) O3 G.size rfl _ _ rfl rfl _ rfl rfl ?_)
 intro a0 a5 a6 a7 aB aC;go_wp2
 go_ret
 exact⟨⟨_,rfl,by have:=aB.low z;simpa[List.append_assoc,AR,Lq,Aw]using this⟩,c.trans<|(G.trans aC).mono z⟩
theorem AgB (w0:jB)(num:Int)(text:K9)(an:L3)(nn cn:Nat)(ka:L3)(kc:Nat)(x y:K5)(i:Int)(e0 e1:Ex)(at_:Nat)(G:at_+Am (.bin i 26 e0 e1)<=1048576)(w:jB)(H:AO w ka [x,y])(ac:KiC w0 w x e0)(ad:VV w x e0)(ae:KiC w0 w y e1)(af:VV w y e1):
  Calls jZ 63 #[jM #[V X 26,V X num,jC text,Y an nn cn,Y ka 2 kc],V X at_] w λr w'=>(∃v,r= .returned v/\BS w0 (R<|Z w) v (Ar (.bin i 26 e0 e1) at_) w')/\Ai w w':=by
 have I:=λa=>BJ e0 a;have l1:=λa=>BJ e1 a;have ag:=Ab (show Ar (.bin i 26 e0 e1) at_=Ar e0 at_++[(AR 23<|(at_:Int)+(Am e0:Nat)+3).i,(Lq 1).i]++[(AR 22<|(at_:Int)+(Am e0:Nat)+3+(Am e1:Nat)).i]++Ar e1 (at_+Am e0+3) by rw[Ar,H7 Ob,H8 rfl];simp only[I,l1,z9,zl];rfl);rw[Aa ag];rw[Am]at G;rw[H8 Ob]at G;obtain⟨b,J,rfl,_,_⟩:=H 0 Ox;obtain⟨d,ah,c,f⟩:=Mo w #[V X 26,V X num,jC text,Y an nn cn,Y (Q<|jA b J U) 2 kc] 121;have l:=H.below c NLN;have z:=c.size;have m:=Ab λ(h:jB) (A:Ai d h)=>ac.below c h A (at_) Oa;have K:=Ab<|ad.below c;have m0:=I<|at_;generalize Ar e0 (at_)=ai at m m0|-;have n:=Ab λ(h:jB) (A:Ai d h)=>ae.below c h A (at_+Am e0+3) Oa;have B:=Ab<|af.below c;have L:=l1<|at_+Am e0+3;generalize Ar e1 (at_+Am e0+3)=aj at n L|-;have az:=Dv e0;have aB:=Dv e1;simp only[VV]at K B;generalize Am e0=j at*;generalize Am e1=n1 at*;simp only[z9,Int.cast_ofNat_Int]at m n;have aC:T ai<=1048576:=Oa
 have q1:T aj<=1048576:=Oa;have aD:(at_:Int)<=1048576:=Oa;have aE:(j:Int)<=1048576:=Oa;have aF:(n1:Int)<=1048576:=Oa;subst ah;obtain⟨C,a1,a2,a3,a4⟩:=AO.at0 l;go_enter func63,ntmps63
 go_wp2_with fail
 generalize jK w (jH #[V X 26,V X num,jC text,Y an nn cn,Y (Q (jA b J U)) 2 kc] 121)=d at c f l z C a1 a2 a3 a4 m K n B|-;have o:=SH d;refine(Aa m _ o).mono ?_;rintro r aG ⟨⟨aH,rfl,M⟩,ak⟩;obtain⟨aI,c1,N,_⟩:=M.bE;rw[Aa<|Ab m0]at N;subst N;have D:=o.trans<|ak.mono o.size;obtain⟨p,q,s,t,u,_⟩:=Ap<|f.aA D NLN;go_wp2_with fail
 refine(Qi 1 _).mono ?_;rintro r w2 ⟨rfl,O⟩;have E:=D.trans<|O.mono D.size;have al:=(M.low (B':=R<|Z d) o.size).below O;obtain⟨p,q,s,t,u,_⟩:=Ap<|f.aA E NLN;go_wp2_with (at_builtin;refine DM al [AR (23)<|(at_:Int)+j+3,Lq 1] _ (Ov.two (Qh.bR w0)<|Qh.bR w0) (VW _ (AR (23)<|(at_:Int)+j+3) (Lq 1) _ rfl) O3 E.size rfl _ _ rfl rfl _ rfl rfl ?_)
 intro aJ aK c3 aL ao ap;have k:=E.trans ap;obtain⟨C,a1,a2,a3,a4⟩:=AO.at1<|l.below k NLN;obtain⟨p,q,s,t,u,_⟩:=Ap<|f.aA k NLN;go_wp2_with fail
 refine(Aa B _ k).mono ?_;rintro r aM ⟨rfl,P⟩;have F:=k.trans<|P.mono k.size;have aq:=ao.below P;obtain⟨p,q,s,t,u,_⟩:=Ap<|f.aA F NLN;go_wp2_with (at_builtin;refine DM aq [AR (22)<|(at_:Int)+j+3+n1] _ (Ov.bH<|Qh.bR w0) (DL _ (AR (22)<|(at_:Int)+j+3+n1) _ rfl) O3 F.size rfl _ _ rfl rfl _ rfl rfl ?_)
 intro aN aO c5 aP ar au;have g:=F.trans au;obtain⟨C,a1,a2,a3,a4⟩:=AO.at1<|l.below g NLN;obtain⟨p,q,s,t,u,_⟩:=Ap<|f.aA g NLN;go_wp2_with fail
 refine(Aa n _ g).mono ?_;rintro r aQ ⟨⟨aR,rfl,S⟩,W⟩;obtain⟨aS,aT,aa,_⟩:=S.bE;rw[Aa<|Ab L]at aa;subst aa;have ab:=g.trans<|W.mono g.size;have av:=S.low (B':=R<|Z d) g.size;have aw:=ar.below W;go_wp2_with (at_builtin;refine GG aw av Oa O3 ab.size rfl _ _ rfl rfl rfl ?_)
 intro aU aV c7 aW ax ay;go_wp2
 go_ret
 exact⟨⟨_,rfl,by have:=ax.low z;simpa[List.append_assoc,AR,Lq,Aw]using this⟩,c.trans<|(ab.trans ay).mono z⟩
theorem AdO (w0:jB)(num:Int)(text:K9)(an:L3)(nn cn:Nat)(ka:L3)(kc:Nat)(C D E:K5)(i:Int)(e0 e1 e2:Ex)(at_:Nat)(al:at_+Am (.ite i e0 e1 e2)<=1048576)(w:jB)(K:AO w ka [C,D,E])(ao:KiC w0 w C e0)(ap:VV w C e0)(aq:KiC w0 w D e1)(ar:VV w D e1)(au:KiC w0 w E e2)(S2:VV w E e2):
  Calls jZ 63 #[jM #[V X 27,V X num,jC text,Y an nn cn,Y ka 3 kc],V X at_] w λr w'=>(∃v,r= .returned v/\BS w0 (R<|Z w) v (Ar (.ite i e0 e1 e2) at_) w')/\Ai w w':=by
 have L:=λa=>BJ e0 a;have l1:=λa=>BJ e1 a;have M:=λa=>BJ e2 a;have av:=Ab (show Ar (.ite i e0 e1 e2) at_=Ar e0 at_++[(AR 23<|(at_:Int)+(Am e0:Nat)+(Am e1:Nat)+2).i]++Ar e1 (at_+Am e0+1)++[(AR 22<|(at_:Int)+(Am e0:Nat)+(Am e1:Nat)+2+(Am e2:Nat)).i]++Ar e2 (at_+Am e0+Am e1+2) by rw[Ar];simp only[L,l1,M,z9];rfl);rw[Aa av];rw[Am]at al;obtain⟨b,N,rfl,_,_⟩:=K 0 Ox;obtain⟨d,aw,c,g⟩:=Mo w #[V X 27,V X num,jC text,Y an nn cn,Y (Q<|jA b N U) 3 kc] 121;have h:=K.below c NLN;have F:=c.size;have y:=Ab λ(f:jB) (l:Ai d f)=>ao.below c f l (at_) Oa;have O:=Ab<|ap.below c;have m0:=L<|at_;generalize Ar e0 (at_)=ax at y m0|-;have z:=Ab (λ(f:jB) (l:Ai d f)=>aq.below c f l (at_+Am e0+1) Oa);have G:=Ab<|ar.below c;have P:=l1<|at_+Am e0+1;generalize Ar e1 (at_+Am e0+1)=ay at z P|-;have A:=Ab λ(f:jB) (l:Ai d f)=>au.below c f l (at_+Am e0+Am e1+2) Oa;have H:=Ab<|S2.below c;have S:=M<|at_+Am e0+Am e1+2;generalize Ar e2 (at_+Am e0+Am e1+2)=az at A S|-;have aQ:=Dv e0;have aR:=Dv e1;have aS:=Dv e2;simp only[VV]at O G H;generalize Am e0=m at*;generalize Am e1=n1 at*;generalize Am e2=n2 at*;simp only[z9,Int.cast_ofNat_Int]at y z A;have aT:T ax<=1048576:=Oa
 have q1:T ay<=1048576:=Oa;have q2:T az<=1048576:=Oa;have aU:(at_:Int)<=1048576:=Oa;have aV:(m:Int)<=1048576:=Oa;have aW:(n1:Int)<=1048576:=Oa;have aX:(n2:Int)<=1048576:=Oa;subst aw;obtain⟨n,a1,a2,a3,a4⟩:=AO.at0 h;go_enter func63,ntmps63
 go_wp2_with fail
 generalize jK w (jH #[V X 27,V X num,jC text,Y an nn cn,Y (Q (jA b N U)) 3 kc] 121)=d at c g h F n a1 a2 a3 a4 y O z G A H|-;have B:=SH d;refine(Aa y _ B).mono ?_;rintro r aY ⟨⟨aZ,rfl,W⟩,aB⟩;obtain⟨a0,c1,aa,_⟩:=W.bE;rw[Aa<|Ab m0]at aa;subst aa;have o:=B.trans<|aB.mono B.size;obtain⟨n,a1,a2,a3,a4⟩:=AO.at1<|h.below o NLN;obtain⟨p,q,s,t,u,_⟩:=Ap<|g.aA o NLN;go_wp2_with fail
 refine(Aa G _ o).mono ?_;rintro r w2 ⟨rfl,ab⟩;have I:=o.trans<|ab.mono o.size;have aC:=(W.low (B':=R<|Z d) B.size).below ab;obtain⟨p,q,s,t,u,_⟩:=Ap<|g.aA I NLN;go_wp2_with (at_builtin;refine DM aC [AR (23)<|(at_:Int)+m+n1+2] _ (Ov.bH<|Qh.bR w0) (DL _ (AR (23)<|(at_:Int)+m+n1+2) _ rfl) O3 I.size rfl _ _ rfl rfl _ rfl rfl ?_)
 intro a5 a6 c3 a7 aD aE;have j:=I.trans aE;obtain⟨n,a1,a2,a3,a4⟩:=AO.at1<|h.below j NLN;obtain⟨p,q,s,t,u,_⟩:=Ap<|g.aA j NLN;go_wp2_with fail
 refine(Aa z _ j).mono ?_;rintro r a8 ⟨⟨a9,rfl,ac⟩,ad⟩;obtain⟨ba,c4,ae,_⟩:=ac.bE;rw[Aa<|Ab P]at ae;subst ae;have af:=j.trans<|ad.mono j.size;have aF:=ac.low (B':=R<|Z d) j.size;have aG:=aD.below ad;go_wp2_with (at_builtin;refine GG aG aF Oa O3 af.size rfl _ _ rfl rfl rfl ?_)
 intro bb bc c5 bd aH aI;have x:=af.trans aI;obtain⟨n,a1,a2,a3,a4⟩:=AO.at2<|h.below x NLN;obtain⟨p,q,s,t,u,_⟩:=Ap<|g.aA x NLN;go_wp2_with fail
 refine(Aa H _ x).mono ?_;rintro r bf ⟨rfl,ag⟩;have J:=x.trans<|ag.mono x.size;have aJ:=aH.below ag;obtain⟨p,q,s,t,u,_⟩:=Ap<|g.aA J NLN;go_wp2_with (at_builtin;refine DM aJ [AR (22)<|(at_:Int)+m+n1+2+n2] _ (Ov.bH<|Qh.bR w0) (DL _ (AR (22)<|(at_:Int)+m+n1+2+n2) _ rfl) O3 J.size rfl _ _ rfl rfl _ rfl rfl ?_)
 intro bg bh c7 bi aK aL;have k:=J.trans aL;obtain⟨n,a1,a2,a3,a4⟩:=AO.at2<|h.below k NLN;obtain⟨p,q,s,t,u,_⟩:=Ap<|g.aA k NLN;go_wp2_with fail
 refine(Aa A _ k).mono ?_;rintro r bj ⟨⟨bk,rfl,ah⟩,ai⟩;obtain⟨bl,bm,aj,_⟩:=ah.bE;rw[Aa<|Ab S]at aj;subst aj;have ak:=k.trans<|ai.mono k.size;have aM:=ah.low (B':=R<|Z d) k.size;have aN:=aK.below ai;go_wp2_with (at_builtin;refine GG aN aM Oa O3 ak.size rfl _ _ rfl rfl rfl ?_)
 intro bn bo bp br aO aP;go_wp2
 go_ret
 exact⟨⟨_,rfl,by have:=aO.low F;simpa[List.append_assoc,AR,Lq,Aw]using this⟩,c.trans<|(ak.trans aP).mono F⟩
section
open Go.RowKit Go.Lib
theorem Aae (a b:L3)(n c m d S:Nat)(I:M2)(k:Nat)(w:jB)(A:PX w b m d I)(B:k<m)(D:n<=1048576)(x: 1<=(I.getD k ⟨0,0⟩).op/\(I.getD k ⟨0,0⟩).op<=25):
  Calls jZ 36 #[jM #[Y a n c,V X S,Y b m d],V X k] w λe w'=>e= .returned (.bool<|AF n S m k<|I.getD k ⟨0,0⟩)/\Ai w w':=by
 obtain⟨g,s,C,y,t,u⟩:=A.at k B;subst C;generalize I.getD k ⟨0,0⟩=i at t u x;obtain⟨op,f⟩:=i;simp only at t u x;have E:(k:Int)<(m:Int):=Oa;have r:=AE w<|jH #[Y a n c,V X S,Y (Q<|jA g s U) m d] 26;have j:=r.alloc r.size<|jH #[V X op,V X f] 80;have F:=(r.cell (p:=⟨g,s+k*2,U⟩) y).trans t;have G:=(r.cell (p:=⟨g,s+k*2+1,U⟩) y).trans u;by_cases o:op=1
 .subst o;have h:=Ab<|show AF n S m k ⟨1,f⟩=decide (f<n)from rfl;go_enter func36,ntmps36
  go_wp2
  go_ret
  rw[Aa h];exact⟨rfl,j⟩
 by_cases q:op=2
 .subst q;have h:=Ab (show AF n S m k ⟨2,f⟩=decide (f<=5) by show decide (f<6)=_;congr 1;apply propext;omega);go_enter func36,ntmps36
  go_wp2
  go_ret
  rw[Aa h];exact⟨rfl,j⟩
 by_cases h3:op=3\/op=4
 .have h:=Ab (show AF n S m k ⟨op,f⟩=decide (f<S) by unfold AF;rw[H7 o,H7 q,H8 h3]);obtain rfl|rfl:=h3
  all_goals
   go_enter func36,ntmps36
   go_wp2
   go_ret
   rw[Aa h];exact⟨rfl,j⟩
 by_cases l:op=22\/op=23
 .have h:=Ab (show AF n S m k ⟨op,f⟩=decide ((k:Int)<f/\f<m) by unfold AF;rw[H7 o,H7 q,H7 h3,H8 l]);by_cases z:(k:Int)<f
  .have v:=Ab (show AF n S m k ⟨op,f⟩=decide (f<m) by rw[Aa h];simp[z]);obtain rfl|rfl:=l
   all_goals
    go_enter func36,ntmps36
    go_wp2
    go_ret
    rw[Aa v];exact⟨rfl,j⟩
  .have v:=Ab (show AF n S m k ⟨op,f⟩=jE by rw[Aa h];simp[z]);obtain rfl|rfl:=l
   all_goals
    go_enter func36,ntmps36
    go_wp2
    go_ret
    rw[Aa v];exact⟨rfl,j⟩
 .have h:=Ab (show AF n S m k ⟨op,f⟩=true by unfold AF;rw[H7 o,H7 q,H7 h3,H7 l]);have e1:(op==1)=jE:=zA.2 o;have e2:(op==2)=jE:=zA.2 q;have e3:(op==3)=jE:=zA.2 λe=>h3<|.inl e;have e4:(op==4)=jE:=zA.2 λe=>h3<|.inr e;have H:(op==22)=jE:=zA.2 λe=>l<|.inl e;have J:(op==23)=jE:=zA.2 λe=>l<|.inr e;go_enter func36,ntmps36
  go_wp2
  go_ret
  rw[Aa h];exact⟨rfl,j⟩
def DB (PK:L2) (i:Be) (slots:L2):L2×Int:=
 if i.op=1 then ([],RZ PK i.aY)else if i.op=2 then ([],F7 i.aY)else if i.op=3 then ([],RZ slots i.aY)else if i.op=4 then ([-1],0)
 else if i.op=22\/i.op=24 then ([],0)else if i.op=23 then ([1],0)else if i.op=25 then ([4],0)else rwV (i.op+3)
theorem Aaf (a b:L3)(n c m d:Nat)(sV I:jF)(kn:Bool)(P:M1)(i:Be)(sl:L2)(J u:L3)(K L q y:Nat)(w:jB)(ae:SC w a n c P)(hs:AP w u q y sl)(h0: 1<=i.op)(af:i.op<=25)(ag:Pj n (T sl) i):
  Calls jZ 37 #[jM #[Y a n c,sV,I],jM #[V X i.op,V X i.aY],jM #[.bool kn,Y J K L,Y u q y]] w λe w'=>LnA w (DB (P.map Vl.aC) i sl) e w':=by
 obtain⟨op,al⟩:=i;obtain⟨M,N,ah,O⟩:=ag;simp only at h0 af M N ah O;obtain⟨k,rfl⟩:=zo M;have ao:=hs.len;have S:=AE w<|jH #[Y a n c,sV,I] 26;have W:=S.alloc S.size<|jH #[V X op,V X k] 80;have h:=W.alloc W.size<|jH #[.bool kn,Y J K L,Y u q y] 46;have s:∀o,AP o U 0 0 ([]:L2):=λo=>⟨rfl,Ob,λj ai=>H9 ai Ox⟩
 by_cases e1:op=1
 .subst e1;have z:k<n:=H2<|N rfl;have f:=Ab<|show DB (P.map Vl.aC) ⟨1,(k:Int)⟩ sl=([],(P.map Vl.aC).getD k 0)from rfl;obtain⟨g,A,B,C,c0⟩:=ae.at k z;subst B;have D:=(h.cell (p:=⟨g,A+k*4,U⟩) C).trans c0;generalize (P.map Vl.aC).getD k 0=x at D f;have aj:(k:Int)<(n:Int):=Oa;go_enter func37,ntmps37
  go_wp2_with fail
  go_region
  all_goals
   go_wp2
   exact G2 (v:= jQ #[Y U 0 0,V X x]) P1 rfl ⟨U,0,by rw[Aa f];rfl,by rw[Aa f];exact s _,λl e=>O5,h.drew⟩
 by_cases e2:op=2
 .subst e2;have aa:=Ab λo=>Ac2 (k:Int) o;have f:=Ab<|show DB (P.map Vl.aC) ⟨2,(k:Int)⟩ sl=([],F7 k)from rfl;generalize F7 (k:Int)=x at aa f;go_enter func37,ntmps37
  go_wp2_with fail
  with_reducible refine(Aa aa _).mono ?_
  rintro e ab ⟨rfl,ak⟩;rw[ak];go_wp2
  exact G2 (v:= jQ #[Y U 0 0,V X x]) P1 rfl ⟨U,0,by rw[Aa f];rfl,by rw[Aa f];exact s _,λl e=>O5,h⟩
 by_cases e3:op=3
 .subst e3;have z:k<q:=H2<|O<|.inl rfl;have f:=Ab<|show DB (P.map Vl.aC) ⟨3,(k:Int)⟩ sl=([],sl.getD k 0)from rfl;obtain⟨g,A,B,C,c0⟩:=hs.at k z;subst B;have D:=(h.cell (p:=⟨g,A+k,U⟩) C).trans c0;generalize sl.getD k 0=x at D f;have aj:(k:Int)<(q:Int):=Oa;go_enter func37,ntmps37
  go_wp2_with fail
  go_region
  all_goals
   go_wp2
   exact G2 (v:= jQ #[Y U 0 0,V X x]) P1 rfl ⟨U,0,by rw[Aa f];rfl,by rw[Aa f];exact s _,λl e=>O5,h.drew⟩
 by_cases e4:op=4
 .subst e4;go_enter func37,ntmps37
  go_wp2
  exact G2 (v:= jQ #[Y (Q ⟨R (Z w)+1+1+1,0,U⟩) 1 1,V X 0]) P1 rfl ⟨Q ⟨R (Z w)+1+1+1,0,U⟩,1,rfl,CU _ _ Ox [-1] _ _ Ob,λl e=>(by cases e;show R (Z w)<=R (Z w)+1+1+1;omega),h.alloc h.size _⟩
 by_cases ac:op=23
 .subst ac;go_enter func37,ntmps37
  go_wp2
  exact G2 (v:= jQ #[Y (Q ⟨R (Z w)+1+1+1,0,U⟩) 1 1,V X 0]) P1 rfl ⟨Q ⟨R (Z w)+1+1+1,0,U⟩,1,rfl,CU _ _ Ox [1] _ _ Ob,λl e=>(by cases e;show R (Z w)<=R (Z w)+1+1+1;omega),h.alloc h.size _⟩
 by_cases ad:op=25
 .subst ad;go_enter func37,ntmps37
  go_wp2
  exact G2 (v:= jQ #[Y (Q ⟨R (Z w)+1+1+1,0,U⟩) 1 1,V X 0]) P1 rfl ⟨Q ⟨R (Z w)+1+1+1,0,U⟩,1,rfl,CU _ _ Ox [4] _ _ Ob,λl e=>(by cases e;show R (Z w)<=R (Z w)+1+1+1;omega),h.alloc h.size _⟩
 by_cases t:op=22\/op=24
 .have f:=Ab (show DB (P.map Vl.aC) ⟨op,(k:Int)⟩ sl=([],0) by obtain rfl|rfl:=t<;>rfl);obtain rfl|rfl:=t
  all_goals
   go_enter func37,ntmps37
   go_wp2
   exact G2 (v:= jQ #[Y U 0 0,V X 0]) P1 rfl ⟨U,0,by rw[Aa f];rfl,by rw[Aa f];exact s _,λl e=>O5,h⟩
 .have f:=Ab (show DB (P.map Vl.aC) ⟨op,(k:Int)⟩ sl=rwV (op+3) by
   unfold DB;rw[H7 (Oa:¬ op=1),H7 (Oa:¬ op=2),H7 (Oa:¬ op=3),H7 (Oa:¬ op=4),H7 (Oa:¬ (op=22\/op=24)),H7 (Oa:¬ op=23),H7 (Oa:¬ op=25)])
  have E:=Ab λo=>Af2 (op+3) o Oa Oa;generalize rwV (op+3)=r at f E;have f1:(op==1)=jE:=zA.2 e1;have f2:(op==2)=jE:=zA.2 e2;have ap:(op==3)=jE:=zA.2 e3;have aq:(op==4)=jE:=zA.2 e4;have ar:(op==22)=jE:=zA.2 λe=>t<|.inl e;have au:(op==24)=jE:=zA.2 λe=>t<|.inr e;have av:(op==23)=jE:=zA.2 ac;have aw:(op==25)=jE:=zA.2 ad;have ax:wrap64 (wrap64 (11+op)-8)=op+3:=by unfold wrap64;omega
  have w2:wrap64 (wrap64 (8+op)-5)=op+3:=by unfold wrap64;omega
  by_cases e7:op<=7
  .go_enter func37,ntmps37
   go_wp2_with fail
   rw[(Oa:8+op-5=op+3)]
   with_reducible refine(Aa E _).mono ?_
   rintro e ab ⟨x,c4,rfl,F,G,H⟩;go_wp2
   exact G2 (v:= jQ #[Y x (T r.1) c4,V X r.2]) P1 rfl ⟨x,c4,by rw[Aa f],by rw[Aa f];exact F,λl e=>zB h.size<|G l e,(h.trans<|H.mono h.size)⟩
  .go_enter func37,ntmps37
   go_wp2_with fail
   rw[(Oa:11+op-8=op+3)]
   with_reducible refine(Aa E _).mono ?_
   rintro e ab ⟨x,c4,rfl,F,G,H⟩;go_wp2
   exact G2 (v:= jQ #[Y x (T r.1) c4,V X r.2]) P1 rfl ⟨x,c4,by rw[Aa f],by rw[Aa f];exact F,λl e=>zB h.size<|G l e,(h.trans<|H.mono h.size)⟩
end
end Go.Proofs.YtnjpihpohilnjaaGreatDoor
