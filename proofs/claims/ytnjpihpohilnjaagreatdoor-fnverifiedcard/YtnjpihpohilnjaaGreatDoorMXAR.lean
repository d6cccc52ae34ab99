import Derived.Test.YtnjpihpohilnjaaGreatDoorBTF
import Derived.Test.YtnjpihpohilnjaaGreatDoorMXAM
import Derived.Test.YtnjpihpohilnjaaGreatDoorMXAJ
import Derived.Test.YtnjpihpohilnjaaGreatDoorMXAO
open List renaming length->T,length->ja
open Option renaming none->U,some->Q,some->jg
open Array renaming size->R,size->jh
open Go renaming World->jB,Value->jF,Addr->jG
open Bool renaming true->jD,false->jE
namespace Go.Proofs.YtnjpihpohilnjaaGreatDoor
open Proofs.Tryz
open Value renaming int->V,slice->Y,string->jC,agg->jM,pointer->jP
open IntKind renaming i64->X,i64->jd
open World renaming heap->Z,cell?->jI,setCell->jJ,alloc->jK,ownsRow->jO,drew->jR
open Addr renaming mk->jA
open Obj renaming cells->jH
open Proofs.Tryz renaming prog->jZ
open Go.RowKit
set_option linter.unusedVariables false
set_option maxRecDepth 100000
set_option maxHeartbeats 12800000
variable{ty:Int}{I:M2}{st:L2}{N:L6}{L:L9}{h:L7}{P:M1}{i q lo' cx:Nat}{x y:L3}{b d:jB}
theorem Tg (hi:i<T st)(s:Gs):(st.drop i).foldl IM s=(st.drop<|i+1).foldl IM (IM s<|st.getD i 0):=by grind [zM,z4]
section
variable{w w':jB}{B Rr gb:Nat}{a:L3}{n c:Nat}{zs:L2}{k:Nat}{s:Gs}{pv iv sv lv:jF}{nv:L7}
theorem G5.dR (h:G5 w B Rr gb a n c zs k s pv iv sv lv nv)(hs:T s.st<=100000){cx:Nat}(e:sv=Y x (T s.st) cx):AP w x (T s.st) cx s.st:=by
 obtain⟨⟨i,c',b,-,hc⟩,-⟩:=h.int;rw[e]at b;injection b with e1 _ e2;subst e1 e2;refine⟨rfl,Oa,λj d=>?_⟩;obtain⟨g,f,hg⟩:=hc j d;have l:=(h.st.lt g<|by rw[e,f];rfl).2
 grind
theorem AbB (d:Nat)(hd:d<=2)(ar:Adv B Rr gb a n c zs k d):BrC B Rr gb a n c zs k<|d+1:=by
 intro s w h bd ab;have bf:=Ab ar;have L:=Ab ab;obtain⟨pv,iv,sv,lv,nv,h⟩:=h;obtain⟨⟨x,cx,rfl,bg,au⟩,-⟩:=h.int;obtain⟨g,rfl,-⟩:=au 0 Oa;obtain⟨t,ht⟩:∃t,T s.st=t+1:=⟨T s.st-1,Oa⟩
 have c4:jI w (jA gb 4 U)=Q (Y (Q<|jA g 0 U) (T s.st) cx):=h.row.cell 4;have bh:=h.row.frozen 4;have bV:T s.st<=80000:=H2 ab.st;have bi:IntKind.i64.wrap ((T s.st:Int)-1)=(t:Int):=by rw[ht];simp[IntKind.wrap,IntKind.bits,IntKind.signed];omega
 have bj: ¬ (cx=0):=Oa;have bk:(t:Int)<=(cx:Int):=Oa;have bl:(0 :Int)<=(t:Int):=Oa;have bW:t<=80000:=Oa;have y:=Ab ht;have bm:=Ab h;clear au bg ht bd ab ar h;go_enter func109,ntmps109
 go_wp2_with fail
 go_region
 all_goals
  obtain⟨z,b2⟩:=(Aa bm).pop 1 t<|H2<|Aa y;replace z:=z.below BRN.drew;replace b2:=b2.drew;generalize jR (jJ w (jA gb 4 U) (Y (Q (jA g 0 U)) t cx))=w2 at z b2|-;clear c4 bh bi bj bk bl;have M:T (Mk s 1).st=t:=by show T (s.st.take<|T s.st-1)=t;have:=Aa y;rw[zg];omega
  have ac:=z.dR Oa (cx:=cx) (x:=Q<|jA g 0 U) (by rw[M]);rw[M]at ac;have c4:jI w2 (jA gb 4 U)=Q (Y (Q<|jA g 0 U) t cx):=z.row.cell 4;have bn:=Ab M;clear M;go_wp2_with (at_builtin;refine Gc rfl _ _ rfl (R<|Z w2) (Y U 0 0) 0 [] rfl H3 (Q<|jA g 0 U) t cx (Mk s 1).st rfl ac Oa NLN ?_)
  intro av bo aw b3;obtain⟨bX,c3,rfl,-⟩:=Ae aw;have h3:=z.below b3;have ax:=b2.trans<|.of b3;clear aw ac z b2 b3 c4;obtain⟨xi,ci,rfl,-⟩:=Ae h3.aK;have p:jI bo (jA gb 3 U)=Q (Y xi (T s.I) ci):=h3.row.cell 3;go_wp2_with fail
  have ay:=(Aa L).aK;have az:=(Aa L).aI;have aA:=(Aa L).st;rw[mI]at ay az;rw[Nat.pow_succ]at aA;have bp: 1<=2 ^ d:=Nat.one_le_two_pow;refine(Ix ⟨_,_,_,_,_,h3⟩ 23 0 (Oa:T s.I<=100000)).mono ?_;rintro r br ⟨rfl,N,A,aB,b4⟩;have aC:=Ab<|ax.trans b4;clear h3 ax b4 p;have e4:((2-d:Nat):Int)+1=((3-d:Nat):Int):=Oa;go_wp2_with fail
  have ad:T N.st=t:=by rw[A];exact Aa bn
  refine(Aa bf 2 N br Oa aB ⟨by rw[A];show T (s.I++[_])+_<=_;rw[zC,z1];omega,by rw[A];show T s.P+_<=_;omega,by rw[ad];have:=Aa y;omega,by rw[A];exact(Aa L).sl⟩).mono ?_;rintro r bY ⟨rfl,bs,L5,aD,b5⟩;have C:=Mh.bQ (λt bt=>Ie.bQ zs k d _ t bt) 2 L5 NLN;have g1:=C.low;have g2:=C.st;have g3:=C.aK;have bu:=C.inl;have bv:=C.aI;rw[ad]at g1 g2 L5;have bw:T N.I=T s.I+1:=by rw[A];show T (s.I++[_])=_;rw[zC];rfl
  have bx:T N.P=T s.P:=by rw[A];rfl
  have bz:=Ab L5;have aE:=Ab<|(Aa aC).trans b5;clear C L5 aB b5 aC e4;go_wp2_with fail
  refine(Aam aD Oa Oa<|H2<|Aa y).mono ?_;rintro r G ⟨rfl,b,ae,⟨bZ,b0,b1,b6,b7,D⟩,aF⟩;obtain⟨bA,bB,av,-⟩:=ae.bQ;have bC:=Ab ae;have aG:=Ab<|(Aa aE).trans aF;clear ae aF aE aD;obtain⟨⟨b8,aH,rfl,-,aJ⟩,-⟩:=D.int;obtain⟨aL,aM,rfl,-⟩:=Ae D.aK;have bD:=Ab (Oa:T s.I<T b.I);have H:=Ab (show T b.I+(T b.st-t)<=85000/\T b.P+(T b.st-t)<=85000/\t<T b.st/\T b.st<=85000 by have:=Aa y;omega);obtain⟨q,hq⟩:∃q,T b.st=q+1:=⟨T b.st-1,Oa⟩
  have E:=Ab hq;obtain⟨aN,rfl,bE⟩:=aJ q Oa;have b9:IntKind.i64.wrap ((T b.st:Int)-1)=(q:Int):=by rw[hq];simp[IntKind.wrap,IntKind.bits,IntKind.signed];have:=(Aa H);omega
  have cb:(q:Int)<(T b.st:Int):=Oa;have c4:jI G (jA gb 4 U)=Q (Y (Q<|jA aN 0 U) (T b.st) aH):=D.row.cell 4;have p:jI G (jA gb 3 U)=Q (Y aL (T b.I) aM):=D.row.cell 3;have cc:T b.st<=85000:=(Aa H).2.2.2;have cd:T b.I<=85000:=H2<|(Aa H).1;generalize aO:b.st.getD q 0=ty at bE;have bF:=Ab aO;clear aJ aO hq g1 g2 g3 bu bv bA bB av ay az aA bp bw bx ad;go_wp2_with fail
  go_region
  have af:=D.below BRN.drew;have ag:=Ab (Aa aG).drew;have c4:jI (jR G) (jA gb 4 U)=Q (Y (Q<|jA aN 0 U) (T b.st) aH):=c4;have p:jI (jR G) (jA gb 3 U)=Q (Y aL (T b.I) aM):=p;generalize jR G=ce at af ag c4 p|-;clear D aG;go_wp2_with fail
  refine(Ix ⟨_,_,_,_,_,af⟩ 22 0 Oa).mono ?_;rintro r aP ⟨rfl,m,ah,⟨cf,cg,ch,cj,ck,J⟩,aQ⟩;obtain⟨cl,bG,rfl,aR⟩:=Ae J.aK;have aS:T m.I=T b.I+1:=by rw[ah];show T (b.I++[_])=_;rw[zC];rfl
  obtain⟨aT,rfl,-,aU⟩:=aR Oa;have aV:T s.I<T m.I:=H2<|Aa bD;have l1:=aU _ _ (Jn m.I (T s.I) aV).2;have bH:=J.aK.frozenAt<|T s.I*2+1;have p:jI aP (jA gb 3 U)=Q (Y (Q<|jA aT 0 U) (T m.I) bG):=J.row.cell 3;have aW:(T s.I:Int)<(T m.I:Int):=Oa;have aX:=Ab aS;have ai:=Ab ah;have aZ:=Ab<|(Aa ag).trans aQ;clear aU aR af ag aQ c4 ah aS;go_wp2_with fail
  go_region
  all_goals
   obtain⟨K,a0⟩:=J.aY (T s.I) aV (T m.I:Int);replace K:=K.below BRN.drew;have a6:=Ab ((Aa aZ).trans a0).drew;generalize jR (jJ aP ⟨aT,T s.I*2+1,U⟩ (V X (T m.I:Int)))=cm at K a6|-;clear l1 bH p J a0 aZ aW;obtain⟨j,F⟩:∃j,j=PT m (T s.I) (T m.I:Int):=⟨_,rfl⟩
   rw[<-F]at K;have O:=Ab (show(b.st.drop t).foldl IM j=(b.st.drop t).foldl IM j/\j.st=b.st/\T j.I+(T b.st-t)<=90000/\T j.P+(T b.st-t)<=90000/\T j.I=T b.I+1 by
    have:=Aa H;have e1:T j.I=T b.I+1:=by rw[F];show T (m.I.modify _ _)=_;rw[List.length_modify];exact Aa aX
    have e2:j.P=b.P:=by rw[F,Aa ai];rfl
    exact⟨rfl,by rw[F,Aa ai];rfl,Oa,by rw[e2];omega,e1⟩)
   have bI:=Ab F;clear F;go_wp2_with fail
   go_loopw [9] (λaj wr=>∃ (i:Nat) (l:Gs),t<=i/\i<=q/\aj=V X i/\Hid ((b.st.drop i).foldl IM l=(b.st.drop t).foldl IM j/\l.st=b.st/\T l.I+(T b.st-i)<=90000/\T l.P+(T b.st-i)<=90000/\T b.I+1<=T l.I)/\Hid (GS B Rr gb a n c zs k l wr)/\Hid (DC Rr gb w wr)) (λaj _=>q-(RowKit.intOf aj).toNat)
   case atStart=>exact⟨t,j,NLN,by have:=(Aa H).2.2.1;have:=Aa E;omega,rfl,Ab ⟨rfl,(Aa O).2.1,(Aa O).2.2.1,(Aa O).2.2.2.1,zt (Aa O).2.2.2.2.symm⟩,Ab ⟨_,_,_,_,_,K⟩,a6⟩
   case round=>
    obtain⟨i,l,cn,co,rfl,u,bJ,a7⟩:=hrel;obtain⟨cp,cq,cr,cs,ct,hh⟩:=Aa bJ;have S:=(Aa u).2.1;by_cases ak:i<q
    .have cu:(i:Int)<(q:Int):=Oa;obtain⟨⟨cv,ca,rfl,-,a8⟩,-⟩:=hh.int;obtain⟨ga,rfl,ci⟩:=a8 i (by rw[S];have:=Aa E;omega);have c4:jI wr (jA gb 4 U)=Q (Y (Q<|jA ga 0 U) (T l.st) ca):=hh.row.cell 4;have cw:(i:Int)<(T l.st:Int):=by rw[S];have:=Aa E;omega
     have al:=Ab ak;clear a8 S ak;generalize hv:l.st.getD i 0=v at ci;have bK:=Ab hv;clear hv;go_wp2_with fail
     refine(PW ⟨_,_,_,_,_,hh⟩ v (H2<|(Aa u).2.2.2.1)<|H2<|(Aa u).2.2.1).mono ?_;rintro r a9 ⟨rfl,f,o,bL,W⟩;have ao:=Ab (show(b.st.drop<|i+1).foldl IM f=(b.st.drop t).foldl IM j/\f.st=b.st/\T f.I+(T b.st-(i+1))<=90000/\T f.P+(T b.st-(i+1))<=90000/\T b.I+1<=T f.I by
      obtain⟨a1,a2,a3,a4,a5⟩:=Aa u;have ap:i<T b.st:=by have:=Aa E;have:=Aa al;omega
      refine⟨by rw[<-a1,Tg ap,o,<-Aa bK,a2],by rw[o];exact a2,?_,?_,?_⟩
      .rw[o];show T (l.I++[_])+_<=_;rw[zC,z1];omega
      .rw[o];show T (l.P++[_])+_<=_;rw[zC,z1];omega
      .rw[o];show _<=T (l.I++[_]);rw[zC,z1];omega)
     have aq:=Ab<|(Aa a7).trans W;clear o;go_wp2
     go_roundw
     case rel=>exact⟨i+1,f,Oa,Aa al,O1,ao,Ab bL,aq⟩
     case measure=>have:=Aa al;simp[RowKit.intOf];omega
    .have e:i=q:=Oa;subst e;clear S ak;go_wp2_with fail
     refine(PW ⟨_,_,_,_,_,hh⟩ ty (H2<|(Aa u).2.2.2.1)<|H2<|(Aa u).2.2.1).mono ?_;rintro r a9 ⟨rfl,f,o,⟨cy,cz,cA,cB,cC,aa⟩,W⟩;have ao:=Ab (show f=(b.st.drop t).foldl IM j by
      obtain⟨a1,a2,-⟩:=Aa u;have ap:i<T b.st:=H2<|Aa E;rw[<-a1,Tg ap,Aa bF,<-o,List.drop_eq_nil_of_le<|H2<|Aa E];rfl)
     have bM:T f.I=T l.I+1:=by rw[o];show T (l.I++[_])=_;rw[zC];rfl
     have bN:=(Aa u).2.2;obtain⟨cD,bO,rfl,ba⟩:=Ae aa.aK;obtain⟨bP,rfl,-,bb⟩:=ba Oa;have bc:T b.I<T f.I:=Oa;have l1:=bb _ _ (Jn f.I (T b.I) bc).2;have bR:=aa.aK.frozenAt<|T b.I*2+1;have p:jI a9 (jA gb 3 U)=Q (Y (Q<|jA bP 0 U) (T f.I) bO):=aa.row.cell 3;have aW:(T b.I:Int)<(T f.I:Int):=Oa;have aq:=Ab<|(Aa a7).trans W;clear o bM bN ba bb W hh;go_wp2_with fail
     go_region
     all_goals
      obtain⟨bS,bT⟩:=aa.aY (T b.I) bc (T f.I:Int);have bU:=Ab (show PT f (T b.I) (T f.I:Int)=brF (T s.I) (T s.st-1) b by
       unfold brF;rw[show T s.st-1=t by have:=Aa y;omega,show PT (ET b 22 0) (T s.I) ((T b.I:Int)+1)=j by rw[Aa bI,Aa aX,Aa ai];rfl,<-Aa ao])
      clear l1 bR p;go_wp2_with fail
      go_end0
      refine⟨rfl,_,⟨bs,b,?_,Aa bC,(Aa bU)⟩,⟨_,_,_,_,_,bS.below BRN.drew⟩,((Aa aq).trans bT).drew⟩;rw[show T s.st-1=t by have:=Aa y;omega,<-A];exact Aa bz
end
def WiX (zs:L2) (p:Nat) (P:M1) (k:Int) (I:M2):Prop:=
 ∃s,Mh (Ie zs ((nx zs p).1 % 4).toNat 3) zs ((nx zs p).1 % 4).toNat 0 0 40 ⟨(nx zs p).2,[],[],[],List.replicate ((nx zs p).1 % 4).toNat 0⟩ s/\k=(nx zs p).1 % 4/\P=s.P/\
  I=s.I++(if 0<(nx zs s.p).1 % 3 then [⟨2,4+(nx zs (nx zs s.p).2).1 % 2⟩,⟨25,0⟩]else [⟨24,0⟩])
section
variable{w w':jB}{B Rr gb:Nat}{a:L3}{n c:Nat}{zs:L2}{k:Nat}{s:Gs}{pv iv sv lv:jF}{nv:L7}
theorem YD (z:jF)(n:Nat):madeCells #[z] n=(List.replicate n z).toArray:=by
 apply Array.ext
 .rw[size_madeCells];simp
 .intro i a b;simp[madeCells,Nat.mod_one]
theorem AbC (S:Nat)(h:S<=600)(w':jB):(Instr.makeSlice 44 (V X (S:Int))<|V X (S:Int)).run jZ w'= .ok (Y (Q ⟨R<|Z w',0,U⟩) S S) (jK w'<|jH (List.replicate S<|V X 0).toArray 3):=by
 obtain⟨i,hi,b,a,c⟩:=info_parts If;have q:=run_makeSlice (P:=jZ) w' 44 3 i _ underlying44 hi b X X (S:Int) (S:Int) Oa (zp _) (by rw[a,zS];omega) (by rw[c];omega) Oa;rw[zS,a,Nat.mul_one]at q;rw[<-YD];exact q
theorem VM (b:k<=3):∀d,d<=3->Adv B Rr gb a n c zs k d
 |0,_=>Aao b 0 Oa λh=>H9 h Oa
 |d+1,h=>Aao b (d+1) h λ_=>AbB d Oa<|VM b d Oa
theorem Aiy {p:Nat}(ae:JU w Rr a n c zs p):Calls jZ 32 #[jP<|Q<|jA Rr 0 U] w λr w'=>Adx 90000 (WiX zs p) w r w'/\AU Rr (Rr+1) w w':=by
 have m:=ae.lt;have D:=(AE w<|jH #[Y U 0 0,V X 0,Y U 0 0] 26).alloc Ox<|jH #[jP<|Q<|jA Rr 0 U,Y U 0 0,V X 0,Y U 0 0,Y U 0 0,Y U 0 0] 137;have h0:=ae.aA D m;go_enter func32,ntmps32
 go_wp2_with fail
 have RO:=(Ag.new w #[Y U 0 0,V X 0,Y U 0 0] 26).alloc<|jH #[jP<|Q<|jA Rr 0 U,Y U 0 0,V X 0,Y U 0 0,Y U 0 0,Y U 0 0] 137;have g:=Ag.new (jK w<|jH #[Y U 0 0,V X 0,Y U 0 0] 26) #[jP<|Q<|jA Rr 0 U,Y U 0 0,V X 0,Y U 0 0,Y U 0 0,Y U 0 0] 137;simp only[G0]at g;generalize jK (jK w (jH #[Y U 0 0,V X 0,Y U 0 0] 26)) (jH #[jP (Q (jA Rr 0 U)),Y U 0 0,V X 0,Y U 0 0,Y U 0 0,Y U 0 0] 137)=aw at D h0 RO g|-;obtain⟨b,J⟩:∃b,b=R (Z w):=⟨_,rfl⟩
 rw[<-J]at RO g m|-;have K:=Ab J;clear J;refine(BN Rr a n c zs p aw h0).mono ?_;rintro r d ⟨x,L,rfl,af,aY,aZ,ag,E⟩;replace RO:=RO.cD E m;replace g:=g.cD E Oa;obtain⟨k,ah⟩:∃k:Nat,x % 4=(k:Int):=⟨(x % 4).toNat,Oa⟩
 have ax:k<=3:=Oa;have f2:=g.frozen 2;have ay:=g.frozen 5;have g2:jI d ⟨b+1,2,U⟩=Q (V X 0):=g.cell 2;have az:jI d ⟨b+1,5,U⟩=Q (Y U 0 0):=g.cell 5;have ai:=Ab ah;have mk:=λw'=>AbC k Oa w';have aB:=g.lt;go_wp2_with fail
 have M:GS (b+2) Rr (b+1) a n c zs k ⟨L,[],[],[],List.replicate k 0⟩<|jK (jJ (jJ d ⟨b+1,2,U⟩<|V X k) ⟨b+1,5,U⟩<|Y (Q ⟨R<|Z d,0,U⟩) k k)<|jH (Array.replicate k<|V X 0) 3:=by
  refine⟨Y U 0 0,Y U 0 0,Y U 0 0,Y (Q ⟨R<|Z d,0,U⟩) k k,[],ag.aA (B:=Rr+1) ((((Below.refl (Rr+1) d).setCell (p:=⟨b+1,2,U⟩) (Oa:Rr+1<=b+1) _).setCell (p:=⟨b+1,5,U⟩) (Oa:Rr+1<=b+1) _).alloc O0 _) Oa,((g.set 2 _).set 5 _).alloc _,Dz.nil _ _,H3,H3,?_,(λq hq=>Hj),⟨Oa,Oa,O0⟩,λv hv=>H9 hv Ox⟩;have o:=World.ownsRow_lit (base:=b+2) (e:=3) (size:=1) (jJ (jJ d ⟨b+1,2,U⟩<|V X k) ⟨b+1,5,U⟩<|Y (Q ⟨R<|Z d,0,U⟩) k k) (Array.replicate k<|V X 0) k O0 O2 Ox;simpa[Ak]using o
 have N:DC Rr (b+1) w<|jK (jJ (jJ d ⟨b+1,2,U⟩<|V X k) ⟨b+1,5,U⟩<|Y (Q ⟨R<|Z d,0,U⟩) k k)<|jH (Array.replicate k<|V X 0) 3:=
  (((DC.of D).trans<|.aR E).trans<|.bP (((AN.refl (λq=>q=b+1) d).setCell (p:=⟨b+1,2,U⟩) (λ_=>rfl) _).setCell (p:=⟨b+1,5,U⟩) (λ_=>rfl) _) λq e=>Oa).trans (.of<|BRN.alloc NLN _)
 have F:=((RO.aF (p:=⟨b+1,2,U⟩) (Oa:b≠b+1)<|V X k).aF (p:=⟨b+1,5,U⟩) (Oa:b≠b+1)<|Y (Q ⟨R<|Z d,0,U⟩) k k).alloc<|jH (Array.replicate k<|V X 0) 3;generalize jK (jJ (jJ d ⟨b+1,2,U⟩ (V X k)) ⟨b+1,5,U⟩ (Y (Q ⟨R (Z d),0,U⟩) k k)) (jH (Array.replicate k (V X 0)) 3)=aC at M N F|-;clear g RO f2 ay g2 az mk aB ag E h0 D ah;refine(VM ax 3 NLN 40 _ aC NLN M ⟨(by show 0+40*60<=80000;decide),(by show 0+40*60<=80000;decide),(by show 0+40*8<=80000;decide),Ox⟩).mono ?_;rintro r aj ⟨rfl,h,O,⟨pv,iv,sv,lv,nv,h3⟩,b3⟩;have S:=Mh.bQ (λt aD=>Ie.bQ zs k 3 _ t aD) 40 O<|zE _;have a0:T h.I<=0+40*60:=S.aK;have a1:T h.P<=0+40*60:=S.aI;have aE:=Ab O;have ak:=N.trans b3;have al:Ag aj b _ _:=⟨(b3.block b Oa F.lt Oa).trans F.out⟩
 clear S O b3 N F M;go_wp2_with fail
 refine(BN Rr a n c zs h.p aj h3.rd).mono ?_;rintro r aG ⟨y,W,rfl,aH,a2,a3,ao,G⟩;have aa:=h3.aR ao G;have ap:=ak.trans<|.aR G;have ab:=al.cD G m;clear h3 ak al ao G;by_cases hy: 0<y % 3
 case' pos=>
  go_wp2_with fail
  refine(BN Rr a n c zs W aG aa.rd).mono ?_;rintro r a4 ⟨z,a5,rfl,aJ,a6,a7,aL,ac⟩;have aq:=ab.cD ac m;go_wp2_with fail
  refine(Ix ⟨_,_,_,_,_,(aa.aR aL ac)⟩ 2 (4+z % 2) (Oa:T h.I<=_)).mono ?_;rintro r aM ⟨rfl,a8,rfl,aO,ar⟩;have au:Ag aM b _ _:=⟨(ar.block b Oa aq.lt Oa).trans aq.out⟩
  go_wp2_with fail
  refine(Ix aO 25 0<|by show T (h.I++[_])<=_;rw[zC,z1];omega).mono ?_;rintro r ad ⟨rfl,f,s,⟨aP,aQ,aS,aT,av,i⟩,A⟩;have C:Hid<|f.P=h.P/\f.I=h.I++if 0<y % 3 then [⟨2,4+(nx zs W).1 % 2⟩,⟨25,0⟩]else [⟨24,0⟩]:=Ab (by
   rw[H8 hy,Aa aJ,s];exact⟨rfl,by show(h.I++[_])++[_]=_;rw[zl];rfl⟩)
  have l:=((ap.trans<|.aR ac).trans ar).trans A;have H:Ag ad b _ _:=⟨(A.block b Oa au.lt Oa).trans au.out⟩
  clear s
 case' neg=>
  go_wp2_with fail
  refine(Ix ⟨_,_,_,_,_,aa⟩ 24 0 (Oa:T h.I<=_)).mono ?_;rintro r ad ⟨rfl,f,s,⟨aP,aQ,aS,aT,av,i⟩,A⟩;have C:Hid<|f.P=h.P/\f.I=h.I++if 0<y % 3 then [⟨2,4+(nx zs W).1 % 2⟩,⟨25,0⟩]else [⟨24,0⟩]:=Ab (by
   rw[H7<|H2<|Aa<|Ab hy,s];exact⟨rfl,rfl⟩)
  have l:=ap.trans A;have H:Ag ad b _ _:=⟨(A.block b Oa ab.lt Oa).trans ab.out⟩
  clear s
 all_goals
  obtain⟨xp,cp,rfl,-⟩:=Ae i.aI.aN;obtain⟨xi,ci,rfl,-⟩:=Ae i.aK;obtain⟨c0,c1,c2,c3,c4,c5⟩:=i.cells;have a9:=λj=>H.frozen j;obtain⟨ba,bb,bc⟩:=At H;go_wp2_with fail
  have aU:=((H.set 0<|Y xp (T f.P) cp).set 1<|V X k).set 2<|Y xi (T f.I) ci;obtain⟨aV,L,aW⟩:=At aU;refine G2 (v:= jM #[Y xp (T f.P) cp,V X k,Y xi (T f.I) ci]) (by simp[results,results32,go_sem,aV,L,aW]) rfl ⟨⟨f.P,k,f.I,xp,cp,xi,ci,av,rfl,Ab ?_,?_,?_,by rw[(Aa C).1];omega,?_⟩,?_⟩
  .refine⟨h,?_,?_,(Aa C).1,?_⟩
   .rw[Aa af];dsimp only;rw[Aa ai,zS];exact Aa aE
   .rw[Aa af];exact(Aa ai).symm
   .rw[Aa aH];exact(Aa C).2
  .exact((((i.aI.set (jA b 0 U) _ (Oa:b<b+2)).set (jA b 1 U) _ (Oa:b<b+2)).set (jA b 2 U) _ (Oa:b<b+2)).low (lo':=R<|Z w) Hw).plo i.ok
  .have o:=λ(aX:jB) (j:Nat) (u:jF) (o:jO aX (b+2) 80 2 (Y xi (T f.I) ci) (T f.I)<|Cr f.I)=>Ah o (jA b j U) u (λq hq=>by have:=(o.lt q hq).1;show q≠b;omega);exact Az (o _ _ _<|o _ _ _<|o _ _ _ i.aK) Hw
  .have:=(Aa C).2;rw[this,zC];split<;>simp<;>omega
  .refine⟨l.os,l.tape,l.output,by simpa using l.size,λq hq hd=>?_⟩;have bd:q<b:=by rw[Aa K];exact hq
   rw[H5 (Oa:q≠b),H5 (Oa:q≠b),H5 (Oa:q≠b)];exact l.block q Oa hq Oa
end
theorem Ig:Cu 0:=⟨Ob,Ob⟩
theorem LC:∀(e:Ex) (b:Nat),Jm e->∀x∈Ek e b,x.op=1->Cu x.num
 |.un i op k,b,h,x,hx,ho=>by
  rw[Ek]at hx;obtain q|q:=zO.1 hx
  .exact LC k b h x q ho
  grind [zR,Ig]
 |.bin i op l r,b,h,x,hx,ho=>by
  rw[Ek]at hx;obtain q|q:=zO.1 hx
  .obtain q|q:=zO.1 q
   .exact LC l b h.1 x q ho
   .exact LC r _ h.2 x q ho
  grind [zR,Ig]
 |.ite i c t e,b,h,x,hx,ho=>by
  rw[Ek]at hx;obtain q|q:=zO.1 hx
  .obtain q|q:=zO.1 q
   .obtain q|q:=zO.1 q
    .exact LC c b h.1 x q ho
    .exact LC t _ h.2.1 x q ho
   .exact LC e _ h.2.2 x q ho
  grind [zR,Ig]
 |.int i n,b,h,x,hx,ho=>by rw[zR.1 hx];exact h
 |.text i s,b,h,x,hx,ho=>D4
 |.bool i s,b,h,x,hx,ho=>D4
 |.set i _ _ _ s,b,h,x,hx,ho=>D4
 |.name i s,b,h,x,hx,ho=>D4
 |.attr i s,b,h,x,hx,ho=>D4
 |.lett i s,b,h,x,hx,ho=>D4
def AdA (N:L6):Prop:=∀x∈N,x.op=1->Cu x.num
theorem VO:∀(a:M0) (b:Nat),GdX a->AdA (Ea b a)
 |[],_,_,x,hx=>Q9
 |y ::a,b,h,x,hx=>by
  have hy:=h y za;have f:∀(o:M3) (c:Nat),gdO o->x∈Pn o c->x.op=1->Cu x.num:=λo c d hq=>by
   cases o with
   |none=>cases hq
   |some e=>exact LC e c (d e rfl).2.1 x hq
  rw[Ea]at hx;obtain q|q:=zO.1 hx
  .grind
  .exact VO a _ (λz hz=>h z<|zi _ hz) x q
theorem PZ.int {T:L2}{o:L6×L9×L2}(h:PZ N L T o)(a:∀x∈N,Cu x.num/\ja x.aB<=1048576):AdA o.1:=by
 obtain⟨_,rfl⟩|⟨hv,Es,b,c,rfl⟩:=h
 .intro x hx;cases hx
 .exact VO _ 0 (Aaq (AdB hv a b c).2.gd)
def okJ:Ex->Prop
 |.int _ n=>Cu n
 |.un _ _ k=>okJ k
 |.bin _ _ l r=>okJ l/\okJ r
 |.ite _ c t e=>okJ c/\okJ t/\okJ e
 |_=>True
theorem AZ.okJ (f:AdA N){e:Ex}(t:AZ N i e):okJ e:=by
 induction t with
 |int h a b=>exact f _ (zn h) a
 |un h a b hi t g=>exact g
 |bin h a b hi t u c d=>exact⟨c,d⟩
 |ite h a b hi t u v c d j=>exact⟨c,d,j⟩
 |_=>exact trivial
def Tm (v:Vl):Prop:=Cu v.num
theorem AbD:∀(e:Ex),okJ e->∀a,∀j∈Ar e a,Tm j.val:=by
 have d:∀{A B:M9},(∀j∈A,Tm j.val)->(∀j∈B,Tm j.val)->∀j∈A++B,Tm j.val:=λo p j m=>(zO.1 m).elim (o j)<|p j;have f:∀{i:I5},Tm i.val->∀j∈ [i],Tm j.val:=λh j m=>by rw[zR.1 m];exact h
 have z:Tm Aw:=Ig;have b1:Tm ⟨1,1,⟨#[]⟩,[]⟩:=⟨by show(-9223372036854775808 :Int)<=1;decide,by show(1 :Int)<=9223372036854775807;decide⟩
 intro e
 induction e with
 |int i n=>exact λh a=>f h
 |bool i b=>exact λh a=>f (by cases b;exact Ig;exact b1)
 |un i op k q=>exact λh a=>d (q h a)<|f z
 |bin i op l r g i2=>
   intro h a;rw[Ar];split
   .exact d (d (d (d (g h.1 _)<|f z)<|i2 h.2 _)<|f z) (f Ig)
   .split
    .exact d (d (d (d (g h.1 _)<|f z)<|f b1)<|f z) (i2 h.2 _)
    .exact d (d (g h.1 _)<|i2 h.2 _) (f z)
 |ite i c t e g i2 s=>exact λh a=>d (d (d (d (g h.1 _)<|f z)<|i2 h.2.1 _)<|f z)<|s h.2.2 _
 |_=>exact λh a=>f Ig
theorem Tn {Es:L8}(g:∀e∈Es,okJ e):∀(L:L9) (k a:Nat),∀j∈CY Es k a L,Tm j.val
 |[],k,a=>λj b=>by cases b
 |s ::L,k,a=>by
  have d:∀{A B:M9},(∀j∈A,Tm j.val)->(∀j∈B,Tm j.val)->∀j∈A++B,Tm j.val:=λm n j b=>(zO.1 b).elim (m j)<|n j;have f:∀{i:I5},Tm i.val->∀j∈ [i],Tm j.val:=λh j b=>by rw[zR.1 b];exact h
  have z:Tm Aw:=Ig;have at_:∀(c:Int) (a:Nat),∀j∈Ar (DH Es c) a,Tm j.val:=λc a=>AbD _ (by
   rw[DH,zj];cases hq:Es[c.toNat]? with
   |none=>exact Ig
   |some e=>exact g e<|zn hq) a
  have l:∀a,∀j∈FE Es s.aG a,Tm j.val:=λa=>by
   rw[FE];split
   .exact f z
   .exact d (at_ _ _) (f z)
  rw[CY];refine d ?_<|Tn g L _ _;rw[LD];split
  .exact d (at_ _ _) (f z)
  .split
   .exact d (d (at_ _ _)<|f z) (l _)
   .exact l _
theorem Lc.num {T:L2}{c:De}(h:Lc N L T c)(a:AdA N):∀v∈c.aI,Tm v:=by
 obtain⟨_,rfl⟩|⟨hv,Es,f,b,rfl⟩:=h
 .exact λv hv=>H9 hv Ox
 .rw[P6];exact Mn _ _ (Tn (λe he=>by obtain⟨j,d,rfl⟩:=zw he;exact(b j d).okJ a) L 0 0) λv hv=>H9 hv Ox
theorem Ak3 (x:Int):Cu<|IntKind.i64.wrap x:=by
 constructor<;>simp[IntKind.wrap,IntKind.bits,IntKind.signed]<;>omega
theorem Agv (zs:L2)(hz:∀p,0<=(nx zs p).1/\(nx zs p).1<=255)(p:Nat):Cu (SF zs p).1:=by
 have wr:∀(k p:Nat) (v:Int),Cu v->Cu (AbE zs k p v).1:=λk=>by
  induction k with
  |zero=>exact λp v h=>h
  |succ k d=>exact λp v h=>d _ _<|Ak3 _
 have a:=hz p;have b:=hz (nx zs p).2;have c:=hz (nx zs (nx zs p).2).2;unfold SF Qa;split
 .exact⟨P2,P2⟩
 split
 .exact⟨P2,P2⟩
 split
 .exact⟨P2,P2⟩
 split
 .exact⟨P2,P2⟩
 split
 .exact⟨P2,P2⟩
 split
 .exact wr 8 _ 0 Ig
 split
 .exact⟨P2,P2⟩
 .exact⟨P2,P2⟩
def Jo (P:M1):Prop:=∀v∈P,Tm v
section
variable{zs:L2} (hz:∀p, 0 <= (nx zs p).1 /\ (nx zs p).1 <= 255)
include hz
theorem VaX.num {s a:Gs}(h:VaX zs s a)(hs:Jo s.P):Jo a.P:=by
 obtain⟨v,q,hv,rfl⟩:=h;intro u hu;obtain e|e:=zO.1 hu
 .exact hs u e
 .rw[zR.1 e];unfold LA at hv;split at hv
  .rw[hv.1];exact⟨(Oa:_<=(nx zs s.p).1 / 4 % 2),by show(nx zs s.p).1 / 4 % 2<=_;omega⟩
  split at hv
  .rw[hv.1];exact Agv zs hz _
  split at hv
  .rw[hv.1];exact Ig
  .rw[hv.1];exact Ig
omit hz in
theorem VP:∀(l:L2) (s:Gs),Jo s.P->Jo (l.foldl IM s).P
 |[],s,h=>h
 |x ::l,s,h=>VP l (IM s x) λv hv=>by
  obtain e|e:=zO.1 hv
  .exact h v e
  .rw[zR.1 e];exact Ig
theorem Mh.num {f:Mv}(g:∀s c,f s c->Jo s.P->Jo c.P){k low Cz:Nat} :∀(n:Nat) {s c:Gs},Mh f zs k low Cz n s c->Jo s.P->Jo c.P
 |0,s,c,h,hs=>by obtain rfl:c=s:=h;exact hs
 |n+1,s,c,h,hs=>by
  unfold Mh at h;split at h
  .obtain⟨s1,a,b⟩:=h;refine Mh.num g n b ?_;have d:Jo (YB zs s).P:=hs;generalize YB zs s=t at a d;unfold GC at a;split at a
   .subst a;exact d
   split at a
   .split at a
    .subst a;exact d
    .subst a;exact d
   split at a
   .subst a;exact d
   split at a
   .subst a;exact d
   split at a
   .exact g _ _ a d
   .exact VaX.num hz a d
  .subst h;exact hs
theorem Ie.num (k:Nat):∀(d:Nat) (s c:Gs),Ie zs k d s c->Jo s.P->Jo c.P
 |0,_,_,h,_=>h.elim
 |d+1,s,c,h,hs=>by
  obtain⟨s1,s2,a,b,rfl⟩:=h;have hv:=VaX.num hz b<|Mh.num hz (Ie.num k d) 2 a hs;exact VP _ (PT (ET s2 22 0) (T s.I)<|T s2.I+1) hv
theorem WiX.num {p:Nat}{P:M1}{k:Int}{I:M2}(h:WiX zs p P k I):Jo P:=by
 obtain⟨s,a,-,rfl,-⟩:=h;exact Mh.num hz (Ie.num hz _ 3) 40 a λv hv=>by cases hv
end
theorem AdC {m:Nat}{s:Int}(h:Pm m P s I):Jo P:=by
 unfold Pm at h;split at h
 .rw[h.1];intro v hv;cases hv
 split at h
 .rw[h.1];intro v hv;rw[(List.mem_replicate.1 hv).2];exact Ig
 .rw[h.1];intro v hv;cases hv
theorem AdD {zs:L2}{p:Nat}{b:M1}{s d:Int}{I':M2}(h:(b,d,I')=JZ zs p P s I)(a:Jo P):Jo b:=by
 have e:b=(JZ zs p P s I).1:=by rw[<-h]
 rw[e];unfold JZ;dsimp only;split
 .exact a
 split
 .exact a
 dsimp only;split
 .intro v hv;obtain⟨j,c,rfl⟩:=zw hv;rw[List.getElem_modify];have q:Tm<|P[j]'(by simpa using c):=a _ (zI<|by simpa using c);split
  .exact q
  .exact q
 .exact a
def Yt (zs:L2) (P:M1) (s:Int) (I:M2):Prop:=
 if (nx zs 0).1 % 16=15 then P=[]/\s=0/\I=List.replicate (100+(nx zs 0).1 / 16 % 2).toNat ⟨2,4⟩++[⟨25,0⟩]
 else if (nx zs 0).1 % 2=0 then ∃t o k,TyX zs (nx zs 0).2 t/\(if (nx zs 0).1 % 4=0 then PZ t.1 t.2.1 t.2.2 o else o=t)/\Lc o.1 o.2.1 o.2.2 k/\P=k.aI/\s=k.aE/\I=k.aK
 else WiX zs (nx zs 0).2 P s I
def YF (zs:L2) (P:M1) (s:Int) (I:M2):Prop:=
 if 250<=(nx zs 0).1 then Pm ((nx zs 0).1-250).toNat P s I
 else ∃P0 s0 I0,Yt zs P0 s0 I0/\(if (nx zs 0).1 % 5=4 then (P,s,I)=JZ zs (T zs / 2) P0 s0 I0 else P=P0/\s=s0/\I=I0)
theorem YG {w:jB}{R p:Nat}{a:L3}{n c:Nat}{zs:L2}(g:Ag d R #[Y a n c,V X (p:Int)] 64)(h:DI w a n c zs)(i:Ai w d)(s:jh (Z w)<=R)(k:p<=n)(l:n<=1048576):JU d R a n c zs p:=
 ⟨g,h.len,k,l,λj m=>by
  obtain⟨b,f,o,q,hc,r⟩:=h.cells j m;exact⟨b,f,o,Oa,by rw[<-hc];exact i.cell (p:=⟨b,f+j,U⟩) q,r⟩⟩
def CdA (X:M1->Int->M2->Prop) (r:Ending) (w':jB):Prop:=
 ∃P s I x cx y cy nv,r= .returned (jM #[Y x (T P) cx,V jd s,Y y (T I) cy])/\Hid (X P s I)/\Th w' 0 (Y x (T P) cx) P nv/\jO w' 0 80 2 (Y y (T I) cy) (T I) (Cr I)/\T P<=100000/\T I<=100000/\Jo P
theorem Agy {a lo:Nat}{i j k:jF}{s:Int}{c:Nat}{X:M1->Int->M2->Prop}(f:Ag b a #[i,j,k] 26)(l:Th b lo (Y x (T P) cx) P h)(g:jO b lo' 80 2 (Y y (T I) c) (T I)<|Cr I)(m:T P<=100000)(n:T I<=100000)(o:Jo P)(u:X P s I)(v:d=jJ (jJ (jJ b (jA a 0 U)<|Y x (T P) cx) (jA a 1 U)<|V jd s) (jA a 2 U) (Y y (T I) c)):
  (jI d (jA a 0 U)=Q (Y x (T P) cx)/\jI d (jA a 1 U)=Q (V jd s)/\jI d (jA a 2 U)=Q (Y y (T I) c))/\CdA X (.returned<|jM #[Y x (T P) cx,V jd s,Y y (T I) c]) d:=by
 subst v;have K:AN (λq=>q=a) b<|jJ (jJ (jJ b (jA a 0 U)<|Y x (T P) cx) (jA a 1 U)<|V jd s) (jA a 2 U)<|Y y (T I) c:=(((AN.refl (λq=>q=a) b).setCell (p:=(jA a 0 U)) (λ_=>rfl) _).setCell (p:=(jA a 1 U)) (λ_=>rfl) _).setCell (p:=(jA a 2 U)) (λ_=>rfl) _;exact⟨At<|((f.set 0 _).set 1 _).set 2 _,P,s,I,x,cx,y,c,h,rfl,Ab u,(l.aM λq w t r ht=>K.block q r.lt λe=>Bm r f (by obtain rfl|rfl:=ht<;>decide) e).low (zE _),Az (Ad g λq hq=>K.block q (g.lt q hq).2 λe=>Ac f g Ob Hb)<|zE _,m,n,o⟩
theorem NmS.nmq {w:jB}{a:L3}(h:NmS w a N)(d:∀x∈N,T x.aB<=1048576):NmQ w a N:=λj c b f g an nn cn hc=>⟨d _<|zI c,h j c b f g an nn cn hc⟩
theorem NmQ.nmz {w:jB}{a:L3}(h:NmQ w a N):NmZ w a N:=λj c b d f an nn cn hc=>(h j c b d f an nn cn hc).2.1
theorem Aj7 {w:jB}{a:L3}{n c:Nat}{zs:L2}(h:DI w a n c zs)(p:Nat): 0<=(nx zs p).1/\(nx zs p).1<=255:=by
 unfold nx;split
 .rename_i b;obtain⟨_,_,_,_,_,q⟩:=h.cells p (by rw[h.len];exact b);exact q
 .exact⟨zp 0,by show(0 :Int)<=255;decide⟩
def Aj8 (zs:L2) (w:jB) (ob:Nat) (wx:jB):Prop:=
 ∃P s I x cx y cy nv lo,Ag wx ob #[Y x (T P) cx,V X s,Y y (T I) cy] 26/\Hid (Yt zs P s I)/\Th wx lo (Y x (T P) cx) P nv/\jO wx lo 80 2 (Y y (T I) cy) (T I) (Cr I)/\T P<=100000/\T I<=90000/\Jo P/\Ag wx (R<|Z w) #[Y U 0 0,V X 0,Y U 0 0] 26/\Ai w wx
def AiD (zs:L2) (w:jB) (ob tb:Nat) (wx:jB):Prop:=
 ∃ (o:L6×L9×L2) (x:L3) (n c:Nat) (y:L3) (m d:Nat) (z:L3) (k e:Nat),Ag wx tb #[Y x n c,Y y m d,Y z k e] 70/\(IN wx x n c o.1/\NmZ wx x o.1/\Po wx y m d o.2.1/\AP wx z k e o.2.2)/\Ag wx ob #[Y U 0 0,V X 0,Y U 0 0] 26/\Ag wx (R<|Z w) #[Y U 0 0,V X 0,Y U 0 0] 26/\Ai w wx/\Hid (AdA o.1)/\Hid (∀k:De,Lc o.1 o.2.1 o.2.2 k->Yt zs k.aI k.aE k.aK)
theorem UG {zs:L2}{w b:jB}{a lo:Nat}{s:Int}{cx c:Nat}{g:L7}{i j k:jF}(l:Yt zs P s I)(d:Ag b a #[i,j,k] 26)(m:Th b lo (Y x (T P) cx) P g)(f:jO b lo 80 2 (Y y (T I) c) (T I)<|Cr I)(n:T P<=100000)(o:T I<=90000)(u:Jo P)(h:Ag b (R<|Z w) #[Y U 0 0,V X 0,Y U 0 0] 26)(v:Ai w b)(z:R (Z w)<a):
  Aj8 zs w a (jJ (jJ (jJ b (jA a 0 U)<|Y x (T P) cx) (jA a 1 U)<|V X s) (jA a 2 U)<|Y y (T I) c):=by
 have K:AN (λq=>q=a) b<|jJ (jJ (jJ b (jA a 0 U)<|Y x (T P) cx) (jA a 1 U)<|V X s) (jA a 2 U)<|Y y (T I) c:=(((AN.refl (λq=>q=a) b).setCell (p:=(jA a 0 U)) (λ_=>rfl) _).setCell (p:=(jA a 1 U)) (λ_=>rfl) _).setCell (p:=(jA a 2 U)) (λ_=>rfl) _;exact⟨P,s,I,x,cx,y,c,g,lo,((d.set 0 _).set 1 _).set 2 _,Ab l,m.aM λq A t r ht=>K.block q r.lt λe=>Bm r d (by obtain rfl|rfl:=ht<;>decide) e,Ad f λq hq=>K.block q (f.lt q hq).2 λe=>Ac d f Ob Hb,n,o,u,⟨(K.block _ h.lt Oa).trans h.out⟩,((v.setCell (p:=(jA a 0 U)) (Oa:_<=a) _).setCell (p:=(jA a 1 U)) (Oa:_<=a) _).setCell (p:=(jA a 2 U)) (Oa:_<=a) _⟩
theorem Aj9 (a:L3)(n c:Nat)(zs:L2)(w:jB)(h:DI w a n c zs)(bt:n<=1048576):
  Calls jZ 11 #[Y a n c] w λr w'=>CdA (YF zs) r w'/\Ai w w':=by
 go_enter func11,ntmps11
 go_wp2_with fail
 refine To (P:=λa5=>Calls _ _ _ a5 _) λbN aR a6 ae=>?_;refine(BN (R (Z w)+1) a n c zs 0 bN<|YG ae h aR Oa (zE _) bt).mono ?_;rintro r aS ⟨y,af,rfl,aT,ch,ci,a7,a8⟩;have a9:=EI aR a8 Oa aR.size;have bu:Ag aS (R<|Z w) #[Y U 0 0,V jd 0,Y U 0 0] 26:=⟨(a8.block _ a6.lt<|.inl Oa).trans a6.out⟩
 have bv:R (Z w)+1<R (Z aS):=a7.lt;have ba:=Ab h;have bO:=Ab<|Aj7 h;clear aR a6 ae a8 h;go_upto_region 4 with fail
 refine Gd (P:=Code.wp _ _ _ _) λbb aU RO=>?_;have bc:=a7.aA aU bv;have F:=a9.trans<|aU.mono a9.size;have H:=bu.aA aU NLN;have bP:R (Z aS)<R (Z bb):=RO.lt;obtain⟨z,bw⟩:∃z,z=R (Z aS):=⟨_,rfl⟩
 rw[<-bw]at RO bv bP|-;clear aU bu a7 a9 bw;obtain⟨c0,c1,c2⟩:=At H;have ag:=H.frozen;by_cases bx: 250<=y
 .obtain⟨k,C⟩:∃k:Nat,y-250=(k:Int):=⟨(y-250).toNat,Oa⟩
  have bQ:k<=5:=Oa;have f:=Ab (show ∀P s I,Pm k P s I->YF zs P s I from λP s I bR=>by
   have e1:(nx zs 0).1=y:=by rw[Aa aT]
   unfold YF;rw[e1,H8 bx,C];exact bR)
  go_wp2_with fail
  refine(Agu k bQ bb).mono ?_;rintro r W ⟨⟨P,s,I,x,cx,ao,ap,aV,rfl,D,l,g,J,A⟩,b3⟩;have u:=H.aA b3 NLN;clear c0 c1 c2 ag;obtain⟨c0,c1,c2⟩:=At u;have ag:=u.frozen;go_wp2_with fail
  obtain⟨⟨aq,af,ar⟩,e⟩:=Agy (X:=YF zs) u l g J Oa (AdC<|Aa D) (Aa f _ _ _<|Aa D) rfl;exact G2 (v:= jM #[Y x (T P) cx,V jd s,Y ao (T I) ap]) (by simp[results,results11,go_sem,aq,af,ar]) rfl ⟨e,(((F.trans<|b3.mono F.size).setCell (p:=⟨R<|Z w,0,U⟩) NLN _).setCell (p:=⟨R<|Z w,1,U⟩) NLN _).setCell (p:=⟨R<|Z w,2,U⟩) NLN _⟩
 have aa:=Ab (show ∀P s I au av aw,Yt zs au av aw->(if y % 5=4 then (P,s,I)=JZ zs (T zs / 2) au av aw else P=au/\s=av/\I=aw)->YF zs P s I from λP s I au av aw bd he=>by
  have e1:(nx zs 0).1=y:=by rw[Aa aT]
  unfold YF;rw[e1,H7 bx];exact⟨au,av,aw,bd,he⟩)
 have ab:=Ab (show ∀(P:M1) (s:Int) (I:M2),(if y % 16=15 then P=[]/\s=0/\I=List.replicate (100+y / 16 % 2).toNat ⟨2,4⟩++[⟨25,0⟩]else if y % 2=0 then ∃t o k,TyX zs af t/\(if y % 4=0 then PZ t.1 t.2.1 t.2.2 o else o=t)/\Lc o.1 o.2.1 o.2.2 k/\P=k.aI/\s=k.aE/\I=k.aK else WiX zs af P s I)->Yt zs P s I from λP s I bd=>by
  unfold Yt;rw[Aa aT];exact bd)
 clear aT;go_upto_block 0 with fail
 go_cut [] (λbf=>Hid<|Aj8 zs w z bf)
 case first=>
  obtain⟨K,L,M⟩:=At RO;have ah:=RO.frozen;by_cases N:y % 16=15
  .have bS:(y % 16==15)=jD:=zD.2 N;obtain⟨m,hm⟩:∃m:Nat,100+y / 16 % 2=(m:Int):=⟨(100+y / 16 % 2).toNat,Oa⟩
   have f:=Ab (show ∀(P:M1) (s:Int) (I:M2),P=[]/\s=0/\I=List.replicate m ⟨2,4⟩++[⟨25,0⟩]->Yt zs P s I from λP s I e=>Aa ab P s I<|by rw[H8 N,hm,zS];exact e);have bT:m<=200:=Oa;clear ab aa N;go_wp2_with fail
   refine(Aiz m bT bb).mono ?_;rintro r W ⟨⟨P,s,I,x,cx,ao,ap,aV,rfl,D,l,g,J,A⟩,b3⟩;have i:=RO.aA b3 NLN;clear K L M ah;obtain⟨K,L,M⟩:=At i;have ah:=i.frozen;have E:=Ab<|UG (w:=w) (Aa f _ _ _<|Aa D) i l g J A (by rw[(Aa D).1];intro v hv;cases hv) (H.aA b3 NLN) (F.trans (b3.mono F.size)) Oa;clear D l g b3 i f hm;go_wp2
   go_meet
   exact E
  have bS:(y % 16==15)=jE:=zA.2 N;by_cases A:y % 2=0
  .have q2:(y % 2==0)=jD:=zD.2 A;have f:=Ab (show ∀(t o:L6×L9×L2) (k:De),TyX zs af t->(if y % 4=0 then PZ t.1 t.2.1 t.2.2 o else o=t)->Lc o.1 o.2.1 o.2.2 k->Yt zs k.aI k.aE k.aK from λt o k e1 e2 e3=>Aa ab _ _ _<|by rw[H7 N,H8 A];exact⟨t,o,k,e1,e2,e3,rfl,rfl,rfl⟩);clear ab aa N A;go_wp2_with fail
   refine(Agx (B:=R<|Z w) bc Oa λh0 q hq=>by obtain⟨b,bz,aW,bU,_⟩:=(Aa ba).cells 0 h0;rw[hq]at aW;cases aW;exact bU).mono ?_;rintro r W ⟨⟨v,t,rfl,bA,⟨bB,bC,bD,bE,bF,d1,bG,bH,e1,rfl,aX,bI,g⟩,aY⟩,b3⟩;have i:=b3.rd z _ _ (by unfold okR;decide) Oa RO;have u:=b3.rd (R<|Z w) _ _ (by unfold okR;decide) Oa H;have ac:=F.trans b3.low;have bV:z<R (Z W):=i.lt;have aZ:=Ab (show ∀x∈t.1,Cu x.num/\T x.aB<=1048576 from λx hx=>⟨⟨(aY x hx).1.1,(aY x hx).1.2⟩,(aY x hx).2⟩);clear K L M ah b3 aY;go_upto_region 11 with fail
   refine Gd (P:=Code.wp _ _ _ _) λbJ O RT=>?_;have bg:=i.aA O NLN;have bh:=u.aA O NLN;have a0:=ac.trans<|O.mono ac.size;have bi:=aX.1.below O NLN;have bj:=(aX.2.nmq λx hx=>(Aa aZ x hx).2).below aX.1 O;have bk:=bI.below O NLN;have bl:=g.below O NLN;clear aX bI g i u ac;obtain⟨d,bK⟩:∃d,d=R (Z W):=⟨_,rfl⟩
   rw[<-bK]at RT|-;have cj:z<d:=H2 bV
   clear bK O;obtain⟨ax,ay,az⟩:=At RT;have ft:=RT.frozen;have n1:z≠d:=Oa;have bm:R (Z w)≠d:=Oa;go_upto_if 36 with fail
   go_cut [] (λbf=>Hid<|AiD zs w z d bf)
   case first=>
    by_cases ai:y % 4=0
    .have bW:(y % 4==0)=jD:=zD.2 ai;have S:=Ab (show ∀(o:L6×L9×L2) (k:De),PZ t.1 t.2.1 t.2.2 o->Lc o.1 o.2.1 o.2.2 k->Yt zs k.aI k.aE k.aK from λo k e1 e2=>Aa f t o k (Aa bA) (by rw[H8 ai];exact e1) e2);clear f ai;go_wp2_with fail
     refine(SG bB bE bG bC bD bF d1 bH e1 t.1 t.2.1 t.2.2 bJ bi bk bl bj<|Aa aZ).mono ?_;rintro r bX ⟨o,bn,⟨aC,aD,aG,ad,aH,d2,aL,aN,e2,rfl,-,bL⟩,b5⟩;have aO:=RT.aA b5 NLN;have G:=bL d _ aO (Y aC aD aG) (Y ad aH d2)<|Y aL aN e2;have E:Hid<|AiD zs w z d<|jJ (jJ (jJ bX (jA d 0 U)<|Y aC aD aG) (jA d 1 U)<|Y ad aH d2) (jA d 2 U)<|Y aL aN e2:=Ab ⟨o,aC,aD,aG,ad,aH,d2,aL,aN,e2,((aO.set 0 _).set 1 _).set 2 _,⟨G.1.1,λj bY b bz aW an nn cn hc=>(G.1.2 j bY b bz aW an nn cn hc).1,G.2.1,G.2.2⟩,(((bg.aA b5 NLN).aF (p:=(jA d 0 U)) n1 _).aF (p:=(jA d 1 U)) n1 _).aF (p:=(jA d 2 U)) n1 _,(((bh.aA b5 NLN).aF (p:=(jA d 0 U)) bm _).aF (p:=(jA d 1 U)) bm _).aF (p:=(jA d 2 U)) bm _,(((a0.trans<|b5.mono a0.size).setCell (p:=(jA d 0 U)) (Oa:_<=d) _).setCell (p:=(jA d 1 U)) (Oa:_<=d) _).setCell (p:=(jA d 2 U)) (Oa:_<=d) _,Ab<|bn.int<|Aa aZ,Ab λk C=>Aa S o k bn C⟩;clear ax ay az ft;obtain⟨ax,ay,az⟩:=At aO;have ft:=aO.frozen;clear bn bL G aO b5;go_wp2
     go_meet
     exact E
    .have bW:(y % 4==0)=jE:=zA.2 ai;have E:Hid<|AiD zs w z d bJ:=Ab ⟨t,bB,bC,bD,bE,bF,d1,bG,bH,e1,RT,⟨bi,bj.nmz,bk,bl⟩,bg,bh,a0,Ab λx hx _=>(Aa aZ x hx).1,Ab λk C=>Aa f t t k (Aa bA) (by rw[H7 ai]) C⟩;clear ai f;go_wp2
     go_meet
     exact E
   case rest=>
    obtain⟨o,aC,aD,aG,ad,aH,d2,aL,aN,e2,RT,⟨bZ,b0,S5,I5⟩,b1,aP,aj,b2,S⟩:=Aa hcut;clear hcut f bi bj bk bl bg bh a0 ax ay az ft;obtain⟨ax,ay,az⟩:=At RT;have ft:=RT.frozen;go_wp2_with fail
    refine(UH aC ad aL aD aG aH d2 aN e2 o.1 o.2.1 o.2.2 wc bZ S5 I5 b0).mono ?_;rintro r ck ⟨k,C,cl,c3,cm,d3,aV,rfl,l,g,a1⟩;obtain⟨b4,a2,b6,-⟩:=C.aJ;have a3:=b1.aA a1 NLN;have E:=Ab<|UG (w:=w) (Aa S k C) a3 (l.plo λv hv=>⟨H2<|(a2 v hv).1,H2<|(a2 v hv).2.1,λs hs=>H2<|(a2 v hv).2.2 s hs⟩) g Oa Oa (C.num<|Aa b2) (aP.aA a1 NLN) (aj.trans<|a1.mono aj.size) Oa;obtain⟨K,L,M⟩:=At a3;have ah:=a3.frozen;clear l g C b4 a2 b6 S a1 a3 ax ay az ft;go_wp2
    go_meet
    exact E
  .have q2:(y % 2==0)=jE:=zA.2 A;have f:=Ab (show ∀(P:M1) (s:Int) (I:M2),WiX zs af P s I->Yt zs P s I from λP s I e=>Aa ab P s I<|by rw[H7 N,H7 A];exact e);clear ab aa N A;go_wp2_with fail
   refine(Aiy bc).mono ?_;rintro r W ⟨⟨P,s,I,x,cx,ao,ap,aV,rfl,D,l,g,J,A⟩,a4⟩;have i:Ag W z #[Y U 0 0,V jd 0,Y U 0 0] 26:=⟨(a4.block _ RO.lt<|.inr Oa).trans RO.out⟩
   have u:Ag W (R<|Z w) #[Y U 0 0,V jd 0,Y U 0 0] 26:=⟨(a4.block _ H.lt<|.inl Oa).trans H.out⟩
   clear K L M ah;obtain⟨K,L,M⟩:=At i;have ah:=i.frozen;have E:=Ab<|UG (w:=w) (Aa f _ _ _<|Aa D) i l g J A ((Aa D).num<|Aa bO) u (EI F a4 Oa F.size) Oa;clear D l g a4 i f;go_wp2
   go_meet
   exact E
 case rest=>
  obtain⟨P,s,I,x,cx,ao,ap,aV,lo,i,f,l,g,J,A,bM,u,ac⟩:=Aa hcut;clear hcut ab RO H F bc c0 c1 c2 ag;have co:z<R (Z wc):=i.lt;obtain⟨K,L,M⟩:=At i;obtain⟨c0,c1,c2⟩:=At u;have ag:=u.frozen;by_cases h5:y % 5=4
  .have b7:(y % 5==4)=jD:=zD.2 h5;have S:=Ab (show ∀(ak:M1) (al:Int) (I':M2),(ak,al,I')=JZ zs (T zs / 2) P s I->YF zs ak al I' from λak al I' e=>Aa aa _ _ _ _ _ _ (Aa f)<|by rw[H8 h5];exact e);clear h5 aa;go_wp2_with fail
   refine Gd (P:=λa5=>Calls _ _ _ a5 _) λcp aQ ae=>?_;have e2:((n / 2 :Nat):Int)=(n:Int) / 2:=Oa;rw[<-e2]at ae;have aj:=ac.trans<|aQ.mono ac.size;refine(Ady (YG ae (Aa ba) aj Oa Oa bt) (l.aM λq cq t r _=>aQ.block q r.lt) (Aj g aQ NLN) J Oa).mono ?_;rintro r b8 ⟨⟨ak,al,I',b9,ca,ad,cb,cr,rfl,bo,cc,cd,g1,g2⟩,bp⟩;have aP:=u.aA aQ NLN;have br:Ag b8 (R<|Z w) #[Y U 0 0,V jd 0,Y U 0 0] 26:=⟨(bp.block _ aP.lt<|.inl Oa).trans aP.out⟩
   have ce:=EI aj bp Oa aj.size;have cf:=Ab<|AdD (Aa bo) bM;have cg:=Ab (Aa S ak al I'<|by rw[<-(Aa ba).len];exact Aa bo);clear K L M c0 c1 c2 ag aP ae aQ bp bo e2;obtain⟨c0,c1,c2⟩:=At br;have ag:=br.frozen;go_wp2_with fail
   obtain⟨⟨aq,bs,ar⟩,e⟩:=Agy (X:=YF zs) br cc cd g1 g2 (Aa cf) (Aa cg) rfl;exact G2 (v:= jM #[Y b9 (T ak) ca,V jd al,Y ad (T I') cb]) (by simp[results,results11,go_sem,aq,bs,ar]) rfl ⟨e,((ce.setCell (p:=⟨R<|Z w,0,U⟩) NLN _).setCell (p:=⟨R<|Z w,1,U⟩) NLN _).setCell (p:=⟨R<|Z w,2,U⟩) NLN _⟩
  .have b7:(y % 5==4)=jE:=zA.2 h5;have S:=Ab (Aa aa P s I P s I (Aa f)<|by rw[H7 h5];exact⟨rfl,rfl,rfl⟩);clear h5 aa;go_wp2_with fail
   obtain⟨⟨aq,bs,ar⟩,e⟩:=Agy (X:=YF zs) u l g J Oa bM (Aa S) rfl;exact G2 (v:= jM #[Y x (T P) cx,V jd s,Y ao (T I) ap]) (by simp[results,results11,go_sem,aq,bs,ar]) rfl ⟨e,((ac.setCell (p:=⟨R<|Z w,0,U⟩) NLN _).setCell (p:=⟨R<|Z w,1,U⟩) NLN _).setCell (p:=⟨R<|Z w,2,U⟩) NLN _⟩
theorem Nq.aP {zs:L2}{p q a:Nat}{K b:L4}(h:Nq zs p K q)(c:Nq zs p b a):K=b/\q=a:=by grind [nx,Ba.aP,Nq,DT,OJ]
theorem Pq.aP {zs:L2}{L:List (K9×Int)}{ty x:Int}{p q d:Nat}{y b:Nd}(h:Pq zs L ty x p y q)(a:Pq zs L ty x p b d):y=b/\q=d:=by
 unfold Pq at h a;split at h
 .rename_i c;rw[H8 c]at a;have e:y.text=b.text:=K7<|h.1.trans a.1.symm;exact⟨by rw[h.2.1,a.2.1,e],by rw[h.2.2,a.2.2]⟩
 grind [Nq.aP]
theorem Cy.aP {zs:L2}{L:List (K9×Int)}{ty:Int}{p q a:Nat}{N M b:L6}(h:Cy zs L ty p N q M)(c:Cy zs L ty p N a b):q=a/\M=b:=by
 obtain⟨y,d,rfl⟩:=h;obtain⟨g,f,rfl⟩:=c;obtain⟨rfl,rfl⟩:=d.aP f;exact⟨rfl,rfl⟩
def Uni (E:Drw):Prop:=∀(ty:Int) (p q q':Nat) (N M M':L6),E ty p N q M->E ty p N q' M'->q=q'/\M=M'
theorem SU.aP {d E:Drw}(f:Uni d)(b:Uni E){x:Int}{p g:Nat}{M i:L6}(h:SU d E ty x p N q M)(a:SU d E ty x p N g i):q=g/\M=i:=by
 unfold SU at h a;split at h
 .rename_i c;rw[H8 c]at a;obtain⟨q1,j,q2,l,r,a1,a2,a3,rfl⟩:=h;obtain⟨m,k,t,n,u,b1,b2,b3,rfl⟩:=a;obtain⟨rfl,rfl⟩:=b _ _ _ _ _ _ _ a1 b1;obtain⟨rfl,rfl⟩:=b _ _ _ _ _ _ _ a2 b2;obtain⟨rfl,rfl⟩:=b _ _ _ _ _ _ _ a3 b3;exact⟨rfl,rfl⟩
 .rename_i c;rw[H7 c]at a;split at h
  .rename_i c;rw[H8 c]at a;exact f _ _ _ _ _ _ _ h a
  .rename_i c;rw[H7 c]at a;cases hs:Lv ty x with
   |none=>rw[hs]at h a;exact f _ _ _ _ _ _ _ h a
   |some s=>
     obtain⟨op,v,o⟩:=s;rw[hs]at h a;cases o with
     |none=>
       obtain⟨j,a1,rfl⟩:=h;obtain⟨k,b1,rfl⟩:=a;obtain⟨rfl,rfl⟩:=b _ _ _ _ _ _ _ a1 b1;exact⟨rfl,rfl⟩
     |some w=>
       obtain⟨q1,j,l,a1,a2,rfl⟩:=h;obtain⟨m,k,n,b1,b2,rfl⟩:=a;obtain⟨rfl,rfl⟩:=b _ _ _ _ _ _ _ a1 b1;obtain⟨rfl,rfl⟩:=b _ _ _ _ _ _ _ a2 b2;exact⟨rfl,rfl⟩
theorem MI.aP (zs:L2)(L:List<|K9×Int)(wild:Bool):∀d,Uni (MI zs L wild d)
 |0=>λ_ _ _ _ _ _ _ h f=>Cy.aP h f
 |d+1=>λ_ _ _ _ _ _ _ h f=>by
  unfold MI at h f;split at h
  .grind [Cy.aP,SU.aP]
  .rename_i c;rw[H7 c]at f;exact SU.aP (λ_ _ _ _ _ _ _ a b=>Cy.aP a b) (MI.aP zs L wild d) h f
theorem DpX.aP {zs:L2}{L:List (K9×Int)} :∀{k p q a:Nat} {N M b:L6},DpX zs L k p N q M->DpX zs L k p N a b->q=a/\M=b
 |0,_,_,_,_,_,_,h,_=>Qy
 |1,_,_,_,_,_,_,h,h'=>Cy.aP h h'
 |k+2,_,_,_,_,_,_,h,h'=>by
  obtain⟨c,a1,rfl⟩:=h;obtain⟨d,b1,rfl⟩:=h';obtain⟨rfl,rfl⟩:=DpX.aP a1 b1;exact⟨rfl,rfl⟩
theorem NO.aP {zs:L2}{wild:Bool}{L:Lts}{x:Int}{p q b:Nat}{N M d:L6}(h:NO zs wild L x p N q M)(a:NO zs wild L x p N b d):q=b/\M=d:=by
 unfold NO at h a;split at h
 .rename_i c;rw[H8 c]at a;exact h.aP a
 .rename_i c;rw[H7 c]at a;exact MI.aP _ _ _ _ _ _ _ _ _ _ _ h a
theorem NP.aP {zs:L2}{wild:Bool}{m:Nat}{L K b:Lts}{x:Int}{p q d:Nat}{N M f:L6}{s g:St}(h:NP zs wild m L x p N q M s K)(a:NP zs wild m L x p N d f g b):q=d/\M=f/\s=g/\K=b:=by
 unfold NP at h a;split at h
 .rename_i c;rw[H8 c]at a;obtain⟨rfl,rfl⟩:=MI.aP _ _ _ _ _ _ _ _ _ _ _ h.1 a.1;exact⟨rfl,rfl,by rw[h.2.1,a.2.1],by rw[h.2.2,a.2.2]⟩
 .rename_i c;rw[H7 c]at a;split at h
  .rename_i c;rw[H8 c]at a;obtain⟨q1,i,a1,a2,a3,a4⟩:=h;obtain⟨j,k,b1,b2,b3,b4⟩:=a;obtain⟨rfl,rfl⟩:=a1.aP b1;obtain⟨rfl,rfl⟩:=MI.aP _ _ _ _ _ _ _ _ _ _ _ a2 b2;exact⟨rfl,rfl,by rw[a3,b3],by rw[a4,b4]⟩
  grind [NO.aP,MI.aP]
theorem NN.aP {zs:L2}{wild:Bool} :∀{k p q a:Nat} {N M b:L6} {S T c:L9} {L K d:Lts},NN zs wild k p N S L q M T K->NN zs wild k p N S L a b c d->q=a/\M=b/\T=c/\K=d:=by intro k;induction k<;>intros<;>grind [NN,NP.aP]
theorem VQ.aP {zs:L2}{wild:Bool}{p:Nat}{M a:L6}{T b:L9}(h:VQ zs wild p M T)(d:VQ zs wild p a b):M=a/\T=b:=by
 obtain⟨q,N,S,L,a1,a2⟩:=h;obtain⟨f,g,i,j,b1,b2⟩:=d;obtain⟨rfl,rfl,rfl,rfl⟩:=a1.aP b1;unfold Ahd at a2 b2;split at a2
 .rename_i c;rw[H8 c]at b2;obtain⟨r,c1,c2⟩:=a2;obtain⟨k,d1,d2⟩:=b2;obtain⟨rfl,rfl⟩:=MI.aP _ _ _ _ _ _ _ _ _ _ _ c1 d1;exact⟨rfl,by rw[c2,d2]⟩
 .rename_i c;rw[H7 c]at b2;exact⟨by rw[a2.1,b2.1],by rw[a2.2,b2.2]⟩
theorem LA.bH {zs:L2}{x:Int}{p a:Nat}{v v':Vl}(h:LA zs x p v q)(b:LA zs x p v' a):v=v'/\q=a:=by grind [LA,Nq.aP]
theorem VaX.bH {zs:L2}{s t a:Gs}(h:VaX zs s t)(b:VaX zs s a):t=a:=by
 obtain⟨v,q,hv,rfl⟩:=h;obtain⟨v',d,c,rfl⟩:=b;obtain⟨rfl,rfl⟩:=hv.bH c;rfl
def AfJ (B:Mv):Prop:=∀s t t',B s t->B s t'->t=t'
theorem GC.bH {b:Mv}(c:AfJ b){zs:L2}{k low Cz:Nat}{x:Int} :AfJ<|GC b zs k low Cz x:=by
 intro s t d h a;unfold GC at h a;split at h
 .rw[H8 Q4]at a;exact h.trans a.symm
 .rw[H7 Q4]at a;split at h
  .rw[H8 Q4]at a;split at h
   .rw[H8 Q4]at a;exact h.trans a.symm
   .rw[H7 Q4]at a;exact h.trans a.symm
  .rw[H7 Q4]at a;split at h
   .rw[H8 Q4]at a;exact h.trans a.symm
   .rw[H7 Q4]at a;split at h
    .rw[H8 Q4]at a;exact h.trans a.symm
    .rw[H7 Q4]at a;split at h
     .rw[H8 Q4]at a;exact c _ _ _ h a
     grind [VaX.bH]
theorem Mh.bH {d:Mv}(f:AfJ d){zs:L2}{k low Cz:Nat} :∀n,AfJ (Mh d zs k low Cz n)
 |0=>λs t g h c=>Eq.trans (b:=s) h<|Eq.symm c
 |n+1=>λs t g h c=>by
  unfold Mh at h c;split at h
  .rw[H8 Q4]at c;obtain⟨s1,a,b⟩:=h;obtain⟨s2,i,j⟩:=c;obtain rfl:=GC.bH f _ _ _ a i;exact Mh.bH f n _ _ _ b j
  .rw[H7 Q4]at c;exact h.trans c.symm
theorem Ie.bH (zs:L2)(k:Nat):∀d,AfJ (Ie zs k d)
 |0=>λs t c h _=>h.elim
 |d+1=>λs t c h f=>by
  obtain⟨s1,s2,a,b,rfl⟩:=h;obtain⟨j,l,g,i,rfl⟩:=f;obtain rfl:=Mh.bH (Ie.bH zs k d) 2 _ _ _ a g;obtain rfl:=b.bH i;rfl
theorem WiX.bH {zs:L2}{p:Nat}{P b:M1}{k c:Int}{I I':M2}(h:WiX zs p P k I)(d:WiX zs p b c I'):P=b/\k=c/\I=I':=by
 obtain⟨s,a,rfl,rfl,rfl⟩:=h;obtain⟨g,f,rfl,rfl,rfl⟩:=d;obtain rfl:=Mh.bH (Ie.bH zs _ 3) 40 _ _ _ a f;exact⟨rfl,rfl,rfl⟩
theorem TyX.bH {zs:L2}{a:Nat}{o b:L6×L9×L2}(h:TyX zs a o)(c:TyX zs a b):o=b:=by
 obtain⟨N,S,q,d,c1,e1⟩:=h;obtain⟨f,g,i,j,c2,e2⟩:=c
 grind [VQ.aP,YE.bH]
theorem Yt.bH {zs:L2}{P a:M1}{s b:Int}{I I':M2}(h:Yt zs P s I)(c:Yt zs a b I'):P=a/\s=b/\I=I':=by grind [WiX.bH,Yt,PZ.bH,TyX.bH,Lc.bH]
theorem YF.bH {zs:L2}{P a:M1}{s b:Int}{I I':M2}(h:YF zs P s I)(c:YF zs a b I'):P=a/\s=b/\I=I':=by grind [Pm,YF,Yt.bH,Prod.mk.injEq]
set_option maxHeartbeats 6400000
def AcJ (zs:L2) (Q:Rq):Prop:=
 ∃ (y:Int) (p q:Nat) (T:Rq),nx zs 0=(y,p)/\AcI zs p T q/\(
  (y % 20=0/\Q= { T with cl:=⟨#[78,111]⟩ })\/(y % 20=1/\Q= { T with us:=⟨#[]⟩ })\/(y % 20=2/\Q= { T with s1:=(GP zs q T.s1).1 })\/(y % 20=3/\Q= { T with s2:=(GP zs q T.s2).1 })\/(4<=y % 20/\Q=T))
theorem Ky {a:jB}{b k base:Nat}{c:Array jF}{K:L4}(r:Ag a b c 32)(h:A6 a base x K cx)(v:jF):A6 (jJ a (jA b k U) v) base x K cx:=
 ⟨Fz h.aN λy hy=>by
  subst hy;exact H5 λe=>Ac r h.aN Ob<|congrArg Q e,h.aJ⟩
def CuR (zs:L2) (w:jB) (qb:Nat) (cs:Array jF) (wx:jB):Prop:=
 ∃ (Q:Rq) (x1 x2:L3) (c1 c2:Nat),Ag wx (R<|Z w) cs 32/\Ag wx qb #[jC Q.cl,jC Q.us,V X Q.lv,V X Q.nw,Y x1 (T Q.s1) c1,Y x2 (T Q.s2) c2] 32/\AcJ zs Q/\(Q.cl.size<=1000/\Q.us.size<=1000/\0<=Q.lv/\Q.lv<=7/\0<=Q.nw/\Q.nw<=1785/\T Q.s1<=128/\T Q.s2<=128)/\A6 wx (R (Z w)+2) x1 Q.s1 c1/\A6 wx (R (Z w)+2) x2 Q.s2 c2/\Ai w wx
def DrA (zs:L2) (w:jB) (e:Ending) (w':jB):Prop:=
 ∃ (Q:Rq) (x1 x2:L3) (c1 c2:Nat),e= .returned (jM #[jC Q.cl,jC Q.us,V X Q.lv,V X Q.nw,Y x1 (T Q.s1) c1,Y x2 (T Q.s2) c2])/\Hid (AcJ zs Q)/\(Q.cl.size<=1000/\Q.us.size<=1000/\0<=Q.lv/\Q.lv<=7/\0<=Q.nw/\Q.nw<=1785/\T Q.s1<=128/\T Q.s2<=128)/\A6 w' (R<|Z w) x1 Q.s1 c1/\A6 w' (R<|Z w) x2 Q.s2 c2/\Ai w w'
theorem ZO (a:L3)(n c:Nat)(zs:L2)(w:jB)(h:DI w a n c zs)(az:n<=1048576):
  Calls jZ 19 #[Y a n c] w (DrA zs w):=by
 go_enter func19,ntmps19
 go_wp2_with fail
 refine To (P:=λaa=>Calls _ _ _ aa _) λaB L ab ac=>?_;refine(BN _ a n c zs 0 aB<|YG ac h L Oa (zE _) az).mono ?_;rintro e w2 ⟨y,al,rfl,ao,aJ,M,ap,ad⟩;go_wp2_with fail
 refine(XV _ a n c zs al w2 ap).mono ?_;rintro e N ⟨T,A,B,c1,c2,q,rfl,aq,j,ae,af,h3,ar⟩;have O:=ad.trans ar;have s2:=ac.lt;have aK:=ad.size;have aL:=O.size;have ag:=EI L O Oa L.size;have au:Ag N (R<|Z w) _ _:=⟨(O.block _ ab.lt<|.inl Oa).trans ab.out⟩
 have i:=Ab (show ∀Q,_->AcJ zs Q from λQ aC=>⟨y,al,q,T,Aa ao,Aa aq,aC⟩);obtain⟨cl,us,lv,nw,u,K2⟩:=T;dsimp only at j ae af|-;clear ad ar ap ab ac L O ao aq;go_upto_block 0 with fail
 refine Gd (P:=λaa=>Code.wp _ _ _ _ aa) λC x d=>?_;have z:=au.aA x NLN;have l:=(ae.below x NLN).mono (base':=R (Z w)+2) Oa;have m:=(af.below x NLN).mono (base':=R (Z w)+2) Oa;have ah:=h3.aA x h3.lt;have o:=ag.trans<|x.mono ag.size;have hq:=d.lt;have D:R (Z w)≠R (Z N):=Oa;have aD:R (Z w)+2<=R (Z N):=Oa;clear au ae af h3 ag x;generalize R (Z N)=b at d hq D aD|-;go_cut [] (λaE=>Hid<|CuR zs w b #[jC ⟨#[]⟩,jC ⟨#[]⟩,V X 0,V X 0,Y U 0 0,Y U 0 0] aE)
 case first=>
  obtain⟨E,q1,q2,F,G,H⟩:=DN d;have S:=d.frozen;rcases(Oa:y % 20=0\/y % 20=1\/y % 20=2\/y % 20=3\/4<=y % 20)with e|e|e|e|e
  .have g:Hid<|CuR zs w b _<|jJ C (jA b 0 U)<|jC ⟨#[78,111]⟩:=Ab ⟨⟨⟨#[78,111]⟩,us,lv,nw,u,K2⟩,A,B,c1,c2,z.aF (p:=(jA b 0 U)) D _,d.set 0 _,Aa i _<|.inl ⟨e,rfl⟩,⟨(by decide:(⟨#[78,111]⟩:K9).size<=1000),j.2.1,P2⟩,Ky d l _,Ky d m _,o.setCell (p:=(jA b 0 U)) (Oa:R (Z w)<=b) _⟩;have W:(y % 20==0)=jD:=zD.2 e;clear e i;go_wp2
   go_meet
   exact g
  .have g:Hid<|CuR zs w b _<|jJ C (jA b 1 U)<|jC ⟨#[]⟩:=Ab ⟨⟨cl,⟨#[]⟩,lv,nw,u,K2⟩,A,B,c1,c2,z.aF (p:=(jA b 1 U)) D _,d.set 1 _,Aa i _<|.inr<|.inl ⟨e,rfl⟩,⟨j.1,zE _,P2⟩,Ky d l _,Ky d m _,o.setCell (p:=(jA b 1 U)) (Oa:R (Z w)<=b) _⟩;have W:(y % 20==0)=jE:=zA.2 Oa;have b1:(y % 20==1)=jD:=zD.2 e;clear e i;go_wp2
   go_meet
   exact g
  .have W:(y % 20==0)=jE:=zA.2 Oa;have b1:(y % 20==1)=jE:=zA.2 Oa;have b2:(y % 20==2)=jD:=zD.2 e;have I:=Ab e;clear e;go_wp2_with fail
   refine(TJ _ a n c zs q _ A u c1 C ah l Oa).mono ?_;rintro r s ⟨J,c5,K5,ai,rfl,K,aG,aj,h5,k⟩;have t:Ag s (R<|Z w) _ _:=⟨(k.block _ Oa<|.inl Oa).trans z.out⟩
   have f:Ag s b _ _:=⟨(k.block _ hq<|.inr Oa).trans d.out⟩
   have g:Hid<|CuR zs w b _<|jJ s (jA b 4 U)<|Y J K5.length c5:=Ab ⟨⟨cl,us,lv,nw,K5,K2⟩,J,B,c5,c2,t.aF (p:=(jA b 4 U)) D _,f.set 4 _,Aa i _<|.inr<|.inr<|.inl ⟨Aa I,by rw[show GP zs q u=(K5,ai)from Aa K]⟩,⟨j.1,j.2.1,P2⟩,Ky f (aj.mono Oa) _,Ky f (m.aR k NLN) _,(EI o k Oa o.size).setCell (p:=(jA b 4 U)) (Oa:R (Z w)<=b) _⟩;clear E q1 q2 F G H S;obtain⟨E,q1,q2,F,G,H⟩:=DN f;have S:=f.frozen;clear I i;go_wp2
   go_meet
   exact g
  .have W:(y % 20==0)=jE:=zA.2 Oa;have b1:(y % 20==1)=jE:=zA.2 Oa;have b2:(y % 20==2)=jE:=zA.2 Oa;have b3:(y % 20==3)=jD:=zD.2 e;have I:=Ab e;clear e;go_wp2_with fail
   refine(TJ _ a n c zs q _ B K2 c2 C ah m Oa).mono ?_;rintro r s ⟨J,c5,K5,ai,rfl,K,aG,aj,h5,k⟩;have t:Ag s (R<|Z w) _ _:=⟨(k.block _ Oa<|.inl Oa).trans z.out⟩
   have f:Ag s b _ _:=⟨(k.block _ hq<|.inr Oa).trans d.out⟩
   have g:Hid<|CuR zs w b _<|jJ s (jA b 5 U)<|Y J K5.length c5:=Ab ⟨⟨cl,us,lv,nw,u,K5⟩,A,J,c1,c5,t.aF (p:=(jA b 5 U)) D _,f.set 5 _,Aa i _<|.inr<|.inr<|.inr<|.inl ⟨Aa I,by rw[show GP zs q K2=(K5,ai)from Aa K]⟩,⟨j.1,j.2.1,P2⟩,Ky f (l.aR k NLN) _,Ky f (aj.mono Oa) _,(EI o k Oa o.size).setCell (p:=(jA b 5 U)) (Oa:R (Z w)<=b) _⟩;clear E q1 q2 F G H S;obtain⟨E,q1,q2,F,G,H⟩:=DN f;have S:=f.frozen;clear I i;go_wp2
   go_meet
   exact g
  .have g:Hid<|CuR zs w b _ C:=Ab ⟨⟨cl,us,lv,nw,u,K2⟩,A,B,c1,c2,z,d,Aa i _<|.inr<|.inr<|.inr<|.inr ⟨e,rfl⟩,⟨j.1,j.2.1,P2⟩,l,m,o⟩;have W:(y % 20==0)=jE:=zA.2 Oa;have b1:(y % 20==1)=jE:=zA.2 Oa;have b2:(y % 20==2)=jE:=zA.2 Oa;have b3:(y % 20==3)=jE:=zA.2 Oa;clear e i;go_wp2
   go_meet
   exact g
 case rest=>
  obtain⟨Q,M,ak,d1,d2,t,f,av,aw,l,m,K⟩:=Aa hcut;obtain⟨aM,aN,aO,aP,aQ,aS⟩:=DN t;obtain⟨E,q1,q2,F,G,H⟩:=DN f;have aT:=t.frozen;have g:=Ab<|K6 av aw;have ax:=Ab<|K6 l m;clear hcut i av aw l m d z ah o;go_wp2_with fail
  obtain⟨aH,aI,ay⟩:=AjE t (jC Q.cl) (jC Q.us) (V X Q.lv) (V X Q.nw) (Y M (ja Q.s1) d1) (Y ak (ja Q.s2) d2) rfl;obtain⟨e0,e1,e2,e3,e4,e5⟩:=DN aH;exact G2 (v:= jM #[jC Q.cl,jC Q.us,V X Q.lv,V X Q.nw,Y M (ja Q.s1) d1,Y ak (ja Q.s2) d2]) (by simp[results,results19,go_sem,e0,e1,e2,e3,e4,e5]) rfl ⟨Q,M,ak,d1,d2,rfl,Ab (Aa g).1,(Aa g).2,(ay Oa (Aa ax).1).mono Oa,(ay Oa (Aa ax).2).mono Oa,K.trans aI⟩
set_option maxHeartbeats 1600000
theorem AcI.bH {zs:L2}{p:Nat}{T c:Rq}(h:AcI zs p T q)(f:AcI zs p c lo'):T=c/\q=lo':=by
 obtain⟨cl,us,lv,nw,s1,s2⟩:=T;obtain⟨g,i,j,k,l,m⟩:=c;obtain⟨n,o,r,s,t,a,b,e1,e2,e3,e4,rfl,rfl,u,v⟩:=h;obtain⟨w,x,y,z,A,B,C,f1,f2,D,E,rfl,rfl,F,G⟩:=f
 grind [Nq.aP]
theorem AcJ.bH {zs:L2}{Q a:Rq}(h:AcJ zs Q)(b:AcJ zs a):Q=a:=by
 obtain⟨y,p,q,T,e1,r,c⟩:=h;obtain⟨f,g,i,j,f1,d,c'⟩:=b;cases e1.symm.trans f1;obtain⟨rfl,rfl⟩:=r.bH d
 grind
theorem Abp (a:L3)(n c:Nat)(zs:L2)(w:jB)(h:DI w a n c zs)(m:n<=1048576):
  Calls jZ 7 #[Y a n c] w (DrA zs w):=by
 go_enter func7,ntmps7
 go_wp2_with fail
 refine Gd (P:=λo=>Calls _ _ _ o _) λp b i=>?_;refine(ZO a n c zs p (h.below b NLN) m).mono ?_;rintro r z ⟨Q,d,f,d1,d2,rfl,q,s,t,u,j⟩;have k:=i.lt;have g:=i.aA j NLN;obtain⟨A,B,C,D,E,F⟩:=DN g;have G:=g.frozen;go_wp2_with fail
 obtain⟨x,y,l⟩:=AjE g (jC Q.cl) (jC Q.us) (V X Q.lv) (V X Q.nw) (Y d (T Q.s1) d1) (Y f (T Q.s2) d2) rfl;obtain⟨e0,e1,e2,e3,e4,e5⟩:=DN x;exact G2 (v:= jM #[jC Q.cl,jC Q.us,V X Q.lv,V X Q.nw,Y d (T Q.s1) d1,Y f (T Q.s2) d2]) (by simp[results,results7,go_sem,e0,e1,e2,e3,e4,e5]) rfl ⟨Q,d,f,d1,d2,rfl,q,s,(l k t).mono Oa,(l k u).mono Oa,(b.trans<|j.mono b.size).trans y⟩
theorem Vr (a:L3)(n c:Nat)(zs:L2)(w:jB)(h:DI w a n c zs)(f:n<=1048576):
  Calls jZ 4 #[Y a n c] w λr w'=>CdA (YF zs) r w'/\Ai w w':=by
 go_enter func4,ntmps4
 go_wp2_with fail
 refine Gd (P:=λg=>Calls _ _ _ g _) λi b j=>?_;refine(Aj9 a n c zs i (h.below b NLN) f).mono ?_;rintro r C ⟨⟨P,s,I,x,cx,y,k,D,rfl,l,m,o,q,t,u⟩,b1⟩;have d:=j.aA b1 NLN;obtain⟨c0,c1,c2⟩:=At d;have E:=d.frozen;go_wp2_with fail
 obtain⟨⟨z,A,B⟩,e⟩:=Agy (X:=YF zs) d m o q t u (Aa l) rfl;exact G2 (v:= jM #[Y x (T P) cx,V jd s,Y y (T I) k]) (by simp[results,results4,go_sem,z,A,B]) rfl ⟨e,(((b.trans<|b1.mono b.size).setCell (p:=⟨R<|Z w,0,U⟩) NLN _).setCell (p:=⟨R<|Z w,1,U⟩) NLN _).setCell (p:=⟨R<|Z w,2,U⟩) NLN _⟩
set_option maxHeartbeats 12800000
structure AfO (w:jB) (aT aS aO aZ aW:jG):Prop where
 vo:Lk w aT
 se:FV w aS aO aZ aW
 tab: 7 <R (Z w)/\∀k,jI w ⟨7,k,U⟩=Nb[k]?
theorem AfO.below {w w':jB}{B:Nat}{c aS aO aZ aW:jG}(h:AfO w c aS aO aZ aW)(a:Below B w w')(b:R (Z w)<=B):AfO w' c aS aO aZ aW:=
 ⟨h.vo.below a b,h.se.below a b,⟨zL h.tab.1 a.size,λk=>(a.cell (p:=⟨7,k,U⟩)<|zL h.tab.1 b).trans<|h.tab.2 k⟩⟩
theorem Pt (a:L3)(n c:Nat)(zs:L2)(J:L3)(n' c':Nat)(ys:L2)(ae aS aO aZ aW:jG)(w:jB)(h:DI w a n c zs)(K:DI w J n' c' ys)(he:AfO w ae aS aO aZ aW):
  Calls jZ 3 #[Y a n c,Y J n' c'] w λe w'=>e= .returned (.bool jD)/\Ai w w':=by
 have b1:n<=9223372036854775807:=Q1;have b2:n'<=9223372036854775807:=by have:=K.cap;have:=K.aJ;unfold maxLen at this;omega
 by_cases aF: ¬ (n<=1048576/\n'<=1048576/\n+n'<=1048576)
 .have ba:(1048576 :Int)<(n:Int)\/(1048576 :Int)<(n':Int)\/(¬ ((1048576 :Int)<(n:Int))/\¬ ((1048576 :Int)<(n':Int))/\(1048576 :Int)<(n:Int)+(n':Int)):=Oa;clear aF;obtain af|i2|⟨af,i2,bb⟩:=ba
  case' inr.inl=>by_cases af:(1048576 :Int)<(n:Int)
  all_goals
   go_enter func3,ntmps3
   go_wp2
   go_ret
   exact⟨rfl,BRN⟩
 have af: ¬ ((1048576 :Int)<(n:Int)):=Oa;have i2: ¬ ((1048576 :Int)<(n':Int)):=Oa;have bb: ¬ ((1048576 :Int)<(n:Int)+(n':Int)):=Oa;have ag:n<=1048576:=Oa;have aG:n'<=1048576:=Oa;clear aF;go_enter func3,ntmps3
 go_wp2_with fail
 refine(Vr a n c zs w h ag).mono ?_;rintro e bC ⟨⟨P,s,I,x,cx,y,bc,bD,rfl,ah,aH,aI,f,ai,aK⟩,c1⟩;dsimp only;go_upto_region 4 with fail
 refine Gd (P:=λA=>Code.wp _ _ _ _ A) λbd L RC=>?_;have aj:=c1.trans<|L.mono c1.size;have ak:=(aH.vls rfl f).below L NLN;have S2:=(UE aI ai).below L NLN;obtain⟨bf,q1,q2⟩:=At RC;clear aH aI c1 L;go_wp2_with fail
 refine(Yc x y (T P) cx (T I) bc s P I bd ak S2).mono ?_;rintro e bg ⟨rfl,b3⟩;have bh:=ak.below b3 NLN;have bi:=S2.below b3 NLN;have M:=aj.trans<|b3.mono aj.size;have aL:=RC.aA b3 NLN;clear ak S2 aj RC b3 bf q1 q2;obtain⟨N,i,k⟩:∃N i,Hid (DG P s I=(N,i)):=⟨_,_,Ab rfl⟩
 rw[Aa k];dsimp only;go_wp2_with fail
 refine(Vr a n c zs bg (h.below M NLN) ag).mono ?_;rintro e bj ⟨⟨aM,bk,I',al,ao,ap,aq,bl,rfl,B,l,C,-,-,-⟩,c4⟩;obtain⟨rfl,rfl,rfl⟩:=(Aa B).bH<|Aa ah;have O:=M.trans<|c4.mono M.size;dsimp only;go_wp2_with fail
 refine(Pf al ap (T aM) ao (T I') aq bk aM I' ae bj (l.vls rfl f) (UE C ai) (he.below O NLN).vo).mono ?_;rintro e bm ⟨rfl,b5⟩;have S:=O.trans<|b5.mono O.size;have aN:=aL.aA (c4.trans<|b5.mono c4.size) NLN;clear bh bi M aL O l C B c4 b5;rw[Aa k];dsimp only;go_upto_region 8 with fail
 go_wp2_with fail
 refine(Abp J n' c' ys bm (K.below S NLN) aG).mono ?_;rintro r bE ⟨Q,bF,bI,c1,c2,rfl,aP,aQ,D,E,ar⟩;dsimp only;go_upto_region 9 with fail
 refine Gd (P:=λA=>Code.wp _ _ _ _ A) λbn W au=>?_;have av:=ar.trans<|W.mono ar.size;have m:=S.trans<|av.mono S.size;have aR:=aN.aA av NLN;have aw:=(D.cZ).below W NLN;have ax:=(E.cZ).below W NLN;clear aN D E ar W av S;go_wp2_with fail
 refine(Vr a n c zs bn (h.below m NLN) ag).mono ?_;rintro e bo ⟨⟨P,s,I,al,ao,ap,aq,bl,rfl,B,l,C,-,-,-⟩,o⟩;obtain⟨rfl,rfl,rfl⟩:=(Aa B).bH<|Aa ah;have aa:=m.trans<|o.mono m.size;dsimp only;go_wp2_with fail
 refine(Abp J n' c' ys bo (K.below aa NLN) aG).mono ?_;rintro r bp ⟨b,br,bs,c3,c4,rfl,aT,-,D,E,g⟩;obtain rfl:=(Aa aT).bH<|Aa aP;have ab:=he.below (aa.trans<|g.mono aa.size) NLN;dsimp only;go_wp2_with fail
 refine(Afz al (T P) ao ap (T I) aq s P I b br (T b.s1) c3 bs (T b.s2) c4 ae bp ((l.vls rfl f).below g NLN) ((UE C ai).below g NLN) ab.vo ab.se ab.tab D.cZ E.cZ Oa Oa O2 O2 ⟨Oa,Oa⟩ ⟨Oa,Oa⟩ λv hv=>⟨H2<|(l.ok v hv).2.1,aK v hv⟩).mono ?_;rintro e d ⟨⟨z,ay,rfl,aU⟩,az⟩;dsimp only;go_upto_region 10 with fail
 refine Gd (P:=λA=>Code.wp _ _ _ _ A) λp aB RT=>?_;have q:=((o.trans<|g.mono o.size).trans<|az.mono<|zB o.size g.size).trans<|aB.mono<|zB (zB o.size g.size) az.size;have aC:=m.trans<|q.mono m.size;have RC:=aR.aA q NLN;have au:=au.aA q NLN;have aw:=aw.below q NLN;have ax:=ax.below q NLN;have t:=Ab<|show i≠0\/Kw b.cl b.us b.s1 b.s2=jE->Ug P s I b=⟨(4,0,[]),0,0⟩from λhh=>H7 (by rw[Aa k];obtain hh|hh:=hh<;>simp[hh]);have F:=Ab (show i=0->Kw b.cl b.us b.s1 b.s2=jD->AjF I N 0 (T I) (Ug P s I b)from λh0 f=>by
  have aV:Ay b.s1=jD/\Ay b.s2=jD:=by simp only[Kw,zF]at f;exact⟨f.1.2,f.2⟩
  have:=AfL (R:=b) (by rw[Aa k];exact h0) aV.1 aV.2;rw[Aa k]at this;unfold Ug;rw[H8 ⟨by rw[Aa k];exact h0,f⟩];exact this)
 have aD:=Aj aU aB NLN;generalize Ug P s I b=X at RT t F aD;obtain⟨⟨aX,aY,ss⟩,ac,sp⟩:=X;dsimp only at RT aD;clear aR q m aa ab l C B aP aT D E g o az aU aB ah aK he;obtain⟨a0,a1,a2,a3,a4⟩:jI p ⟨jh (Z d),0,U⟩=jg (V jd aX)/\jI p ⟨jh (Z d),1,U⟩=jg (V jd aY)/\jI p ⟨jh (Z d),2,U⟩=jg (Y z (T ss) ay)/\jI p ⟨jh (Z d),3,U⟩=jg (V jd ac)/\jI p ⟨jh (Z d),4,U⟩=jg (V jd sp):=⟨RT.cell 0,RT.cell 1,RT.cell 2,RT.cell 3,RT.cell 4⟩
 obtain⟨bt,bu,bv,bw,bx,bz⟩:=DN au;obtain⟨a5,a6,a7⟩:=At RC;by_cases h0:i=0
 .subst h0;have a8:=Ab aQ;go_wp2_with fail
  refine(Ni b.cl b.us b.lv b.nw _ _ _ b.s1 _ _ _ b.s2 p (by have:=(Aa a8).1;unfold maxLen;omega) (by have:=(Aa a8).2.1;unfold maxLen;omega) aw ax).mono ?_;rintro e u ⟨rfl,ad⟩;have RT:=RT.aA ad NLN;have G:=aC.trans<|ad.mono aC.size;have bA:=Aj aD ad NLN;clear a0 a1 a2 a3 a4 bt bu bv bw bx bz a5 a6 a7 aQ;obtain⟨a0,a1,a2,a3,a4⟩:jI u ⟨jh (Z d),0,U⟩=jg (V jd aX)/\jI u ⟨jh (Z d),1,U⟩=jg (V jd aY)/\jI u ⟨jh (Z d),2,U⟩=jg (Y z (T ss) ay)/\jI u ⟨jh (Z d),3,U⟩=jg (V jd ac)/\jI u ⟨jh (Z d),4,U⟩=jg (V jd sp):=⟨RT.cell 0,RT.cell 1,RT.cell 2,RT.cell 3,RT.cell 4⟩
  obtain⟨a5,a6,a7⟩:=At<|RC.aA ad NLN;cases hq:Kw b.cl b.us b.s1 b.s2 with
  |false=>
   have H:=Aa t<|.inr hq;simp only[Rn.mk.injEq,Prod.mk.injEq]at H;obtain⟨⟨rfl,rfl,rfl⟩,rfl,rfl⟩:=H;clear t F hq;dsimp only;go_wp2
   go_ret
   exact⟨rfl,G⟩
  |true=>
   obtain⟨e1,e2,e3,e4⟩:=Aa F (by first|rfl|trivial) hq
   dsimp only at e1 e2 e3 e4;have f1: ¬ ((ac:Int)<1):=Oa;have f2: ¬ ((T I:Int)<(ac:Int)):=Oa;have bJ: ¬ (N<(sp:Int)):=Oa;clear t F hq e2 e3 e4;obtain⟨rfl,rfl⟩|⟨rfl,hs⟩|⟨rfl,rfl|rfl|rfl⟩:=e1
   case' inr.inl=>
    have aE:=Ab hs;clear hs;dsimp only;go_wp2_with fail
    refine(AD z (T ss) ay ss u<|Aq.bG bA λj a9=>by have:=(FN<|Aa aE).2 _<|zI a9;rw[Dd ss j a9];unfold maxLen;omega).mono ?_;rintro e bK ⟨rfl,bB⟩;rw[Aa aE];have G:=G.trans<|bB.mono G.size;clear aE
   all_goals
    dsimp only;go_wp2
    go_ret
    exact⟨rfl,G⟩
 .have g0:(i !=0)=jD:=by rw[zV];exact h0
  have H:=Aa t<|.inl h0;simp only[Rn.mk.injEq,Prod.mk.injEq]at H;obtain⟨⟨rfl,rfl,rfl⟩,rfl,rfl⟩:=H;clear t F h0;go_wp2
  go_ret
  exact⟨rfl,aC⟩
end Go.Proofs.YtnjpihpohilnjaaGreatDoor
