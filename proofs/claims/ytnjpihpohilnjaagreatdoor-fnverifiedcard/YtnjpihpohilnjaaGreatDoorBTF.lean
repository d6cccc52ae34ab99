import Derived.Test.YtnjpihpohilnjaaGreatDoorMXAH
open List renaming length->T
open Option renaming none->U,some->Q
open Bool renaming true->jD,false->jE
namespace Go.Proofs.YtnjpihpohilnjaaGreatDoor
open Proofs.Tryz
open Value renaming int->V,slice->Y
open Addr renaming mk->jA
open World renaming cell?->jI,setCell->jJ,drew->jR
set_option maxRecDepth 100000
set_option maxHeartbeats 12800000
open Go.RowKit
set_option linter.unusedVariables false
section
variable{w w':World}{B Rr gb:Nat}{a:L0 Addr}{n c:Nat}{zs:L2}{k:Nat}{s:Gs}{pv iv sv lv:Value}{nv:List Value}
theorem Aao (cX:k<=3)(d:Nat)(hd:d<=3)(bv: 0<d->BrC B Rr gb a n c zs k d):Adv B Rr gb a n c zs k d:=by
 intro m s w hm h aY;have cn:=Ab bv;have co:=Ab aY;have af:=Ab h;obtain⟨pv,iv,sv,lv,nv,h⟩:=h;obtain⟨x,cx,rfl,-⟩:=Ae h.st;have c4:=h.row.cell 4;obtain⟨Cz,aZ⟩:∃Cz,Cz=3-d:=⟨_,rfl⟩
 have bw:=Ab aZ;rw[<-aZ];have cY:Cz<=3:=Oa;generalize bx:T s.st=low at c4|-;have cp:=Ab bx;have cZ:low<=80000:=H2 aY.st
 clear h aZ bx aY bv;go_enter func66,ntmps66
 go_wp2_with fail
 go_loopw [1] (λa0 wr=>∃ (i:Nat) (s1:Gs),i<=40/\a0=V .i64 i/\Hid (∀f,Mh (Ie zs k d) zs k low Cz i s1 f->Mh (Ie zs k d) zs k low Cz m s f)/\Hid (GS B Rr gb a n c zs k s1 wr)/\Hid (low<=T s1.st/\Fit k d i s1)/\Hid (DC Rr gb w wr)) (λa0 _=>(RowKit.intOf a0).toNat)
 case atStart=>exact⟨m,s,hm,rfl,Ab λ_ h=>h,af,Ab ⟨H2<|Aa cp,Aa co⟩,Ab<|DC.refl _ _ _⟩
 case round=>
  obtain⟨i,s1,hi,rfl,ai,a1,aq,a2⟩:=hrel;by_cases bz:i=0
  .subst bz;go_wp2_with fail
   go_end0
   exact⟨rfl,s1,Aa ai s1 rfl,Aa a1,Aa a2⟩
  obtain⟨i,rfl⟩:∃j,i=j+1:=⟨i-1,Oa⟩
  have c6:(0 :Int)<((i+1 :Nat):Int):=Oa;obtain⟨pv,iv,sv,lv,nv,h⟩:=Aa a1;obtain⟨c0,c1,c2,c3,c4,c5⟩:=h.cells;have bA:=Ab h.rd.le;have bB:=Ab h.rd.len;clear bz;go_wp2_with fail
  refine(YC Rr a n c zs s1.p wr h.rd).mono ?_;rintro r cq ⟨y,rfl,a3,c7,c8,b1⟩;have H:=h.below b1;have c9:Rr<=Array.size (World.heap wr):=H2 h.low;have a4:=Ab<|(Aa a2).trans<|.of b1;clear c0 c1 c2 c3 c4 c5 h b1;obtain⟨c0,c1,c2,c3,c4,c5⟩:=H.cells;obtain⟨xi,ci,rfl,-⟩:=Ae H.aK;dsimp only;by_cases hy: 0<y
  case' neg=>
   have ai:=Ab (Aa ai s1<|by rw[Mh,H7<|H2<|Aa a3])
  case' pos=>
   by_cases h3:T s1.I<300
   case' neg=>
    have bC: ¬ (T s1.I:Int)<300:=Oa;have ai:=Ab (Aa ai s1<|by rw[Mh,H7 Oa])
   case' pos=>
    have bC:(T s1.I:Int)<300:=Oa;go_wp2_with fail
    refine(BN Rr a n c zs s1.p cq H.rd).mono ?_;rintro r w2 ⟨x,cr,rfl,bD,cs,da,bE,a5⟩;have aN:=H.aR bE a5;have bF:=Ab<|(Aa a4).trans<|.aR a5;obtain⟨s2,aA⟩:∃s2:Gs,s2=⟨cr,s1.P,s1.I,s1.st,s1.sl⟩:=⟨_,rfl⟩
    have af:=Ab (show ∀f,GC (Ie zs k d) zs k low Cz x s2 f->∀E,Mh (Ie zs k d) zs k low Cz i f E->Mh (Ie zs k d) zs k low Cz m s E from λf hs E l=>Aa ai E (by
     rw[Mh,H8 ⟨by have:=Aa a3;have:=Aa bA;have:=Aa bB;omega,h3⟩];exact⟨f,by rw[YB,Aa bD,<-aA];exact hs,l⟩))
    have o:=Ab (show low<=T s2.st/\Fit k d (i+1) s2 by rw[aA];exact⟨(Aa aq).1,(Aa aq).2.aK,(Aa aq).2.aI,(Aa aq).2.st,(Aa aq).2.sl⟩);rw[<-aA]at aN;have bG:s2.I=s1.I:=by rw[aA]
    rw[<-bG]at aN c3;clear bG aA bD H bE a5 ai aq a1 a4 a2 a3 bA bB h3 bC hy c0 c1 c2 c3 c4 c5;have ct:=(Aa o).2.aK;have cu:=(Aa o).2.aI;have hb3:=(Aa o).2.st;have cv:=Ads d;have cw: 1<=2 ^ d:=Nat.one_le_two_pow;have db:T s2.I<=80000:=Oa;have dc:T s2.P<=80000:=Oa;have dd:T s2.st<=80000:=Oa;clear ct cu hb3 cv cw;dsimp only
    as_aux_lemma=>
     go_upto_if 49 with fail
     go_cut [9] (λv aa=>v=V .i64 (8+x % 17)/\aa=w2)
     case first=>
      by_cases g: 3<=x % 17
      .have cy:(8 :Int)<=5+x % 17:=Oa;go_wp2
       go_meet
       exact⟨by rw[(Oa:(11+(5+x % 17)-8 :Int)=8+x % 17)],rfl⟩
      .have cy: ¬ (8 :Int)<=5+x % 17:=Oa;go_wp2
       go_meet
       exact⟨by rw[(Oa:(8+(5+x % 17)-5 :Int)=8+x % 17)],rfl⟩
     case rest=>
      obtain⟨rfl,O⟩:=hcut;rw[O];clear O;go_wp2_with fail
      refine(Tf (8+x % 17) (by unfold Iy;omega) w2).mono ?_;rintro r ap ⟨⟨cz,M,d4,rfl,aO⟩,b4⟩;have ab:=aN.below b4;have ar:=Ab<|(Aa bF).trans<|.of b4;have aP:=Ab<|AbA (8+x % 17) Oa Oa;generalize bH:Ds (8+x % 17)=cA at aO aP|-;have a6:=Ab bH;obtain⟨bI,out⟩:=cA;have au:=Ab aO.len;clear aN b4 bF bH;go_upto_region 11 with fail
      go_cut [63] (λv aa=>∃b:Bool,v= .bool b/\Hid (b=jD↔(0<x % 3/\low+M<=T s2.st/\UA bI s2.st))/\aa=ap)
      case first=>
       as_aux_lemma=>
        obtain⟨c0,c1,c2,c3,c4,c5⟩:=ab.cells;obtain⟨⟨bJ,av,rfl,-,-⟩,-⟩:=ab.int;have de:M<=2:=by have:=(Aa aP).2;rw[Aa au]at this;exact this
        by_cases aQ: 0<x % 3
        .by_cases aB:low+M<=T s2.st
         .have cB:(low:Int)<=(T s2.st:Int)-(M:Int):=Oa;go_wp2_with fail
          refine(Aj3 ⟨_,_,_,_,_,ab⟩ cz M d4 bI aO Oa).mono ?_;rintro r ac ⟨b,rfl,bK,cC⟩;rw[cC];dsimp only;go_wp2
          go_meet
          exact⟨b,rfl,Ab ⟨λe=>⟨aQ,aB,bK.1 e⟩,λe=>bK.2 e.2.2⟩,rfl⟩
         .have cB:decide ((low:Int)<=(T s2.st:Int)-(M:Int))=jE:=zH Oa;have cD:=Ab aB;clear aB;go_wp2
          go_meet
          exact⟨jE,rfl,Ab ⟨λe=>O5,λe=>H9 e.2.1<|H2<|Aa cD⟩,rfl⟩
        .have cE:=Ab aQ;go_wp2
         go_meet
         exact⟨jE,rfl,Ab ⟨λe=>O5,λe=>H9 e.1<|H2<|Aa cE⟩,rfl⟩
      case rest=>
       obtain⟨b,rfl,ag,O⟩:=hcut;rw[O];clear O;cases b
       case true=>
        as_aux_lemma=>
         have a7:=(Aa ag).1 rfl;have F:=Ab (show ∀f,f=Nr (Mk (ET s2 (5+x % 17) 0) M) out->GC (Ie zs k d) zs k low Cz x s2 f from λf e=>by
          unfold GC;rw[Aa a6,H8<|by rw[Aa au];exact a7,Aa au];exact e)
         have cF: 1<=M:=by have:=(Aa aP).1;rw[Aa au]at this;exact this
         have cG:M<=T s2.st:=H2 a7.2.1;clear a7 ag;go_wp2_with fail
         refine(Ix ⟨_,_,_,_,_,ab⟩ (5+x % 17) 0 Oa).mono ?_;rintro r ac ⟨rfl,cH,rfl,⟨df,dg,dh,di,dj,h5⟩,b5⟩;obtain⟨⟨bJ,av,rfl,aC,aD⟩,-⟩:=h5.int;obtain⟨g,rfl,-⟩:=aD 0 (Oa:0<T s2.st);have c4:jI ac (jA gb 4 U)=Q (Y (Q<|jA g 0 U) (T s2.st) av):=h5.row.cell 4;have bL:=h5.row.frozen 4;have a8:T s2.st<=av:=aC;obtain⟨z,bM⟩:∃z,T s2.st-M=z:=⟨_,rfl⟩
         have a9:IntKind.i64.wrap ((T s2.st:Int)-(M:Int))=(z:Int):=by
          rw[(Oa:(T s2.st:Int)-(M:Int)=(z:Int))];simp[IntKind.wrap,IntKind.bits,IntKind.signed];omega
         have bN: ¬ (av=0):=Oa;have bO:(z:Int)<=(av:Int):=Oa;have bP:(0 :Int)<=(z:Int):=Oa;have cI:=Ab bM;have S:=Ab<|(Aa ar).trans b5;clear aD aC a8 bM ab b5 ar cG cF;dsimp only;go_wp2_with fail
         go_region
         all_goals
          obtain⟨J,aj⟩:=h5.pop M z<|Aa cI;have ak:=J.below BRN.drew;have aE:=Ab<|((Aa S).trans aj).drew;clear J aj c4 bL a9 bO bP bN;go_wp2_with fail
          refine(PV ⟨_,_,_,_,_,ak⟩ out<|by show T (s2.st.take<|T s2.st-M)<=100000;rw[zg];omega).mono ?_;rintro r ad ⟨rfl,u,K,G,N⟩;have q:=Ab<|Aa F u K;have L:=Ab<|(Aa aE).trans N;clear ak aE S N K F
         all_goals
          try dsimp only
          go_wp2
          go_roundw
          case rel=>exact⟨i,u,Oa,O1,Ab λE l=>Aa af u (Aa q) E l,Ab G,Ab ⟨((Aa q).bQ (λt A=>Ie.bQ zs k d low t A) (Aa o).1).low,(Aa o).2.next<|(Aa q).bQ (λt A=>Ie.bQ zs k d low t A) (Aa o).1⟩,L⟩
          case measure=>simp[RowKit.intOf]
       case false=>
        as_aux_lemma=>
         have ag:=Ab (show ¬ (0<x % 3/\low+T (Ds<|8+x % 17).1<=T s2.st/\UA (Ds<|8+x % 17).1 s2.st)from λe=>by rw[Aa a6,Aa au]at e;exact H9 ((Aa ag).2 e) Ox);clear aO aP au a6;obtain⟨c0,c1,c2,c3,c4,c5⟩:=ab.cells;obtain⟨⟨bJ,av,rfl,aC,aD⟩,⟨dk,cl,rfl,ba⟩⟩:=ab.int;have bb:=(Aa o).2.sl;rw[bb]at c5 ba;have bR:=Ab ba;have cJ:=Ab aD;have dl:=Ab aC;have dm:=Ab bb;clear aD ba aC bb;have cK:=Ab (show ¬ (x % 7=6/\low<T s2.st/\0<k)->¬ (x % 7=5/\0<k/\0<s2.sl.getD (x / 7 % k).toNat 0)->¬ x % 7=4->¬ (x % 7=3/\Cz<3/\low<T s2.st/\Id s2.st=1)->∀f,VaX zs s2 f->GC (Ie zs k d) zs k low Cz x s2 f from λa b c e f h=>by
          unfold GC;rw[H7<|Aa ag,H7 a,H7 b,H7 c,H7 e];exact h)
         go_upto_region 15 with fail
         go_cut [106] (λv aa=>∃b:Bool,v= .bool b/\Hid (b=jD↔(x % 7=6/\low<T s2.st/\0<k))/\aa=ap)
         case first=>
          as_aux_lemma=>
           by_cases e6:x % 7=6
           .have cL:(x % 7==6)=jD:=zD.2 e6;have bc:=Ab e6;by_cases l:low<T s2.st
            .have aS:(low:Int)<(T s2.st:Int):=Oa;have bd:=Ab l;clear e6 l;go_wp2
             go_meet
             exact⟨decide (0<k),rfl,Ab ⟨λe=>⟨Aa bc,H2<|Aa bd,K8 e⟩,λe=>zJ e.2.2⟩,rfl⟩
            .have aS:decide ((low:Int)<(T s2.st:Int))=jE:=zH Oa;have bS:decide (low<T s2.st)=jE:=zH l;have bd:=Ab l;clear e6 l;go_wp2
             go_meet
             exact⟨jE,rfl,Ab ⟨λe=>O5,λe=>H9 e.2.1<|H2<|Aa bd⟩,rfl⟩
           .have cL:(x % 7==6)=jE:=zA.2 e6;have bc:=Ab e6;clear e6;go_wp2
            go_meet
            exact⟨jE,rfl,Ab ⟨λe=>O5,λe=>H9 e.1<|Aa bc⟩,rfl⟩
         case rest=>
          obtain⟨b,rfl,bf,O⟩:=hcut;rw[O];clear O;cases b
          case true=>
           as_aux_lemma=>
            obtain⟨e6,l,W⟩:=(Aa bf).1 rfl;have aS:(low:Int)<(T s2.st:Int):=Oa;have aw:(0 :Int)<(k:Int):=Oa;obtain⟨t,ht⟩:∃t,T s2.st=t+1:=⟨T s2.st-1,Oa⟩
            obtain⟨g,rfl,aT⟩:=Aa cJ t Oa;have a9:IntKind.i64.wrap ((T s2.st:Int)-1)=(t:Int):=by rw[ht];simp[IntKind.wrap,IntKind.bits,IntKind.signed];omega
            have cM:(t:Int)<(T s2.st:Int):=Oa;have bT:=Ab (show s2.st.getD t 0=Id s2.st by rw[Id,ht];rfl);have bU:=Ab ht;generalize s2.st.getD t 0=ty at aT bT;clear ht;obtain⟨j,ae⟩:∃j:Nat,x / 7 % k=(j:Int):=⟨(x / 7 % k).toNat,by have:=Int.emod_nonneg (x / 7) (Oa:(k:Int)≠0);omega⟩
            have dn:(j:Int)<(k:Int):=by rw[<-ae];exact Int.emod_lt_of_pos _ aw
            obtain⟨aF,rfl,aG,bg⟩:=Aa bR j Oa;have aU:=Ab (show s2.sl.getD (x / 7 % k).toNat 0=s2.sl.getD j 0 by rw[ae];rfl);have cN:=Ab ae;generalize s2.sl.getD j 0=C at aG aU;have bV:=Ab (show ∀f,(if C=0/\Cz=0\/C=ty then f=Mk (ET (YA s2 j ty) 4 j) 1 else f=s2)->GC (Ie zs k d) zs k low Cz x s2 f from λf e=>by
             unfold GC;rw[H7<|Aa ag,H8 ⟨e6,l,W⟩,Aa aU,<-Aa bT,ae];exact e)
            clear e6 l W ae;go_wp2_with fail
            go_region
            rw[Aa cN];have h5:=ab.below BRN.drew;have S:=Ab (Aa ar).drew;have bW:jI (jR ap) (jA aF j U)=Q (V .i64 C):=aG;have bX:World.frozen? (jR ap) (jA aF j U)=jE:=bg;have bY:jI (jR ap) (jA gb 5 U)=Q (Y (Q<|jA aF 0 U) k cl):=c5;clear c0 c1 c2 c3 c4 c5 aT aG bg ab ar;generalize jR ap=ac at h5 S bW bX bY|-;go_upto_region 18 with fail
            go_cut [169] (λv aa=>∃b:Bool,v= .bool b/\Hid (b=jD↔(C=0/\Cz=0\/C=ty))/\aa=ac)
            case first=>
             as_aux_lemma=>
              by_cases bh:C=ty
              case' pos=>have bZ:(C==ty)=jD:=zD.2 bh
              case' neg=>have bZ:(C==ty)=jE:=zA.2 bh
              all_goals
               by_cases bi:C=0
               case' neg=>have b0:(C==0)=jE:=zA.2 bi
               case' pos=>
                have b0:(C==0)=jD:=zD.2 bi;by_cases bj:Cz=0
                case' pos=>have b2:((Cz:Int)==0)=jD:=zD.2 Oa
                case' neg=>have b2:((Cz:Int)==0)=jE:=zA.2 Oa
               all_goals
                have ax:∃b:Bool,Hid (b=jD↔(C=0/\Cz=0\/C=ty))/\Hid (b=((C==0)&&((Cz:Int)==0)||(C==ty))):=⟨_,Ab Ox,Ab rfl⟩
                simp only[bZ,b0]at ax
                try simp only[b2]at ax
                clear bh bi;go_wp2
                go_meet
                obtain⟨b,cO,aH⟩:=ax;exact⟨b,by rw[Aa aH];rfl,cO,rfl⟩
            case rest=>
             obtain⟨b,rfl,ax,O⟩:=hcut;rw[O];clear O;cases b
             case false=>
              as_aux_lemma=>
               obtain⟨u,K⟩:∃u,u=s2:=⟨_,rfl⟩
               have q:=Ab (Aa bV u<|by rw[H7 λe=>by have:=(Aa ax).2 e;cases this];exact K);rw[<-K]at h5;have G:GS B Rr gb a n c zs k u ac:=⟨_,_,_,_,_,h5⟩
               have L:=S;clear K h5;go_wp2_with fail
               generalize ac=ad at G L|-
               try dsimp only
               go_wp2
               go_roundw
               case rel=>exact⟨i,u,Oa,O1,Ab λE l=>Aa af u (Aa q) E l,Ab G,Ab ⟨((Aa q).bQ (λt A=>Ie.bQ zs k d low t A) (Aa o).1).low,(Aa o).2.next<|(Aa q).bQ (λt A=>Ie.bQ zs k d low t A) (Aa o).1⟩,L⟩
               case measure=>simp[RowKit.intOf]
             case true=>
              as_aux_lemma=>
               have F:=Ab (show ∀f,f=Mk (ET (YA s2 j ty) 4 j) 1->GC (Ie zs k d) zs k low Cz x s2 f from λf e=>Aa bV f<|by rw[H8<|(Aa ax).1 rfl];exact e);go_wp2_with fail
               obtain⟨J,aj⟩:=h5.slt (m:=0) j ty;have ay:=Ab<|(Aa S).trans aj;generalize jJ ac (jA aF j U) (V .i64 ty)=aJ at J ay|-;refine(Ix ⟨_,_,_,_,_,J⟩ 4 j (Oa:T s2.I<=100000)).mono ?_;rintro r b3 ⟨rfl,dp,rfl,⟨dq,dr,ds,dt,du,ak⟩,b6⟩;clear bW bX bY h5 J;obtain⟨⟨dv,aL,rfl,b7,b8⟩,-⟩:=ak.int;obtain⟨g7,rfl,-⟩:=b8 0 (by show 0<T s2.st;have:=Aa bU;omega);have c4:jI b3 (jA gb 4 U)=Q (Y (Q<|jA g7 0 U) (T s2.st) aL):=ak.row.cell 4;have bL:=ak.row.frozen 4;have a8:T s2.st<=aL:=b7;have bN: ¬ (aL=0):=Oa;have bO:(t:Int)<=(aL:Int):=Oa;have bP:(0 :Int)<=(t:Int):=Oa;have aE:=Ab<|(Aa ay).trans b6;clear b8 b7 a8 b6 ay aj;dsimp only;go_wp2_with fail
               go_region
               all_goals
                obtain⟨b9,ca⟩:=ak.pop 1 t (by show T s2.st-1=t;have:=Aa bU;omega);have G:GS B Rr gb a n c zs k _ _:=⟨_,_,_,_,_,b9.below BRN.drew⟩
                have L:=Ab<|((Aa aE).trans ca).drew;have q:=Ab<|Aa F _ rfl;generalize Mk (ET (YA s2 j ty) 4 j) 1=u at q G;generalize jR (jJ b3 (jA gb 4 U) (Y (Q (jA g7 0 U)) t aL))=ad at G L|-;clear b9 ca ak aE
                try dsimp only
                go_wp2
                go_roundw
                case rel=>exact⟨i,u,Oa,O1,Ab λE l=>Aa af u (Aa q) E l,Ab G,Ab ⟨((Aa q).bQ (λt A=>Ie.bQ zs k d low t A) (Aa o).1).low,(Aa o).2.next<|(Aa q).bQ (λt A=>Ie.bQ zs k d low t A) (Aa o).1⟩,L⟩
                case measure=>simp[RowKit.intOf]
          case false=>
           have aV:=Ab (show ¬ (x % 7=6/\low<T s2.st/\0<k)from λe=>by have:=(Aa bf).2 e;cases this);clear bf;go_upto_region 22 with fail
           go_cut [194] (λv aa=>∃b:Bool,v= .bool b/\Hid (b=jD↔(x % 7=5/\0<k/\0<s2.sl.getD (x / 7 % k).toNat 0))/\Ai ap aa)
           case first=>
            as_aux_lemma=>
             by_cases e5:x % 7=5
             case' neg=>
              have bk:(x % 7==5)=jE:=zA.2 e5;have al:=Ab<|show ¬ (x % 7=5/\0<k/\0<s2.sl.getD (x / 7 % k).toNat 0)from λh=>e5 h.1
             case' pos=>
              have bk:(x % 7==5)=jD:=zD.2 e5;by_cases W: 0<k
              case' neg=>
               have aw:decide ((0 :Int)<(k:Int))=jE:=zH Oa;have cP:decide (0<k)=jE:=zH W;have al:=Ab<|show ¬ (x % 7=5/\0<k/\0<s2.sl.getD (x / 7 % k).toNat 0)from λh=>W h.2.1
              case' pos=>
               have aw:(0 :Int)<(k:Int):=Oa;have cP: 0<k:=W;have dw:decide (0<k)=jD:=zJ W;have bl: ¬ ((k:Int)=0):=Oa;have bm:=Int.emod_nonneg (x / 7) bl;have n1:=Int.emod_lt_of_pos (x / 7) aw;obtain⟨aF,rfl,aG,bg⟩:=Aa bR (x / 7 % k).toNat Oa;generalize ah:s2.sl.getD (x / 7 % (k:Int)).toNat 0=C at aG;by_cases ae: 0<C
               case' pos=>have bn:=Ab<|show x % 7=5/\0<k/\0<s2.sl.getD (x / 7 % k).toNat 0 from⟨e5,W,by rw[ah];exact ae⟩
               case' neg=>
                have dx:decide (0<C)=jE:=zH ae;have al:=Ab (show ¬ (x % 7=5/\0<k/\0<s2.sl.getD (x / 7 % k).toNat 0)from λh=>ae<|by rw[<-ah];exact h.2.2);clear ae
               all_goals clear ah
              all_goals clear W
             all_goals
              clear e5;go_wp2_with fail
              go_quiet (fail)
              go_wp2
              go_meet
              first
              |exact⟨jD,rfl,Ab ⟨λ_=>Aa bn,λ_=>rfl⟩,below_drewN BRN _⟩
              |exact⟨jE,rfl,Ab ⟨λe=>O5,λe=>H9 e<|Aa al⟩,below_drewN BRN _⟩
           case rest=>
            obtain⟨b,rfl,bo,bp⟩:=hcut;have h5:=ab.below bp;have S:=Ab<|(Aa ar).trans<|.of bp;clear c0 c1 c2 c3 c4 c5 ab ar bp;cases b
            case true=>
             as_aux_lemma=>
              obtain⟨e5,W,ah⟩:=(Aa bo).1 rfl;have aw:(0 :Int)<(k:Int):=Oa;have bl: ¬ ((k:Int)=0):=Oa;have dy: ¬ k=0:=Oa;have bm:=Int.emod_nonneg (x / 7) bl;have n1:=Int.emod_lt_of_pos (x / 7) aw;obtain⟨D,cb⟩:∃D:Nat,x / 7 % (k:Int)=(D:Int):=⟨(x / 7 % (k:Int)).toNat,(Int.toNat_of_nonneg bm).symm⟩
              have F:=Ab (show ∀f,f=Nr (ET s2 3 D) (s2.sl.getD D 0)->GC (Ie zs k d) zs k low Cz x s2 f from λf e=>by
               unfold GC;rw[H7<|Aa ag,H7<|Aa aV,H8 ⟨e5,W,ah⟩,cb,zS];exact e)
              have cc:D<k:=Oa;have dz:(D:Int)<(k:Int):=Oa;have cQ:(x / 7).tmod (k:Int)=(D:Int):=by rw[<-cb];exact Int.tmod_eq_emod_of_nonneg Oa
              have dA:(0 :Int)<=(D:Int):=Oa;have hq:(IntKind.i64.wrap<|x.tdiv 7).tmod (k:Int)=(D:Int):=by
               rw[show x.tdiv 7=x / 7 from Int.tdiv_eq_ediv_of_nonneg cs,show IntKind.i64.wrap (x / 7)=x / 7 by (simp[IntKind.wrap,IntKind.bits,IntKind.signed];omega),cQ]
              have c2:jI wc (jA gb 2 U)=Q (V .i64 k):=h5.row.cell 2;clear e5 W ah bm n1;go_wp2_with fail
              refine(Ix ⟨_,_,_,_,_,h5⟩ 3 (D:Int) Oa).mono ?_;rintro r aJ ⟨rfl,dB,rfl,⟨dC,dD,dE,dF,dG,J⟩,aj⟩;obtain⟨-,⟨dH,br,rfl,cd⟩⟩:=J.int;have aW:T (ET s2 3 D).sl=k:=(Aa o).2.sl;obtain⟨az,rfl,ce,-⟩:=cd D (by rw[aW];exact cc);have dI:jI aJ (jA gb 2 U)=Q (V .i64 k):=J.row.cell 2;have dJ:jI aJ (jA gb 5 U)=Q (Y (Q<|jA az 0 U) k br):=by have:=J.row.cell 5;rw[aW]at this;exact this
              have cS:jI aJ (jA az D U)=Q (V .i64<|s2.sl.getD D 0):=ce;generalize ah:s2.sl.getD D 0=C at cS F;have aU:=Ab ah;have cf:=Ab aW;clear cd ce c2 ah aW;dsimp only;go_wp2_with fail
              go_region_held3 (λbs=>jI bs (jA gb 2 U)=Q (V .i64 k)/\jI bs (jA gb 5 U)=Q (Y (Q<|jA az 0 U) k br)/\jI bs (jA az D U)=Q (V .i64 C)) (first|assumption|go_keep|fail) ((go_at_call 108;refine(VK (J.below BRN.drew) C (Oa:T s2.st<=100000)).mono ?_;rintro r ad ⟨rfl,⟨dK,aM⟩,N⟩;have q2:jI ad (jA gb 2 U)=Q (V .i64 k):=aM.row.cell 2;have bk:jI ad (jA gb 5 U)=Q (Y (Q<|jA az 0 U) k br):=by { have:=aM.row.cell 5;rw[Aa cf]at this;exact this };have cT:jI ad (jA az D U)=Q (V .i64 C):=Aj4 aM _ (Nat.lt_of_lt_of_eq cc (Aa cf).symm)<|Aa aU))
              all_goals
               have G:GS B Rr gb a n c zs k (Nr (ET s2 3 D) C) ad:=⟨_,_,_,_,_,aM⟩
               have q:=Ab<|Aa F _ rfl;generalize Nr (ET s2 3 D) C=u at G q;have L:=Ab<|((Aa S).trans aj).drew.trans N;clear F aj N J aM q2 bk cT
               try dsimp only
               go_wp2
               go_roundw
               case rel=>exact⟨i,u,Oa,O1,Ab λE l=>Aa af u (Aa q) E l,Ab G,Ab ⟨((Aa q).bQ (λt A=>Ie.bQ zs k d low t A) (Aa o).1).low,(Aa o).2.next<|(Aa q).bQ (λt A=>Ie.bQ zs k d low t A) (Aa o).1⟩,L⟩
               case measure=>simp[RowKit.intOf]
            case false=>
             have bt:=Ab (show ¬ (x % 7=5/\0<k/\0<s2.sl.getD (x / 7 % k).toNat 0)from λe=>by have:=(Aa bo).2 e;cases this);clear bo;by_cases e4:x % 7=4
             .as_aux_lemma=>
               have aB:(x % 7==4)=jD:=zD.2 e4;have F:=Ab (show ∀f,f=Nr (ET s2 2<|x / 7 % 6) (BI<|x / 7 % 6)->GC (Ie zs k d) zs k low Cz x s2 f from λf e=>by
                unfold GC;rw[H7<|Aa ag,H7<|Aa aV,H7<|Aa bt,H8 e4];exact e)
               clear e4;go_wp2_with fail
               refine(Ix ⟨_,_,_,_,_,h5⟩ 2 (x / 7 % 6) Oa).mono ?_;rintro r ac ⟨rfl,cH,rfl,cg,b5⟩;dsimp only;go_wp2_with fail
               refine(EU (x / 7 % 6) ac).mono ?_;rintro r aJ ⟨rfl,ch⟩;rw[ch];dsimp only;go_wp2_with fail
               refine(PV cg (BI<|x / 7 % 6) (Oa:T s2.st<=100000)).mono ?_;rintro r ad ⟨rfl,u,K,G,N⟩;have q:=Ab<|Aa F u K;have L:=Ab<|((Aa S).trans b5).trans N;clear K F cg b5 N ch
               try dsimp only
               go_wp2
               go_roundw
               case rel=>exact⟨i,u,Oa,O1,Ab λE l=>Aa af u (Aa q) E l,Ab G,Ab ⟨((Aa q).bQ (λt A=>Ie.bQ zs k d low t A) (Aa o).1).low,(Aa o).2.next<|(Aa q).bQ (λt A=>Ie.bQ zs k d low t A) (Aa o).1⟩,L⟩
               case measure=>simp[RowKit.intOf]
             .have aB:(x % 7==4)=jE:=zA.2 e4;have cj:=Ab e4;clear e4;go_upto_region 28 with fail
              generalize O:wc=ac at h5 S|-;clear O;go_cut [264] (λv aa=>∃b:Bool,v= .bool b/\Hid (b=jD↔(x % 7=3/\Cz<3/\low<T s2.st/\Id s2.st=1))/\Ai ac aa)
              case first=>
               as_aux_lemma=>
                obtain⟨c0,c1,c2,c3,c4,c5⟩:=h5.cells;by_cases e3:x % 7=3
                case' neg=>
                 have aQ:(x % 7==3)=jE:=zA.2 e3;have al:=Ab<|show ¬ (x % 7=3/\Cz<3/\low<T s2.st/\Id s2.st=1)from λh=>e3 h.1
                case' pos=>
                 have aQ:(x % 7==3)=jD:=zD.2 e3;by_cases ao:Cz<3
                 case' neg=>
                  have cU:decide ((Cz:Int)<3)=jE:=zH Oa;have cV:decide (Cz<3)=jE:=zH ao;have al:=Ab<|show ¬ (x % 7=3/\Cz<3/\low<T s2.st/\Id s2.st=1)from λh=>ao h.2.1
                 case' pos=>
                  have cU:(Cz:Int)<3:=Oa;have cV:Cz<3:=ao;by_cases l:low<T s2.st
                  case' neg=>
                   have aS:decide ((low:Int)<(T s2.st:Int))=jE:=zH Oa;have bS:decide (low<T s2.st)=jE:=zH l;have al:=Ab<|show ¬ (x % 7=3/\Cz<3/\low<T s2.st/\Id s2.st=1)from λh=>l h.2.2.1;clear l
                  case' pos=>
                   have aS:(low:Int)<(T s2.st:Int):=Oa;have bS:low<T s2.st:=l;obtain⟨t,ht⟩:∃t,T s2.st=t+1:=⟨T s2.st-1,Oa⟩
                   obtain⟨⟨dL,dM,e5,-,ck⟩,-⟩:=h5.int;cases e5;obtain⟨g,rfl,aT⟩:=ck t Oa;have a9:IntKind.i64.wrap ((T s2.st:Int)-1)=(t:Int):=by rw[ht];simp[IntKind.wrap,IntKind.bits,IntKind.signed];omega
                   have cM:(t:Int)<(T s2.st:Int):=Oa;have aX:s2.st.getD t 0=Id s2.st:=by rw[Id,ht];rfl
                   generalize s2.st.getD t 0=ty at aT aX;by_cases H:ty=1
                   case' pos=>
                    have cW:(ty==1)=jD:=zD.2 H;have bn:=Ab<|show x % 7=3/\Cz<3/\low<T s2.st/\Id s2.st=1 from⟨e3,ao,l,by rw[<-aX];exact H⟩
                   case' neg=>
                    have cW:(ty==1)=jE:=zA.2 H;have al:=Ab (show ¬ (x % 7=3/\Cz<3/\low<T s2.st/\Id s2.st=1)from λh=>H<|by rw[aX];exact h.2.2.2)
                   all_goals clear H aX ht ck l
                 all_goals clear ao
                all_goals
                 clear e3;go_wp2_with fail
                 first|go_quiet (fail)|go_region
                 go_wp2
                 go_meet
                 first
                 |exact⟨jD,rfl,Ab ⟨λ_=>Aa bn,λ_=>rfl⟩,(by first|exact below_drewN BRN _|exact BRN.drew)⟩
                 |exact⟨jE,rfl,Ab ⟨λe=>O5,λe=>H9 e<|Aa al⟩,(by first|exact below_drewN BRN _|exact BRN.drew)⟩
              case rest=>
               obtain⟨b,rfl,cm,bu⟩:=hcut;have J:=h5.below bu;have ay:=Ab<|(Aa S).trans<|.of bu;clear h5 S bu;cases b
               case true=>
                as_aux_lemma=>
                 obtain⟨e3,ao,l,H⟩:=(Aa cm).1 rfl;have F:=Ab (show ∀f,Ie zs k d s2 f->GC (Ie zs k d) zs k low Cz x s2 f from λf e=>by
                  unfold GC;rw[H7<|Aa ag,H7<|Aa aV,H7<|Aa bt,H7<|Aa cj,H8 ⟨e3,ao,l,H⟩];exact e)
                 have bj: 0<d:=H2<|Aa bw;have aH:=Ab<|Aa cn bj s2 wc ⟨_,_,_,_,_,J⟩ Oa ⟨by have:=(Aa o).2.aK;rw[Nat.add_mul]at this;omega,by have:=(Aa o).2.aI;rw[Nat.add_mul]at this;omega,by have:=(Aa o).2.st;rw[Nat.add_mul]at this;omega,(Aa o).2.sl⟩;rw[<-Aa bw]at aH;clear e3 ao l H bj;go_wp2_with fail
                 refine(Aa aH).mono ?_;rintro r ad ⟨rfl,u,K,G,N⟩;have q:=Ab<|Aa F u K;have L:=Ab<|(Aa ay).trans N;clear K F N aH
                 try dsimp only
                 go_wp2
                 go_roundw
                 case rel=>exact⟨i,u,Oa,O1,Ab λE l=>Aa af u (Aa q) E l,Ab G,Ab ⟨((Aa q).bQ (λt A=>Ie.bQ zs k d low t A) (Aa o).1).low,(Aa o).2.next<|(Aa q).bQ (λt A=>Ie.bQ zs k d low t A) (Aa o).1⟩,L⟩
                 case measure=>simp[RowKit.intOf]
               case false=>
                as_aux_lemma=>
                 have F:=Ab (Aa cK (Aa aV) (Aa bt) (Aa cj) λe=>by have:=(Aa cm).2 e;cases this);go_wp2_with fail
                 refine(Aam ⟨_,_,_,_,_,J⟩ Oa Oa Oa).mono ?_;rintro r ad ⟨rfl,u,K,G,N⟩;have q:=Ab<|Aa F u K;have L:=Ab<|(Aa ay).trans N;clear K F N
                 try dsimp only
                 go_wp2
                 go_roundw
                 case rel=>exact⟨i,u,Oa,O1,Ab λE l=>Aa af u (Aa q) E l,Ab G,Ab ⟨((Aa q).bQ (λt A=>Ie.bQ zs k d low t A) (Aa o).1).low,(Aa o).2.next<|(Aa q).bQ (λt A=>Ie.bQ zs k d low t A) (Aa o).1⟩,L⟩
                 case measure=>simp[RowKit.intOf]
  all_goals
   go_wp2_with fail
   go_end0
   exact⟨rfl,s1,Aa ai,⟨_,_,_,_,_,H⟩,Aa a4⟩
end
end Go.Proofs.YtnjpihpohilnjaaGreatDoor
