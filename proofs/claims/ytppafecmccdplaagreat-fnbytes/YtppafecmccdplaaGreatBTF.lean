import Derived.Test.YtppafecmccdplaaGreatBTF0
import Derived.Deep.DeepCutAuto
open Go.Proofs.Tryz
open Option renaming none->T,some->Y
open Go.Value renaming int->U,slice->X
open Bool renaming false->jA
namespace Go.Proofs.YtppafecmccdplaaGreat
set_option maxRecDepth 100000
set_option maxHeartbeats 12800000
open Go.RowKit
set_option linter.unusedVariables false
section
variable {w w' : World} {B R gb : Nat} {a : Option Addr} {n c : Nat} {zs : List Int} {k : Nat} {s : Gs} {pv iv sv lv : Value} {nv : List Value}
theorem Y5 (hk:k<=3)(d:Nat)(hd:d<=3)(bs: 0<d->BrC B R gb a n c zs k d):AbS B R gb a n c zs k d:=by
 intro m s w hm h aV;have cj:=Ab bs;have ck:=Ab aV;have ae:=Ab h;obtain⟨cm,cn,co,lv,cp,h⟩:=h;obtain⟨x,cx,rfl,-⟩:=Ae h.st;have c4:=h.row.cell 4;obtain⟨Cq,aW⟩:∃Cq,Cq=3-d:=⟨_,rfl⟩
 have bt:=Ab aW;rw[<-aW];have c6:Cq<=3:=by omega
 generalize bu:s.st.length=low at c4|-;have cq:=Ab bu;have c7:low<=80000:=by have:=aV.st;omega
 clear h aW bu aV bs;go_enter func55,ntmps55
 go_wp2_with fail
 go_loopw [1] (fun aX wr=>∃ (i:Nat) (s1:Gs),i<=40/\aX=U .i64 i/\Hid (∀f,Mf (Hj zs k d) zs k low Cq i s1 f->Mf (Hj zs k d) zs k low Cq m s f)/\Hid (GS B R gb a n c zs k s1 wr)/\Hid (low<=s1.st.length/\Fit k d i s1)/\Hid (DY R gb w wr)) (fun aX _=>(RowKit.intOf aX).toNat)
 case atStart=>exact⟨m,s,hm,rfl,Ab fun _ h=>h,ae,Ab ⟨by have:=Aa cq;omega,Aa ck⟩,Ab (DY.refl _ _ _)⟩
 case round=>
  obtain⟨i,s1,hi,rfl,ah,aY,aq,aZ⟩:=hrel;by_cases bv:i=0
  ·subst bv;go_wp2_with fail
   go_end0
   exact⟨rfl,s1,Aa ah s1 rfl,Aa aY,Aa aZ⟩
  obtain⟨i,rfl⟩:∃j,i=j+1:=⟨i-1,by omega⟩
  have c8:(0 :Int)<((i+1 :Nat):Int):=by omega
  obtain⟨cm,cn,co,lv,cp,h⟩:=Aa aY;obtain⟨c0,c1,c2,c3,c4,c5⟩:=h.cells;have bw:=Ab h.rd.le;have bx:=Ab h.rd.len;clear bv;go_wp2_with fail
  refine(XG R a n c zs s1.p wr h.rd).mono ?_;rintro r cr ⟨y,rfl,a0,c9,da,b1⟩;have h1:=h.below b1;have db:R<=wr.heap.size:=by have:=h.low;omega
  have a1:=Ab ((Aa aZ).trans (.of b1));clear c0 c1 c2 c3 c4 c5 h b1;obtain⟨c0,c1,c2,c3,c4,c5⟩:=h1.cells;obtain⟨xi,ci,rfl,-⟩:=Ae h1.ins;dsimp only;by_cases hy: 0<y
  case' neg=>
   have ah:=Ab (Aa ah s1 (by rw[Mf,if_neg (by have:=Aa a0;omega)]))
  case' pos=>
   by_cases bz:s1.I.length<300
   case' neg=>
    have bA: ¬ (s1.I.length:Int)<300:=by omega
    have ah:=Ab (Aa ah s1 (by rw[Mf,if_neg (by omega)]))
   case' pos=>
    have bA:(s1.I.length:Int)<300:=by omega
    go_wp2_with fail
    refine(BH R a n c zs s1.p cr h1.rd).mono ?_;rintro r w2 ⟨x,cs,rfl,bB,ct,dc,bC,a2⟩;have aL:=h1.touch bC a2;have bD:=Ab ((Aa a1).trans (.touch a2));obtain⟨s2,aA⟩:∃s2:Gs,s2=⟨cs,s1.P,s1.I,s1.st,s1.sl⟩:=⟨_,rfl⟩
    have ae:=Ab (show ∀f,Gx (Hj zs k d) zs k low Cq x s2 f->∀E,Mf (Hj zs k d) zs k low Cq i f E->Mf (Hj zs k d) zs k low Cq m s E from fun f hs E l=>Aa ah E (by
     rw[Mf,if_pos ⟨by have:=Aa a0;have:=Aa bw;have:=Aa bx;omega,bz⟩];exact⟨f,by rw[XF,Aa bB,<-aA];exact hs,l⟩))
    have o:=Ab (show low<=s2.st.length/\Fit k d (i+1) s2 by rw[aA];exact⟨(Aa aq).1,(Aa aq).2.ins,(Aa aq).2.pool,(Aa aq).2.st,(Aa aq).2.sl⟩);rw[<-aA]at aL;have bE:s2.I=s1.I:=by rw[aA]
    rw[<-bE]at aL c3;clear bE aA bB h1 bC a2 ah aq aY a1 aZ a0 bw bx bz bA hy c0 c1 c2 c3 c4 c5;have cu:=(Aa o).2.ins;have cv:=(Aa o).2.pool;have cw:=(Aa o).2.st;have cy:=AbQ d;have cz: 1<=2 ^ d:=Nat.one_le_two_pow;have dd:s2.I.length<=80000:=by omega
    have de:s2.P.length<=80000:=by omega
    have df:s2.st.length<=80000:=by omega
    clear cu cv cw cy cz;dsimp only
    as_aux_lemma=>
     go_upto_if 49 with fail
     go_cut [9] (fun v W=>v=U .i64 (8+x % 17)/\W=w2)
     case first=>
      by_cases g: 3<=x % 17
      ·have cA:(8 :Int)<=5+x % 17:=by omega
       go_wp2
       go_meet
       exact⟨by rw[show(11+(5+x % 17)-8 :Int)=8+x % 17 by omega],rfl⟩
      ·have cA: ¬ (8 :Int)<=5+x % 17:=by omega
       go_wp2
       go_meet
       exact⟨by rw[show(8+(5+x % 17)-5 :Int)=8+x % 17 by omega],rfl⟩
     case rest=>
      obtain⟨rfl,N⟩:=hcut;rw[N];clear N;go_wp2_with fail
      refine(ST (8+x % 17) (by unfold I6;omega) w2).mono ?_;rintro r ap ⟨⟨cB,L,d4,rfl,aM⟩,b4⟩;have aa:=aL.below b4;have ar:=Ab ((Aa bD).trans (.of b4));have aN:=Ab (Aak (8+x % 17) (by omega) (by omega));generalize bF:CG (8+x % 17)=cC at aM aN|-;have a3:=Ab bF;obtain⟨bG,out⟩:=cC;have au:=Ab aM.len;clear aL b4 bD bF;go_upto_region 11 with fail
      go_cut [63] (fun v W=>∃b:Bool,v= .bool b/\Hid (b=true↔(0<x % 3/\low+L<=s2.st.length/\Ue bG s2.st))/\W=ap)
      case first=>
       as_aux_lemma=>
        obtain⟨c0,c1,c2,c3,c4,c5⟩:=aa.cells;obtain⟨⟨bH,av,rfl,-,-⟩,-⟩:=aa.int;have dg:L<=2:=by have:=(Aa aN).2;rw[Aa au]at this;exact this
        by_cases aO: 0<x % 3
        ·by_cases aB:low+L<=s2.st.length
         ·have cD:(low:Int)<=(s2.st.length:Int)-(L:Int):=by omega
          go_wp2_with fail
          refine(Ag9 ⟨_,_,_,_,_,aa⟩ cB L d4 bG aM (by omega)).mono ?_;rintro r ab ⟨b,rfl,bI,cE⟩;rw[cE];dsimp only;go_wp2
          go_meet
          exact⟨b,rfl,Ab ⟨fun e=>⟨aO,aB,bI.1 e⟩,fun e=>bI.2 e.2.2⟩,rfl⟩
         ·have cD:decide ((low:Int)<=(s2.st.length:Int)-(L:Int))=jA:=zI (by omega);have cF:=Ab aB;clear aB;go_wp2
          go_meet
          exact⟨jA,rfl,Ab ⟨fun e=>(by cases e),fun e=>absurd e.2.1 (by have:=Aa cF;omega)⟩,rfl⟩
        ·have cG:=Ab aO;go_wp2
         go_meet
         exact⟨jA,rfl,Ab ⟨fun e=>(by cases e),fun e=>absurd e.1 (by have:=Aa cG;omega)⟩,rfl⟩
      case rest=>
       obtain⟨b,rfl,af,N⟩:=hcut;rw[N];clear N;cases b
       case true=>
        as_aux_lemma=>
         have a4:=(Aa af).1 rfl;have F:=Ab (show ∀f,f=Ni (Mh (EZ s2 (5+x % 17) 0) L) out->Gx (Hj zs k d) zs k low Cq x s2 f from fun f e=>by
          unfold Gx;rw[Aa a3,if_pos (by rw[Aa au];exact a4),Aa au];exact e)
         have cH: 1<=L:=by have:=(Aa aN).1;rw[Aa au]at this;exact this
         have cI:L<=s2.st.length:=by have:=a4.2.1;omega
         clear a4 af;go_wp2_with fail
         refine(Ii ⟨_,_,_,_,_,aa⟩ (5+x % 17) 0 (by omega)).mono ?_;rintro r ab ⟨rfl,cJ,rfl,⟨dh,di,dj,dk,dl,h5⟩,b5⟩;obtain⟨⟨bH,av,rfl,aC,aD⟩,-⟩:=h5.int;obtain⟨g,rfl,-⟩:=aD 0 (by show 0<s2.st.length;omega);have c4:ab.cell? ⟨gb,4,T⟩=Y (X (Y ⟨g,0,T⟩) s2.st.length av):=h5.row.cell 4;have bJ:=h5.row.frozen 4;have a5:s2.st.length<=av:=aC;obtain⟨z,bK⟩:∃z,s2.st.length-L=z:=⟨_,rfl⟩
         have a6:IntKind.i64.wrap ((s2.st.length:Int)-(L:Int))=(z:Int):=by
          rw[show(s2.st.length:Int)-(L:Int)=(z:Int) by omega];simp[IntKind.wrap,IntKind.bits,IntKind.signed];omega
         have bL: ¬ (av=0):=by omega
         have bM:(z:Int)<=(av:Int):=by omega
         have bN:(0 :Int)<=(z:Int):=by omega
         have cK:=Ab bK;have O:=Ab ((Aa ar).trans b5);clear aD aC a5 bK aa b5 ar cI cH;dsimp only;go_wp2_with fail
         go_region
         all_goals
          obtain⟨H,ai⟩:=h5.pop L z (Aa cK);have aj:=H.below BRN.drew;have aE:=Ab (((Aa O).trans ai).drew);clear H ai c4 bJ a6 bM bN bL;go_wp2_with fail
          refine(PS ⟨_,_,_,_,_,aj⟩ out (by show(s2.st.take (s2.st.length-L)).length<=100000;rw[zv];omega)).mono ?_;rintro r ac ⟨rfl,u,J,G,M⟩;have q:=Ab (Aa F u J);have K:=Ab ((Aa aE).trans M);clear aj aE O M J F
         all_goals
          try dsimp only
          go_wp2
          go_roundw
          case rel=>exact⟨i,u,by omega,by go_num,Ab fun E l=>Aa ae u (Aa q) E l,Ab G,Ab ⟨((Aa q).grw (fun t A=>Hj.grw zs k d low t A) (Aa o).1).low,(Aa o).2.next ((Aa q).grw (fun t A=>Hj.grw zs k d low t A) (Aa o).1)⟩,K⟩
          case measure=>simp[RowKit.intOf]
       case false=>
        as_aux_lemma=>
         have af:=Ab (show ¬ (0<x % 3/\low+(CG (8+x % 17)).1.length<=s2.st.length/\Ue (CG (8+x % 17)).1 s2.st)from fun e=>by rw[Aa a3,Aa au]at e;exact absurd ((Aa af).2 e) (by simp));clear aM aN au a3;obtain⟨c0,c1,c2,c3,c4,c5⟩:=aa.cells;obtain⟨⟨bH,av,rfl,aC,aD⟩,⟨dm,cl,rfl,a7⟩⟩:=aa.int;have a8:=(Aa o).2.sl;rw[a8]at c5 a7;have bO:=Ab a7;have cL:=Ab aD;have dn:=Ab aC;have dp:=Ab a8;clear aD a7 aC a8;have cM:=Ab (show ¬ (x % 7=6/\low<s2.st.length/\0<k)->¬ (x % 7=5/\0<k/\0<s2.sl.getD (x / 7 % k).toNat 0)->¬ x % 7=4->¬ (x % 7=3/\Cq<3/\low<s2.st.length/\Hh s2.st=1)->∀f,VaX zs s2 f->Gx (Hj zs k d) zs k low Cq x s2 f from fun a b c e f h=>by
          unfold Gx;rw[if_neg (Aa af),if_neg a,if_neg b,if_neg c,if_neg e];exact h)
         go_upto_region 15 with fail
         go_cut [106] (fun v W=>∃b:Bool,v= .bool b/\Hid (b=true↔(x % 7=6/\low<s2.st.length/\0<k))/\W=ap)
         case first=>
          as_aux_lemma=>
           by_cases e6:x % 7=6
           ·have cN:(x % 7==6)=true:=zF.2 e6;have a9:=Ab e6;by_cases l:low<s2.st.length
            ·have aP:(low:Int)<(s2.st.length:Int):=by omega
             have ba:=Ab l;clear e6 l;go_wp2
             go_meet
             exact⟨decide (0<k),rfl,Ab ⟨fun e=>⟨Aa a9,by have:=Aa ba;omega,of_decide_eq_true e⟩,fun e=>zN e.2.2⟩,rfl⟩
            ·have aP:decide ((low:Int)<(s2.st.length:Int))=jA:=zI (by omega);have bP:decide (low<s2.st.length)=jA:=zI l;have ba:=Ab l;clear e6 l;go_wp2
             go_meet
             exact⟨jA,rfl,Ab ⟨fun e=>(by cases e),fun e=>absurd e.2.1 (by have:=Aa ba;omega)⟩,rfl⟩
           ·have cN:(x % 7==6)=jA:=zA.2 e6;have a9:=Ab e6;clear e6;go_wp2
            go_meet
            exact⟨jA,rfl,Ab ⟨fun e=>(by cases e),fun e=>absurd e.1 (Aa a9)⟩,rfl⟩
         case rest=>
          obtain⟨b,rfl,bb,N⟩:=hcut;rw[N];clear N;cases b
          case true=>
           as_aux_lemma=>
            obtain⟨e6,l,S⟩:=(Aa bb).1 rfl;have aP:(low:Int)<(s2.st.length:Int):=by omega
            have aw:(0 :Int)<(k:Int):=by omega
            obtain⟨t,ak⟩:∃t,s2.st.length=t+1:=⟨s2.st.length-1,by omega⟩
            obtain⟨g,rfl,aQ⟩:=Aa cL t (by omega);have a6:IntKind.i64.wrap ((s2.st.length:Int)-1)=(t:Int):=by rw[ak];simp[IntKind.wrap,IntKind.bits,IntKind.signed];omega
            have cO:(t:Int)<(s2.st.length:Int):=by omega
            have bQ:=Ab (show s2.st.getD t 0=Hh s2.st by rw[Hh,ak];rfl);have bR:=Ab ak;generalize s2.st.getD t 0=ty at aQ bQ;clear ak;obtain⟨j,ad⟩:∃j:Nat,x / 7 % k=(j:Int):=⟨(x / 7 % k).toNat,by have:=Int.emod_nonneg (x / 7) (show(k:Int)≠0 by omega);omega⟩
            have dq:(j:Int)<(k:Int):=by rw[<-ad];exact Int.emod_lt_of_pos _ aw
            obtain⟨aF,rfl,aG,bc⟩:=Aa bO j (by omega);have aR:=Ab (show s2.sl.getD (x / 7 % k).toNat 0=s2.sl.getD j 0 by rw[ad];rfl);have cP:=Ab ad;generalize s2.sl.getD j 0=C at aG aR;have bS:=Ab (show ∀f,(if C=0/\Cq=0\/C=ty then f=Mh (EZ (XE s2 j ty) 4 j) 1 else f=s2)->Gx (Hj zs k d) zs k low Cq x s2 f from fun f e=>by
             unfold Gx;rw[if_neg (Aa af),if_pos ⟨e6,l,S⟩,Aa aR,<-Aa bQ,ad];exact e)
            clear e6 l S ad;go_wp2_with fail
            go_region
            rw[Aa cP];have h5:=aa.below BRN.drew;have O:=Ab (Aa ar).drew;have bT:ap.drew.cell? ⟨aF,j,T⟩=Y (U .i64 C):=aG;have bU:ap.drew.frozen? ⟨aF,j,T⟩=jA:=bc;have bV:ap.drew.cell? ⟨gb,5,T⟩=Y (X (Y ⟨aF,0,T⟩) k cl):=c5;clear c0 c1 c2 c3 c4 c5 aQ aG bc aa ar;generalize ap.drew=ab at h5 O bT bU bV|-;go_upto_region 18 with fail
            go_cut [169] (fun v W=>∃b:Bool,v= .bool b/\Hid (b=true↔(C=0/\Cq=0\/C=ty))/\W=ab)
            case first=>
             as_aux_lemma=>
              by_cases bd:C=ty
              case' pos=>have bW:(C==ty)=true:=zF.2 bd
              case' neg=>have bW:(C==ty)=jA:=zA.2 bd
              all_goals
               by_cases bf:C=0
               case' neg=>have bX:(C==0)=jA:=zA.2 bf
               case' pos=>
                have bX:(C==0)=true:=zF.2 bf;by_cases bg:Cq=0
                case' pos=>have bY:((Cq:Int)==0)=true:=zF.2 (by omega)
                case' neg=>have bY:((Cq:Int)==0)=jA:=zA.2 (by omega)
               all_goals
                have ax:∃b:Bool,Hid (b=true↔(C=0/\Cq=0\/C=ty))/\Hid (b=((C==0)&&((Cq:Int)==0)||(C==ty))):=⟨_,Ab (by simp),Ab rfl⟩
                simp only[bW,bX]at ax
                try simp only[bY]at ax
                clear bd bf;go_wp2
                go_meet
                obtain⟨b,cQ,aH⟩:=ax;exact⟨b,by rw[Aa aH];rfl,cQ,rfl⟩
            case rest=>
             obtain⟨b,rfl,ax,N⟩:=hcut;rw[N];clear N;cases b
             case false=>
              as_aux_lemma=>
               obtain⟨u,J⟩:∃u,u=s2:=⟨_,rfl⟩
               have q:=Ab (Aa bS u (by rw[if_neg (fun e=>by have:=(Aa ax).2 e;cases this)];exact J));rw[<-J]at h5;have G:GS B R gb a n c zs k u ab:=⟨_,_,_,_,_,h5⟩
               have K:=O;clear J h5;go_wp2_with fail
               generalize ab=ac at G K|-
               try dsimp only
               go_wp2
               go_roundw
               case rel=>exact⟨i,u,by omega,by go_num,Ab fun E l=>Aa ae u (Aa q) E l,Ab G,Ab ⟨((Aa q).grw (fun t A=>Hj.grw zs k d low t A) (Aa o).1).low,(Aa o).2.next ((Aa q).grw (fun t A=>Hj.grw zs k d low t A) (Aa o).1)⟩,K⟩
               case measure=>simp[RowKit.intOf]
             case true=>
              as_aux_lemma=>
               have F:=Ab (show ∀f,f=Mh (EZ (XE s2 j ty) 4 j) 1->Gx (Hj zs k d) zs k low Cq x s2 f from fun f e=>Aa bS f (by rw[if_pos ((Aa ax).1 rfl)];exact e));go_wp2_with fail
               obtain⟨H,ai⟩:=h5.slt (m:=0) j ty;have ay:=Ab ((Aa O).trans ai);generalize ab.setCell ⟨aF,j,T⟩ (U .i64 ty)=aI at H ay|-;refine(Ii ⟨_,_,_,_,_,H⟩ 4 j (by show s2.I.length<=100000;omega)).mono ?_;rintro r bZ ⟨rfl,dr,rfl,⟨ds,dt,du,dv,dw,aj⟩,b0⟩;clear bT bU bV h5 H;obtain⟨⟨dx,aJ,rfl,b2,b3⟩,-⟩:=aj.int;obtain⟨g7,rfl,-⟩:=b3 0 (by show 0<s2.st.length;have:=Aa bR;omega);have c4:bZ.cell? ⟨gb,4,T⟩=Y (X (Y ⟨g7,0,T⟩) s2.st.length aJ):=aj.row.cell 4;have bJ:=aj.row.frozen 4;have a5:s2.st.length<=aJ:=b2;have bL: ¬ (aJ=0):=by omega
               have bM:(t:Int)<=(aJ:Int):=by omega
               have bN:(0 :Int)<=(t:Int):=by omega
               have aE:=Ab ((Aa ay).trans b0);clear b3 b2 a5 b0 ay ai;dsimp only;go_wp2_with fail
               go_region
               all_goals
                obtain⟨b6,b7⟩:=aj.pop 1 t (by show s2.st.length-1=t;have:=Aa bR;omega);have G:GS B R gb a n c zs k _ _:=⟨_,_,_,_,_,b6.below BRN.drew⟩
                have K:=Ab (((Aa aE).trans b7).drew);have q:=Ab (Aa F _ rfl);generalize Mh (EZ (XE s2 j ty) 4 j) 1=u at q G;generalize (bZ.setCell ⟨gb,4,T⟩ (X (Y ⟨g7,0,T⟩) t aJ)).drew=ac at G K|-;clear b6 b7 aj aE
                try dsimp only
                go_wp2
                go_roundw
                case rel=>exact⟨i,u,by omega,by go_num,Ab fun E l=>Aa ae u (Aa q) E l,Ab G,Ab ⟨((Aa q).grw (fun t A=>Hj.grw zs k d low t A) (Aa o).1).low,(Aa o).2.next ((Aa q).grw (fun t A=>Hj.grw zs k d low t A) (Aa o).1)⟩,K⟩
                case measure=>simp[RowKit.intOf]
          case false=>
           have aS:=Ab (show ¬ (x % 7=6/\low<s2.st.length/\0<k)from fun e=>by have:=(Aa bb).2 e;cases this);clear bb;go_upto_region 22 with fail
           go_cut [194] (fun v W=>∃b:Bool,v= .bool b/\Hid (b=true↔(x % 7=5/\0<k/\0<s2.sl.getD (x / 7 % k).toNat 0))/\An ap W)
           case first=>
            as_aux_lemma=>
             by_cases e5:x % 7=5
             case' neg=>
              have bh:(x % 7==5)=jA:=zA.2 e5;have al:=Ab (show ¬ (x % 7=5/\0<k/\0<s2.sl.getD (x / 7 % k).toNat 0)from fun h=>e5 h.1)
             case' pos=>
              have bh:(x % 7==5)=true:=zF.2 e5;by_cases S: 0<k
              case' neg=>
               have aw:decide ((0 :Int)<(k:Int))=jA:=zI (by omega);have cS:decide (0<k)=jA:=zI S;have al:=Ab (show ¬ (x % 7=5/\0<k/\0<s2.sl.getD (x / 7 % k).toNat 0)from fun h=>S h.2.1)
              case' pos=>
               have aw:(0 :Int)<(k:Int):=by omega
               have cS: 0<k:=S;have dy:decide (0<k)=true:=zN S;have bi: ¬ ((k:Int)=0):=by omega
               have bj:=Int.emod_nonneg (x / 7) bi;have n1:=Int.emod_lt_of_pos (x / 7) aw;obtain⟨aF,rfl,aG,bc⟩:=Aa bO (x / 7 % k).toNat (by omega);generalize ag:s2.sl.getD (x / 7 % (k:Int)).toNat 0=C at aG;by_cases ad: 0<C
               case' pos=>have bk:=Ab (show x % 7=5/\0<k/\0<s2.sl.getD (x / 7 % k).toNat 0 from⟨e5,S,by rw[ag];exact ad⟩)
               case' neg=>
                have dz:decide (0<C)=jA:=zI ad;have al:=Ab (show ¬ (x % 7=5/\0<k/\0<s2.sl.getD (x / 7 % k).toNat 0)from fun h=>ad (by rw[<-ag];exact h.2.2));clear ad
               all_goals clear ag
              all_goals clear S
             all_goals
              clear e5;go_wp2_with fail
              go_quiet (fail)
              go_wp2
              go_meet
              first
              |exact⟨true,rfl,Ab ⟨fun _=>Aa bk,fun _=>rfl⟩,below_drewN BRN _⟩
              |exact⟨jA,rfl,Ab ⟨fun e=>(by cases e),fun e=>absurd e (Aa al)⟩,below_drewN BRN _⟩
           case rest=>
            obtain⟨b,rfl,bl,bm⟩:=hcut;have h5:=aa.below bm;have O:=Ab ((Aa ar).trans (.of bm));clear c0 c1 c2 c3 c4 c5 aa ar bm;cases b
            case true=>
             as_aux_lemma=>
              obtain⟨e5,S,ag⟩:=(Aa bl).1 rfl;have aw:(0 :Int)<(k:Int):=by omega
              have bi: ¬ ((k:Int)=0):=by omega
              have dA: ¬ k=0:=by omega
              have bj:=Int.emod_nonneg (x / 7) bi;have n1:=Int.emod_lt_of_pos (x / 7) aw;obtain⟨D,b8⟩:∃D:Nat,x / 7 % (k:Int)=(D:Int):=⟨(x / 7 % (k:Int)).toNat,(Int.toNat_of_nonneg bj).symm⟩
              have F:=Ab (show ∀f,f=Ni (EZ s2 3 D) (s2.sl.getD D 0)->Gx (Hj zs k d) zs k low Cq x s2 f from fun f e=>by
               unfold Gx;rw[if_neg (Aa af),if_neg (Aa aS),if_pos ⟨e5,S,ag⟩,b8,zb];exact e)
              have b9:D<k:=by omega
              have dB:(D:Int)<(k:Int):=by omega
              have cT:(x / 7).tmod (k:Int)=(D:Int):=by rw[<-b8];exact yJ (by omega)
              have dC:(0 :Int)<=(D:Int):=by omega
              have dD:(IntKind.i64.wrap (x.tdiv 7)).tmod (k:Int)=(D:Int):=by
               rw[show x.tdiv 7=x / 7 from yI ct,show IntKind.i64.wrap (x / 7)=x / 7 by (simp[IntKind.wrap,IntKind.bits,IntKind.signed];omega),cT]
              have c2:wc.cell? ⟨gb,2,T⟩=Y (U .i64 k):=h5.row.cell 2;clear e5 S ag bj n1;go_wp2_with fail
              refine(Ii ⟨_,_,_,_,_,h5⟩ 3 (D:Int) (by omega)).mono ?_;rintro r aI ⟨rfl,dE,rfl,⟨dF,dG,dH,dI,dJ,H⟩,ai⟩;obtain⟨-,⟨dK,bn,rfl,ca⟩⟩:=H.int;have aT:(EZ s2 3 D).sl.length=k:=(Aa o).2.sl;obtain⟨az,rfl,cb,-⟩:=ca D (by rw[aT];exact b9);have dL:aI.cell? ⟨gb,2,T⟩=Y (U .i64 k):=H.row.cell 2;have dM:aI.cell? ⟨gb,5,T⟩=Y (X (Y ⟨az,0,T⟩) k bn):=by have:=H.row.cell 5;rw[aT]at this;exact this
              have cU:aI.cell? ⟨az,D,T⟩=Y (U .i64 (s2.sl.getD D 0)):=cb;generalize ag:s2.sl.getD D 0=C at cU F;have aR:=Ab ag;have cc:=Ab aT;clear ca cb c2 ag aT;dsimp only;go_wp2_with fail
              go_region_held3 (fun bo=>bo.cell? ⟨gb,2,T⟩=Y (U .i64 k)/\bo.cell? ⟨gb,5,T⟩=Y (X (Y ⟨az,0,T⟩) k bn)/\bo.cell? ⟨az,D,T⟩=Y (U .i64 C)) (first|assumption|go_keep|fail) ((go_at_call 84;refine(Vc (H.below BRN.drew) C (by show s2.st.length<=100000;omega)).mono ?_;rintro r ac ⟨rfl,⟨dN,aK⟩,M⟩;have cV:ac.cell? ⟨gb,2,T⟩=Y (U .i64 k):=aK.row.cell 2;have bh:ac.cell? ⟨gb,5,T⟩=Y (X (Y ⟨az,0,T⟩) k bn):=by { have:=aK.row.cell 5;rw[Aa cc]at this;exact this };have cW:ac.cell? ⟨az,D,T⟩=Y (U .i64 C):=Aha aK _ (Nat.lt_of_lt_of_eq b9 (Aa cc).symm) (Aa aR)))
              all_goals
               have G:GS B R gb a n c zs k (Ni (EZ s2 3 D) C) ac:=⟨_,_,_,_,_,aK⟩
               have q:=Ab (Aa F _ rfl);generalize Ni (EZ s2 3 D) C=u at G q;have K:=Ab (((Aa O).trans ai).drew.trans M);clear F ai M H aK cV bh cW
               try dsimp only
               go_wp2
               go_roundw
               case rel=>exact⟨i,u,by omega,by go_num,Ab fun E l=>Aa ae u (Aa q) E l,Ab G,Ab ⟨((Aa q).grw (fun t A=>Hj.grw zs k d low t A) (Aa o).1).low,(Aa o).2.next ((Aa q).grw (fun t A=>Hj.grw zs k d low t A) (Aa o).1)⟩,K⟩
               case measure=>simp[RowKit.intOf]
            case false=>
             have bp:=Ab (show ¬ (x % 7=5/\0<k/\0<s2.sl.getD (x / 7 % k).toNat 0)from fun e=>by have:=(Aa bl).2 e;cases this);clear bl;by_cases e4:x % 7=4
             ·as_aux_lemma=>
               have aB:(x % 7==4)=true:=zF.2 e4;have F:=Ab (show ∀f,f=Ni (EZ s2 2 (x / 7 % 6)) (BL (x / 7 % 6))->Gx (Hj zs k d) zs k low Cq x s2 f from fun f e=>by
                unfold Gx;rw[if_neg (Aa af),if_neg (Aa aS),if_neg (Aa bp),if_pos e4];exact e)
               clear e4;go_wp2_with fail
               refine(Ii ⟨_,_,_,_,_,h5⟩ 2 (x / 7 % 6) (by omega)).mono ?_;rintro r ab ⟨rfl,cJ,rfl,cd,b5⟩;dsimp only;go_wp2_with fail
               refine(Gy (x / 7 % 6) ab).mono ?_;rintro r aI ⟨rfl,ce⟩;rw[ce];dsimp only;go_wp2_with fail
               refine(PS cd (BL (x / 7 % 6)) (by show s2.st.length<=100000;omega)).mono ?_;rintro r ac ⟨rfl,u,J,G,M⟩;have q:=Ab (Aa F u J);have K:=Ab (((Aa O).trans b5).trans M);clear J F cd b5 M ce
               try dsimp only
               go_wp2
               go_roundw
               case rel=>exact⟨i,u,by omega,by go_num,Ab fun E l=>Aa ae u (Aa q) E l,Ab G,Ab ⟨((Aa q).grw (fun t A=>Hj.grw zs k d low t A) (Aa o).1).low,(Aa o).2.next ((Aa q).grw (fun t A=>Hj.grw zs k d low t A) (Aa o).1)⟩,K⟩
               case measure=>simp[RowKit.intOf]
             ·have aB:(x % 7==4)=jA:=zA.2 e4;have cf:=Ab e4;clear e4;go_upto_region 28 with fail
              generalize N:wc=ab at h5 O|-;clear N;go_cut [264] (fun v W=>∃b:Bool,v= .bool b/\Hid (b=true↔(x % 7=3/\Cq<3/\low<s2.st.length/\Hh s2.st=1))/\An ab W)
              case first=>
               as_aux_lemma=>
                obtain⟨c0,c1,c2,c3,c4,c5⟩:=h5.cells;by_cases e3:x % 7=3
                case' neg=>
                 have aO:(x % 7==3)=jA:=zA.2 e3;have al:=Ab (show ¬ (x % 7=3/\Cq<3/\low<s2.st.length/\Hh s2.st=1)from fun h=>e3 h.1)
                case' pos=>
                 have aO:(x % 7==3)=true:=zF.2 e3;by_cases ao:Cq<3
                 case' neg=>
                  have cX:decide ((Cq:Int)<3)=jA:=zI (by omega);have cY:decide (Cq<3)=jA:=zI ao;have al:=Ab (show ¬ (x % 7=3/\Cq<3/\low<s2.st.length/\Hh s2.st=1)from fun h=>ao h.2.1)
                 case' pos=>
                  have cX:(Cq:Int)<3:=by omega
                  have cY:Cq<3:=ao;by_cases l:low<s2.st.length
                  case' neg=>
                   have aP:decide ((low:Int)<(s2.st.length:Int))=jA:=zI (by omega);have bP:decide (low<s2.st.length)=jA:=zI l;have al:=Ab (show ¬ (x % 7=3/\Cq<3/\low<s2.st.length/\Hh s2.st=1)from fun h=>l h.2.2.1);clear l
                  case' pos=>
                   have aP:(low:Int)<(s2.st.length:Int):=by omega
                   have bP:low<s2.st.length:=l;obtain⟨t,ak⟩:∃t,s2.st.length=t+1:=⟨s2.st.length-1,by omega⟩
                   obtain⟨⟨dO,dP,e5,-,cg⟩,-⟩:=h5.int;cases e5;obtain⟨g,rfl,aQ⟩:=cg t (by omega);have a6:IntKind.i64.wrap ((s2.st.length:Int)-1)=(t:Int):=by rw[ak];simp[IntKind.wrap,IntKind.bits,IntKind.signed];omega
                   have cO:(t:Int)<(s2.st.length:Int):=by omega
                   have aU:s2.st.getD t 0=Hh s2.st:=by rw[Hh,ak];rfl
                   generalize s2.st.getD t 0=ty at aQ aU;by_cases h1:ty=1
                   case' pos=>
                    have cZ:(ty==1)=true:=zF.2 h1;have bk:=Ab (show x % 7=3/\Cq<3/\low<s2.st.length/\Hh s2.st=1 from⟨e3,ao,l,by rw[<-aU];exact h1⟩)
                   case' neg=>
                    have cZ:(ty==1)=jA:=zA.2 h1;have al:=Ab (show ¬ (x % 7=3/\Cq<3/\low<s2.st.length/\Hh s2.st=1)from fun h=>h1 (by rw[aU];exact h.2.2.2))
                   all_goals clear h1 aU ak cg l
                 all_goals clear ao
                all_goals
                 clear e3;go_wp2_with fail
                 first|go_quiet (fail)|go_region
                 go_wp2
                 go_meet
                 first
                 |exact⟨true,rfl,Ab ⟨fun _=>Aa bk,fun _=>rfl⟩,(by first|exact below_drewN BRN _|exact BRN.drew)⟩
                 |exact⟨jA,rfl,Ab ⟨fun e=>(by cases e),fun e=>absurd e (Aa al)⟩,(by first|exact below_drewN BRN _|exact BRN.drew)⟩
              case rest=>
               obtain⟨b,rfl,ch,br⟩:=hcut;have H:=h5.below br;have ay:=Ab ((Aa O).trans (.of br));clear h5 O br;cases b
               case true=>
                as_aux_lemma=>
                 obtain⟨e3,ao,l,h1⟩:=(Aa ch).1 rfl;have F:=Ab (show ∀f,Hj zs k d s2 f->Gx (Hj zs k d) zs k low Cq x s2 f from fun f e=>by
                  unfold Gx;rw[if_neg (Aa af),if_neg (Aa aS),if_neg (Aa bp),if_neg (Aa cf),if_pos ⟨e3,ao,l,h1⟩];exact e)
                 have bg: 0<d:=by have:=Aa bt;omega
                 have aH:=Ab (Aa cj bg s2 wc ⟨_,_,_,_,_,H⟩ (by omega) ⟨by have:=(Aa o).2.ins;rw[Nat.add_mul]at this;omega,by have:=(Aa o).2.pool;rw[Nat.add_mul]at this;omega,by have:=(Aa o).2.st;rw[Nat.add_mul]at this;omega,(Aa o).2.sl⟩);rw[<-Aa bt]at aH;clear e3 ao l h1 bg;go_wp2_with fail
                 refine(Aa aH).mono ?_;rintro r ac ⟨rfl,u,J,G,M⟩;have q:=Ab (Aa F u J);have K:=Ab ((Aa ay).trans M);clear J F M aH
                 try dsimp only
                 go_wp2
                 go_roundw
                 case rel=>exact⟨i,u,by omega,by go_num,Ab fun E l=>Aa ae u (Aa q) E l,Ab G,Ab ⟨((Aa q).grw (fun t A=>Hj.grw zs k d low t A) (Aa o).1).low,(Aa o).2.next ((Aa q).grw (fun t A=>Hj.grw zs k d low t A) (Aa o).1)⟩,K⟩
                 case measure=>simp[RowKit.intOf]
               case false=>
                as_aux_lemma=>
                 have F:=Ab (Aa cM (Aa aS) (Aa bp) (Aa cf) (fun e=>by have:=(Aa ch).2 e;cases this));go_wp2_with fail
                 refine(Y0 ⟨_,_,_,_,_,H⟩ (by omega) (by omega) (by omega)).mono ?_;rintro r ac ⟨rfl,u,J,G,M⟩;have q:=Ab (Aa F u J);have K:=Ab ((Aa ay).trans M);clear J F M
                 try dsimp only
                 go_wp2
                 go_roundw
                 case rel=>exact⟨i,u,by omega,by go_num,Ab fun E l=>Aa ae u (Aa q) E l,Ab G,Ab ⟨((Aa q).grw (fun t A=>Hj.grw zs k d low t A) (Aa o).1).low,(Aa o).2.next ((Aa q).grw (fun t A=>Hj.grw zs k d low t A) (Aa o).1)⟩,K⟩
                 case measure=>simp[RowKit.intOf]
  all_goals
   go_wp2_with fail
   go_end0
   exact⟨rfl,s1,Aa ah,⟨_,_,_,_,_,h1⟩,Aa a1⟩
end
end Go.Proofs.YtppafecmccdplaaGreat
