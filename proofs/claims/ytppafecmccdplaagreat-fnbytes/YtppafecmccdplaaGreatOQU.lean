import Derived.Test.YtppafecmccdplaaGreatOQT
import Derived.Test.YtppafecmccdplaaGreatMXAL
open Go.Proofs.Tryz
open Option renaming none->T,some->Y
open Go.Value renaming int->U,slice->X,string->Q,agg->jE
open Go.IntKind renaming i64->V
open Go renaming World->Z,Value->jB,Addr->jD
open Bool renaming false->jA
open Go.Obj renaming cells->jC
open Go.Proofs.Tryz renaming prog->jL
namespace Go.Proofs.YtppafecmccdplaaGreat
set_option maxRecDepth 100000
set_option maxHeartbeats 12800000
open Go.RowKit
set_option linter.unusedVariables false
variable {B d:Nat}{x:Option jD}{w:Z}
def GdM (N:List Nd) (L:List St) (T:List Int) (x:Option jD) (n cx:Nat) (y:Option jD) (m cy:Nat) (z:Option jD) (p cz:Nat) (W:Z):Prop:=(IY W x n cx N/\NmS W x N)/\Ss W y m cy L/\Em W z p cz T
theorem TyM.gd {y z:Option jD}{n cx m a p b:Nat}{N:List Nd}{L:List St}{T:List Int}{f g:List jB}(h:TyM B d (X x n cx) (X y m a) (X z p b) N L T f g w)(h1:N.length=n)(i:n<=1048576)(ok:∀x∈N,okN x/\x.text.size<=1048576)(c:L.length=m)(j:m<=1048576)(k:∀s∈L,s.name.size<=1048576)(h5:T.length=p)(l:p<=1048576):GdM N L T x n cx y m a z p b w:=
 ⟨⟨h.C.nds h1 i ok,h.C.nms h1⟩,FT (by have q:=h.S;rw[c]at q;exact q) c j k,Xd (by have q:=h.Tt;rw[h5]at q;exact q) h5 l⟩
def OpM (N:List Nd) (L:List St) (T:List Int) (w:Z) (r:Ending) (w':Z):Prop:=(∃ (x:Option jD) (n cx:Nat) (y:Option jD) (m cy:Nat) (z:Option jD) (p cz:Nat),r= .returned (jE #[X x n cx,X y m cy,X z p cz])/\GdM N L T x n cx y m cy z p cz w'/\∀g cs,Ah w' g cs 69->∀u0 u1 u2,GdM N L T x n cx y m cy z p cz (((w'.setCell ⟨g,0,none⟩ u0).setCell ⟨g,1,none⟩ u1).setCell ⟨g,2,none⟩ u2))/\An w w'
theorem StA.kp {X:List (Sx×Int)}{w':Z}{a:Option jD}{n c:Nat}{ss:List S5}(O:w'.ownsRow w.heap.size 99 5 (.slice a n c) n (ss.flatMap S5.cs))(b:ss.length=n)(f:ss.length=X.length)(he:∀j,(h1:j<ss.length)->(d:j<X.length)->∃lo hi,StQ w lo hi w' ss[j] X[j]):ZV w' a n ss X:=
 ⟨b,by omega,ZW O b,fun j h1 d=>by
  obtain⟨lo,hi,q⟩:=he j h1 d;exact⟨q.1,q.2.1,q.2.2.1,q.2.2.2.1.t,q.2.2.2.2.t⟩⟩
theorem PM:∀(a:List (Sx×Int)) {q:Sx×Int},q∈Lb a->q∈a
 |[],_,h=>h
 |x ::a,q,h=>by
  rw[Lb]at h;split at h
  ·exact za _ (PM a h)
  ·rcases zT.1 h with e|e
   ·rw[e];exact zS
   ·exact za _ (PM a e)
theorem UN:∀(a:List (Sx×Int)),(Lb a).length<=a.length
 |[]=>NLN
 |x ::a=>by
  rw[Lb];have:=UN a;split
  ·simp;omega
  ·simp;omega
theorem Afw:(jL.info? 2).map (fun i=>(i.zero,i.size,i.bytes))=Y (Y (U V 0),1,8):=by kernel_rfl
theorem AdK (a b e:Option jD)(n c m d k f:Nat)(w:Z)(W:List (Sx×Int))(eB:W.length<=600)(eC:∀q∈W,UO q.1.cond/\UO q.1.grant)(eD:∀q∈W,q.1.kind=1->∃e,q.1.cond=Y e)
  (eE:∀aQ,An w aQ->Calls jL 45 #[jE #[X a n c,X b m d,X e k f]] aQ fun r w'=>r= .returned (.bool true)/\An aQ w')
  (eF:∀aQ,An w aQ->Calls jL 46 #[jE #[X a n c,X b m d,X e k f]] aQ (StA W aQ))(H:List Sx)(eG:H=(Lb W).map fun q=>PI (Dp (Lb W)) q.1)(eH:Cn H<=4000)(eI:(Dp (Lb W)).Nodup)(eJ:∀q∈Lb W,∀m,usS m q.1=true->m∈Dp (Lb W))(b7:List Int)(fX:b7.length<=1048576)(eK:∀x∈DG 0 H,okN x/\x.text.size<=1048576)(eL:∀s∈Dv 0 H,s.name.size<=1048576)
  (eM:∀aQ (eN:Option jD) (n' c':Nat) (eO:Option jD) (eP eQ:Nat),IY aQ eN n' c' (DG 0 H)->Ss aQ eO eP eQ (Dv 0 H)->Calls jL 51 #[X eN n' c',X eO eP eQ] aQ (CkT b7 aQ)):
  Calls jL 27 #[jE #[X a n c,X b m d,X e k f]] w (OpM (DG 0 H) (Dv 0 H) b7 w):=by
 obtain⟨eR,eS,fY,fZ,f0⟩:=info_parts AdJ;have cj:=(AN w (Nr a n c b m d e k f)).alloc (by simp) (Nr T 0 0 T 0 0 T 0 0);have bI:=(Ah.new w #[X a n c,X b m d,X e k f] 69).alloc (Nr T 0 0 T 0 0 T 0 0);have bp:=Ah.new (w.alloc (Nr a n c b m d e k f)) #[X T 0 0,X T 0 0,X T 0 0] 69;simp only[World.size_alloc]at bp;have eT:=Ab eE;have eU:=Ab eF;have dc:=Ab eC;have eV:=Ab eD;have eW:=Ab eG;have dF:=Ab eH;have dG:=Ab eK;have dH:=Ab eL;have f2:=Ab eM;have eX:=Ab eI;have eY:=Ab eJ;clear eE eF eC eD eG eH eI eJ eK eL eM;go_enter func27,ntmps27
 go_wp2_with fail
 generalize (w.alloc (Nr a n c b m d e k f)).alloc (Nr T 0 0 T 0 0 T 0 0)=gT at cj bI bp|-;refine(Aa eT _ cj).mono ?_;rintro r gU ⟨rfl,b1⟩;have dd:=cj.trans (b1.mono cj.size);replace bI:=bI.after b1 NLN;replace bp:=bp.after b1 NLN;obtain⟨f3,aN,ax⟩:=Ao bI;clear cj b1 eT;dsimp only;go_wp2_with fail
 refine(Aa eU _ dd).mono ?_;rintro r w2 ⟨⟨gV,ss,rfl,O,de,he⟩,b2⟩;obtain⟨gW,gY,rfl,_⟩:=Ae O;have df:=StA.kp O rfl de he;have eZ:=dd.trans (b2.mono dd.size);replace bI:=bI.after b2 NLN;replace bp:=bp.after b2 NLN;clear f3 aN ax dd b2 O he eU;rw[de];rw[de]at df;generalize e5:W.length=dg at df eB|-;have ck:=Ab e5;have e7:=Ab df;have dh:=Ab bp;have cl:=Ab eZ;clear de df bI bp eZ e5;dsimp only;go_upto_block 0 with fail
 go_cut [4,5] (fun K _ ac=>∃ (ka:Option jD) (kn kc:Nat) (ao:List S5),K=X ka kn kc/\ZV ac ka kn ao (Lb W)/\An w2 ac)
 case first=>
  go_wp2_with fail
  go_loopw [4,5] (fun K i wr=>∃ (j:Nat) (ka:Option jD) (kn kc:Nat) (ao:List S5),j<=dg/\i=U V ((j:Int)-1)/\K=X ka kn kc/\(kn=0->ka=T)/\Hid (ZV wr ka kn ao (Lb (W.drop j)))/\An w2 wr) (fun _ i _=>(intOf i+1).toNat)
  case atStart=>exact⟨dg,T,0,0,[],NLN,rfl,rfl,fun _=>rfl,Ab (by rw[List.drop_eq_nil_of_le (by rw[Aa ck];exact NLN)];exact ZV.nil _),BRN⟩
  case round=>
   obtain⟨j,ka,kn,kc,ao,di,rfl,rfl,dj,dk,F⟩:=hrel;cases j with
   |zero=>
    have f4:=Ab (show ZV wr ka kn ao (Lb W)from Aa dk);go_wp2
    go_meet
    exact⟨ka,kn,kc,ao,rfl,Aa f4,F⟩
   |succ j=>
    have f5:(((j+1 :Nat):Int)-1)=(j:Int):=by omega
    rw[f5];have e8:j<dg:=di;have gZ:(j:Int)<(dg:Int):=by omega
    have g0:(0 :Int)<=(j:Int):=by omega
    have e9:kn<=600:=by rw[<-(Aa dk).lenD];exact zC (UN _) (by rw[List.length_drop,Aa ck];omega)
    have dl:=(Aa e7).below F NLN;have dI:j<ss.length:=by rw[dl.len];exact e8
    have cm:j<W.length:=by rw[Aa ck];exact e8
    obtain⟨g,g1,rfl,hg,c0,c1,c2,c3,c4⟩:=MT dl.rows dI;have co:=Ab (dl.each j dI cm);have dJ:=Ab (show W.drop j=W[j] ::W.drop (j+1)from Z4 cm);have fa:=Ab (Aa dc _ (zH cm));have fb:=Ab (Aa eV _ (zH cm));generalize ss[j]=bJ at c0 c1 c2 c3 c4 co;generalize W[j]=x at co dJ fa fb;obtain⟨cp,aX,ad,aY,aZ,a0,a1,a2,a3⟩:=bJ;dsimp only at c0 c1 c2 c3 c4;have f6:ad=x.2:=(Aa co).2.2.1;subst f6;clear dl dI cm;go_upto_block 2 with fail
    have dK:=F.trans ((AN wr (jC #[U V cp,Q aX,U V x.2,X aY aZ a0,X a1 a2 a3] 99)).mono F.size);have br:=Ah.new wr #[U V cp,Q aX,U V x.2,X aY aZ a0,X a1 a2 a3] 99;have D:=AN wr (jC #[U V cp,Q aX,U V x.2,X aY aZ a0,X a1 a2 a3] 99);have b8:=Ab ((Aa dk).below D NLN);have dL:=Ab ((Aa co).below D NLN);generalize wr.alloc (jC #[U V cp,Q aX,U V x.2,X aY aZ a0,X a1 a2 a3] 99)=fc at dK br D b8 dL|-;generalize dM:wr.heap.size=aR at br D|-;have dN:=Ab br;have dO:=Ab dK;obtain⟨ay,dP⟩:∃ay,ay=Lb (W.drop (j+1)):=⟨_,rfl⟩
    have dQ:=Ab dP;rw[<-dP]at b8;clear c0 c1 c2 c3 c4 hg F br dK D dk co dM dP;go_cut [7] (fun u ac=>u= .bool (ay.any fun r=>usS x.2 r.1)/\An fc ac)
    case first=>
     go_wp2_with fail
     go_loopw [7,47] (fun u i A=>∃t:Nat,t<=kn/\i=U V t/\u= .bool ((ay.take t).any fun r=>usS x.2 r.1)/\An fc A) (fun _ i _=>kn-(intOf i).toNat)
     case atStart=>exact⟨0,zE _,rfl,by simp,BRN⟩
     case round=>
      obtain⟨t,fd,rfl,rfl,G⟩:=hrel;obtain⟨A,rfl⟩:∃A,A=wr:=⟨_,rfl⟩
      by_cases az:t<kn
      ·have fe:(t:Int)<(kn:Int):=by omega
       have aD:=(Aa b8).below G NLN;have aN:t<ao.length:=by rw[aD.len];exact az
       have ax:t<ay.length:=by rw[aD.lenD];exact az
       obtain⟨dm,dn,rfl,cq,c0,c1,c2,c3,c4⟩:=MT aD.rows aN;have ap:=Ab (aD.each t aN ax);have bK:=Ab (show UO ay[t].1.cond/\UO ay[t].1.grant from Aa dc _ (List.mem_of_mem_drop (PM _ (by rw[<-Aa dQ];exact zH ax))));have dp:=Ab (show(ay.take (t+1)).any (fun r=>usS x.2 r.1)=((ay.take t).any (fun r=>usS x.2 r.1)||usS x.2 ay[t].1) by rw[zc ax,List.any_append];simp);have aI:=Ab az;generalize ao[t]=s at c0 c1 c2 c3 c4 ap;generalize ay[t]=y at ap bK dp;obtain⟨bL,bc,aE,aq,af,ai,ar,ag,aj⟩:=s;dsimp only at c0 c1 c2 c3 c4;have D:=AN A (jC #[U V bL,Q bc,U V aE,X aq af ai,X ar ag aj] 99);have au:=Ab (G.trans (D.mono G.size));have RS:=Ah.new A #[U V bL,Q bc,U V aE,X aq af ai,X ar ag aj] 99;have bM:=Ab ((Aa dN).after (Aa au) NLN);have cr:=Ab ((Aa ap).2.2.2.1.below D NLN);have bN:=Ab ((Aa ap).2.2.2.2.below D NLN);dsimp only at cr bN;generalize cs:(ay.take t).any (fun r=>usS x.2 r.1)=aJ;have b9:=Ab cs;clear az aN ax cs ap aD;go_upto_block 4 with fail
       generalize A.alloc (jC #[U V bL,Q bc,U V aE,X aq af ai,X ar ag aj] 99)=dR at RS au bM cr bN D|-;generalize A.heap.size=ak at RS|-;clear G c0 c1 c2 c3 c4 cq D;generalize dR=A at RS au bM cr bN|-;obtain⟨bJ,s1,s2,ct,cu,-⟩:=Aq RS;go_upto_block 4 with fail
       go_cut [7] (fun u ac=>u= .bool (aJ||usO x.2 y.1.cond)/\An A ac)
       case first=>
        have E:=Aa cr;have aa:=(Aa bK).1;clear bJ s1 s2 ct cu;rcases hoo:y.1.cond with _|ez
        ·have bO:=Ab hoo;rw[hoo]at E;have av:af=0:=E;clear hoo E aa;subst av;go_wp2_with fail
         refine wp_loop_rounds 1 ?_;rw[rounds_succ];go_wp2
         go_meet
         exact⟨by rw[Aa bO];simp[usO],BRN⟩
        ·have bO:=Ab hoo;rw[hoo]at E aa;obtain⟨av,o,aG,aK⟩:=E;subst av;obtain⟨ca,cb,rfl,dq,aH⟩:=Bp aG (by simp);obtain⟨aO,b1,b2,b3,b4⟩:=aH 0 (by simp);simp only[z3,zw,ze]at aO b1 b2 b3 b4;have D:=AN A (CZ o);obtain⟨bs,bt,bu,bv,bw,-⟩:=Aq ((Aa bM).alloc (CZ o));have bd:=Ab (Kk x.2 ez o _ (aK.below D NLN) aa);have bh:=Ab D;clear hoo aH aG aK D aa;cases aJ with
         |true=>
          go_wp2_with fail
          refine wp_loop_rounds 2 ?_;rw[rounds_succ];go_wp2_with fail
          rw[rounds_succ];go_wp2
          go_meet
          exact⟨by simp,(Aa bh)⟩
         |false=>
          go_wp2_with fail
          refine wp_loop_rounds 2 ?_;rw[rounds_succ];go_wp2_with fail
          refine(Aa bd).mono ?_;rintro r bx ⟨rfl,bP⟩;have dS:=Ab ((Aa bh).trans (bP.mono (Aa bh).size));clear bP bd bh aO b1 b2 b3 b4 bs bt bu bv bw;dsimp only;go_wp2_with fail
          rw[rounds_succ];go_wp2
          go_meet
          exact⟨by rw[Aa bO];simp[usO],(Aa dS)⟩
       case rest=>
        obtain⟨rfl,a4⟩:=hcut;have ff:=RS.after a4 NLN;replace bM:=Ab ((Aa bM).after a4 NLN);replace bN:=Ab ((Aa bN).below a4 NLN);replace au:=Ab ((Aa au).trans (a4.mono (Aa au).size));clear bJ s1 s2 ct cu cr RS a4;generalize wc=A at ff bM bN au|-;obtain⟨bJ,s1,s2,ct,cu,-⟩:=Aq ff;generalize fg:(aJ||usO x.2 y.1.cond)=aJ;have dT:=Ab fg;clear fg;go_upto_block 6 with fail
        have E:=Aa bN;have aa:=(Aa bK).2;clear bJ s1 s2 ct cu;rcases hoo:y.1.grant with _|ez
        ·have bO:=Ab hoo;rw[hoo]at E;have av:ag=0:=E;clear hoo E aa;subst av;go_wp2_with fail
         refine wp_loop_rounds 1 ?_;rw[rounds_succ];go_wp2
         go_roundw
         case rel=>exact⟨t+1,Aa aI,by go_num,by rw[Aa dp,Aa b9,usS,<-Bool.or_assoc,Aa dT];rw[Aa bO];simp[usO],(Aa au).trans (BRN.mono (Aa au).size)⟩
         case measure=>have:=Aa aI;simp[intOf];omega
        ·have bO:=Ab hoo;rw[hoo]at E aa;obtain⟨av,o,aG,aK⟩:=E;subst av;obtain⟨ca,cb,rfl,dq,aH⟩:=Bp aG (by simp);obtain⟨aO,b1,b2,b3,b4⟩:=aH 0 (by simp);simp only[z3,zw,ze]at aO b1 b2 b3 b4;have D:=AN A (CZ o);obtain⟨bs,bt,bu,bv,bw,-⟩:=Aq ((Aa bM).alloc (CZ o));have bd:=Ab (Kk x.2 ez o _ (aK.below D NLN) aa);have bh:=Ab D;clear hoo aH aG aK D aa;cases aJ with
         |true=>
          go_wp2_with fail
          refine wp_loop_rounds 2 ?_;rw[rounds_succ];go_wp2_with fail
          rw[rounds_succ];go_wp2
          go_roundw
          case rel=>exact⟨t+1,Aa aI,by go_num,by rw[Aa dp,Aa b9,usS,<-Bool.or_assoc,Aa dT];simp,(Aa au).trans ((Aa bh).mono (Aa au).size)⟩
          case measure=>have:=Aa aI;simp[intOf];omega
         |false=>
          go_wp2_with fail
          refine wp_loop_rounds 2 ?_;rw[rounds_succ];go_wp2_with fail
          refine(Aa bd).mono ?_;rintro r bx ⟨rfl,bP⟩;have dS:=Ab ((Aa bh).trans (bP.mono (Aa bh).size));clear bP bd bh aO b1 b2 b3 b4 bs bt bu bv bw;dsimp only;go_wp2_with fail
          rw[rounds_succ];go_wp2
          go_roundw
          case rel=>exact⟨t+1,Aa aI,by go_num,by rw[Aa dp,Aa b9,usS,<-Bool.or_assoc,Aa dT];rw[Aa bO];simp[usO],(Aa au).trans ((Aa dS).mono (Aa au).size)⟩
          case measure=>have:=Aa aI;simp[intOf];omega
      ·have f7:t=kn:=by omega
       have cv:=Ab (show ay.take t=ay from zf (by rw[(Aa b8).lenD];omega));have fh: ¬ ((t:Int)<(kn:Int)):=by omega
       clear f7 az;go_wp2
       go_meet
       exact⟨by rw[Aa cv],G⟩
    case rest=>
     obtain⟨rfl,a4⟩:=hcut;have br:=(Aa dN).after a4 NLN;have fi:=(Aa dO).trans (a4.mono (Aa dO).size);have cc:=Ab ((Aa dL).below a4 NLN);have bz:=Ab ((Aa b8).below a4 NLN);obtain⟨bs,bt,bu,bv,bw,-⟩:=Aq br;have bA:=Ab fi;have dU:=Ab br;generalize cs:(ay.any fun r=>usS x.2 r.1)=aJ;have b9:=Ab cs;clear cs br fi dN dO dL b8;have fj:(¬ (x.1.kind=1/\aJ=jA/\JB x.1.cond=true))->Hid (Lb (W.drop j)=x ::ay):=fun h=>Ab (by rw[Aa dJ,Lb,<-Aa dQ,if_neg (by rw[Aa b9];exact h)]);have f8:=Ab fj;have f9:cp=x.1.kind:=(Aa cc).1;subst f9;clear fj;have ga:=Ab (show ∀e,x.1.cond=Y e->JB x.1.cond=AF e from fun e h=>by rw[h];rfl);go_upto_region 24 with fail
     go_cut [95] (fun v ac=>v= .bool (decide (x.1.kind=1)&&(!aJ&&JB x.1.cond))/\An wc ac)
     case first=>
      by_cases aL:x.1.kind=1
      ·have cd:(x.1.kind==1)=true:=zF.2 aL;obtain⟨ez,dV⟩:=Aa fb aL;have E:=(Aa cc).2.2.2.1;have aa:=(Aa fa).1;rw[dV]at E aa;obtain⟨av,o,aG,aK⟩:=E;dsimp only at av aG;subst av;obtain⟨ca,cb,rfl,dq,aH⟩:=Bp aG (by simp);obtain⟨aO,b1,b2,b3,b4⟩:=aH 0 (by simp);simp only[z3,zw,ze]at aO b1 b2 b3 b4;have bd:=Ab (EO ez o _ aK aa);have dr:=Ab (show(decide (x.1.kind=1)&&(!aJ&&JB x.1.cond))=(!aJ&&AF ez) by rw[zN aL,Aa ga ez dV];rfl);clear aG aK aH aL dV aa;cases aJ with
       |true=>
        go_wp2
        go_meet
        exact⟨by rw[Aa dr];rfl,BRN⟩
       |false=>
        go_wp2_with fail
        refine(Aa bd).mono ?_;rintro r bx ⟨rfl,bP⟩;dsimp only;go_wp2
        go_meet
        exact⟨by rw[Aa dr];rfl,bP⟩
      ·have cd:(x.1.kind==1)=jA:=zA.2 aL;have dr:=Ab (show(decide (x.1.kind=1)&&(!aJ&&JB x.1.cond))=jA by rw[zI aL];rfl);clear aL;go_wp2
       go_meet
       exact⟨by rw[Aa dr],BRN⟩
     case rest=>
      obtain⟨rfl,cw⟩:=hcut;replace dU:=Ab ((Aa dU).after cw NLN);replace bA:=Ab ((Aa bA).trans (cw.mono (Aa bA).size));replace cc:=Ab ((Aa cc).below cw NLN);replace bz:=Ab ((Aa bz).below cw NLN);clear bs bt bu bv bw cw a4;cases cx:(decide (x.1.kind=1)&&(!aJ&&JB x.1.cond))with
      |true=>
       have fk:x.1.kind=1/\aJ=jA/\JB x.1.cond=true:=by simpa using cx
       have ds:=Ab (show ay=Lb (W.drop j) by rw[Aa dJ,Lb,<-Aa dQ,if_pos (by rw[Aa b9];exact fk)]);clear cx fk;rw[Aa ds]at bz;go_wp2
       go_roundw
       case rel=>exact⟨j,ka,kn,kc,ao,Nat.le_of_succ_le di,rfl,rfl,dj,bz,Aa bA⟩
       case measure=>simp[intOf]
      |false=>
       have ds:=Aa f8 (fun h=>by rw[zN h.1,h.2.1,h.2.2]at cx;cases cx);clear cx;have dW:StT wc ⟨x.1.kind,aX,x.2,aY,aZ,a0,a1,a2,a3⟩ x:=Aa cc;have D:=AN wc (jC #[U V x.1.kind,Q aX,U V x.2,X aY aZ a0,X a1 a2 a3] 99);have cy:(wc.alloc (jC #[U V x.1.kind,Q aX,U V x.2,X aY aZ a0,X a1 a2 a3] 99)).ownsRow wc.heap.size 99 5 (X (Y ⟨wc.heap.size,0,T⟩) 1 1) 1 (S5.cs ⟨x.1.kind,aX,x.2,aY,aZ,a0,a1,a2,a3⟩):=⟨rfl,.inr ⟨wc.heap.size,1,_,rfl,NLN,heap_alloc_new wc _,NLN,by decide,rfl,rfl⟩⟩
       have gb:=Ab ((Aa bA).trans (D.mono (Aa bA).size));have KB:=(Aa bz).below D NLN;have dX:=dW.below D NLN;have dt:=Ab KB;have gc:=Ab dX;have ge:=Ab cy;obtain⟨bs,bt,bu,bv,bw,-⟩:=Aq (Aa dU);by_cases dY:kn=0
       ·have gf:=dj dY;subst dY gf;have cz:=cy;clear cy KB dX D dW dj;go_wp2_with (at_builtin;refine Bg rfl _ _ 95 rfl wc.heap.size 99 eR 5 kc underlying95 eS (.slice (Y ⟨wc.heap.size,0,T⟩) 1 1) 1 _ rfl cz rfl ?_)
        have fl:ao=[]:=zj (Aa dt).len;have bQ:=ZV.cons (n':=1) (c':=1) (Aa dt).len (Aa dt).lenD (Aa dt).each (Aa gc) rfl (by rw[fl];simpa using Aa ge);rw[<-Aa ds]at bQ;have dZ:=Ab bQ;clear bQ fl cz;go_wp2
        go_roundw
        case rel=>exact⟨j,_,_,_,_,Nat.le_of_succ_le di,rfl,rfl,fun h=>(by cases h),dZ,Aa gb⟩
        case measure=>simp[intOf]
       ·obtain⟨dm,dn,rfl,cq,-⟩:=MT KB.rows (j:=0) (by rw[KB.len];omega);have fm:=KB.rows.news;have fn:(ao.flatMap S5.cs).length=kn*5:=by rw[NZ,KB.len]
        have cz:=cy;have gg: 0<kn:=by omega
        have bB:=Ab fn;clear cy KB dX D dW dj dY fn;go_wp2_with (at_builtin;refine wpList_append_lies _ rfl _ _ 95 rfl wc.heap.size 99 eR (jE #[U V 0,Q ByteArray.empty,U V 0,X T 0 0,X T 0 0]) 5 80 underlying95 eS fY fZ f0 rfl (by decide) (X (Y ⟨wc.heap.size,0,T⟩) 1 1) 1 _ rfl cz ⟨dm,dn,T⟩ kn kc (ao.flatMap S5.cs) rfl (Aa bB) fm (AgH ao) gg (by unfold maxLen;omega) (by omega) (by simp) _ rfl ?_)
        intro g7 c7 cA bC bD hat cB;have fo:=(Below.refl (wc.alloc (jC #[U V x.1.kind,Q aX,U V x.2,X aY aZ a0,X a1 a2 a3] 99)).heap.size (wc.alloc (jC #[U V x.1.kind,Q aX,U V x.2,X aY aZ a0,X a1 a2 a3] 99))).mono (show wc.heap.size<=_ by simp);have du:=fo.grown bD (by simp) (fun q aA=>by have g2:wc.heap.size=q:=(by simpa[Value.ownBlock]using aA);omega);have dv:An wc cA:=(AN wc (jC #[U V x.1.kind,Q aX,U V x.2,X aY aZ a0,X a1 a2 a3] 99)).trans du;have bQ:=ZV.cons (n':=kn+1) (c':=c7) (Aa bz).len (Aa bz).lenD (fun j h1 gh=>((Aa bz).each j h1 gh).below dv NLN) ((Aa cc).below dv NLN) rfl (by have:=bC;rw[Nat.add_comm 1 kn]at this;exact this);rw[<-Aa ds]at bQ;have dZ:=Ab bQ;have gi:=Ab ((Aa bA).trans (dv.mono (Aa bA).size));clear bQ cz bC bD hat cB fo du dv fm;go_wp2
        go_roundw
        case rel=>exact⟨j,_,_,_,_,Nat.le_of_succ_le di,rfl,rfl,fun h=>(by omega),by rw[Nat.add_comm 1 kn];exact dZ,Aa gi⟩
        case measure=>simp[intOf]
 case rest=>
  obtain⟨ka,kn,kc,ao,rfl,dw,fp⟩:=hcut;obtain⟨z,dx⟩:∃z,z=Lb W:=⟨_,rfl⟩
  rw[<-dx]at dw;have e9:kn<=600:=by rw[<-dw.lenD,dx];exact zC (UN _) (by rw[Aa ck];exact eB)
  have ce:=Ab dw;have bR:=Ab fp;have cC:=Ab dx;generalize wc=bE at ce bR|-;clear dx dw fp;go_upto_block 8 with fail
  go_cut [14] (fun lv ac=>∃ (a5:Option jD) (ab a6:Nat),lv=X a5 ab a6/\Hid (ac.ownsRow bE.heap.size 2 1 (X a5 ab a6) ab (Aw (Dp z))/\(Dp z).length=ab)/\An bE ac)
  case first=>
   go_wp2_with fail
   go_loopw [14,102] (fun lv i wr=>∃ (t:Nat) (a5:Option jD) (ab a6:Nat),t<=kn/\i=U V t/\lv=X a5 ab a6/\ab<=t/\Hid (wr.ownsRow bE.heap.size 2 1 (X a5 ab a6) ab (Aw (Dp (z.take t)))/\(Dp (z.take t)).length=ab)/\An bE wr) (fun _ i _=>kn-(intOf i).toNat)
   case atStart=>exact⟨0,T,0,0,zE _,rfl,rfl,zE _,Ab ⟨World.ownsRow_nil _ _ _ _,rfl⟩,BRN⟩
   case round=>
    obtain⟨t,a5,ab,a6,fd,rfl,rfl,gj,aS,G⟩:=hrel;obtain⟨A,rfl⟩:∃A,A=wr:=⟨_,rfl⟩
    by_cases az:t<kn
    ·have fe:(t:Int)<(kn:Int):=by omega
     have aD:=(Aa ce).below G NLN;have aN:t<ao.length:=by rw[aD.len];exact az
     have ax:t<z.length:=by rw[aD.lenD];exact az
     obtain⟨dm,dn,rfl,cq,c0,c1,c2,c3,c4⟩:=MT aD.rows aN;have ap:=Ab (aD.each t aN ax);have d0:=Ab (Afx ax);have aI:=Ab az;generalize ao[t]=s at c0 c1 c2 c3 c4 ap;generalize z[t]=y at ap d0;obtain⟨bL,bc,aE,aq,af,ai,ar,ag,aj⟩:=s;dsimp only at c0 c1 c2 c3 c4;have d1:bL=y.1.kind/\aE=y.2:=⟨(Aa ap).1,(Aa ap).2.2.1⟩
     obtain⟨rfl,rfl⟩:=d1;have D:=AN A (jC #[U V y.1.kind,Q bc,U V y.2,X aq af ai,X ar ag aj] 99);have au:=Ab (G.trans (D.mono G.size));have RS:=Ah.new A #[U V y.1.kind,Q bc,U V y.2,X aq af ai,X ar ag aj] 99;have g3:bE.heap.size<=A.heap.size:=G.size;clear az aN ax ap aD;by_cases aL:y.1.kind=1
     ·have cd:(y.1.kind==1)=true:=zF.2 aL;have cD:=Ab (show Dp (z.take (t+1))=Dp (z.take t)++[y.2] by rw[Aa d0,if_pos aL]);clear aL;obtain⟨gl,gm,gn,gp,gq⟩:=info_parts Afw;have cf:=World.ownsRow.alloc (Aa aS).1 (jC #[U V y.1.kind,Q bc,U V y.2,X aq af ai,X ar ag aj] 99);have fq:=World.ownsRow.alloc cf (jC #[U V y.2] 2);obtain⟨bJ,s1,s2,ct,cu,-⟩:=Aq RS;go_wp2_with (at_builtin;refine wpList_append_lies _ rfl _ _ 103 rfl bE.heap.size 2 gl (U V 0) 1 8 underlying103 gm gn gp gq rfl (by decide) (X a5 ab a6) ab (Aw (Dp (z.take t))) rfl fq ⟨A.heap.size+1,0,T⟩ 1 1 [U V y.2] rfl rfl ?n1 (by intro u hu;simp at hu;subst hu;rfl) (by decide) (by unfold maxLen;omega) (by omega) (by simp;omega) _ rfl ?_)
      case n1=>exact Dr _ _ _ _ (by simp)
      intro g7 c7 cA bC bD hat cB;have du:=((Aa au).alloc (Aa au).size (jC #[U V y.2] 2)).grown bD (by have:=(Aa au).size;rw[World.size_alloc];omega) (fun q aA=>((Aa aS).1.lt q aA).1);have bi:=Ab (show cA.ownsRow bE.heap.size 2 1 (X (Y ⟨g7,0,T⟩) (ab+1) c7) (ab+1) (Aw (Dp (z.take (t+1))))/\(Dp (z.take (t+1))).length=ab+1 from⟨by rw[Aa cD];simpa[Aw]using bC,by rw[Aa cD,zB,(Aa aS).2];rfl⟩);clear bC bD hat cB cf fq RS;go_wp2
      go_roundw
      case rel=>exact⟨t+1,_,_,_,Aa aI,by go_num,rfl,by omega,bi,du⟩
      case measure=>have:=Aa aI;simp[intOf];omega
     ·have cd:(y.1.kind==1)=jA:=zA.2 aL;have cD:=Ab (show Dp (z.take (t+1))=Dp (z.take t) by rw[Aa d0,if_neg aL,zd]);clear aL;have bi:=Ab (show(A.alloc (jC #[U V y.1.kind,Q bc,U V y.2,X aq af ai,X ar ag aj] 99)).ownsRow bE.heap.size 2 1 (X a5 ab a6) ab (Aw (Dp (z.take (t+1))))/\(Dp (z.take (t+1))).length=ab from⟨by rw[Aa cD];exact World.ownsRow.alloc (Aa aS).1 _,by rw[Aa cD];exact(Aa aS).2⟩);clear RS;go_wp2
      go_roundw
      case rel=>exact⟨t+1,_,_,_,Aa aI,by go_num,rfl,by omega,bi,Aa au⟩
      case measure=>have:=Aa aI;simp[intOf];omega
    ·have cv:=Ab (show z.take t=z from zf (by rw[(Aa ce).lenD];omega));have fh: ¬ ((t:Int)<(kn:Int)):=by omega
     have bi:=aS;rw[Aa cv]at bi;clear az aS;go_wp2
     go_meet
     exact⟨_,_,_,rfl,bi,G⟩
  case rest=>
   obtain⟨a5,ab,a6,rfl,aS,cE⟩:=hcut;have gj:ab<=600:=by rw[<-(Aa aS).2];exact zC (AgI z) (by rw[(Aa ce).lenD];exact e9)
   have d2:=Ab (Xd (Aa aS).1 (Aa aS).2 (by omega));have cg:=Ab ((Aa ce).below cE NLN);have dy:=Ab (show w.heap.size<=wc.heap.size from zC (Aa cl).size (zC (Aa bR).size cE.size));have d3:=Ab (((Aa cl).trans ((Aa bR).mono (Aa cl).size)).trans (cE.mono (zC (Aa cl).size (Aa bR).size)));have dz:=Ab (((Aa dh).below (Aa bR) (Aa dh).lt).below cE (zR (Aa dh).lt (Aa bR).size));have fr:=Ab (show(Dp z).Nodup by rw[Aa cC];exact Aa eX);have cF:=Ab (show H=z.map (fun q=>PI (Dp z) q.1) by rw[Aa cC];exact Aa eW);have fs:=Ab (show ∀q∈z,∀m,usS m q.1=true->m∈Dp z by rw[Aa cC];exact Aa eY);have gr:=Ab (show ∀q∈z,UO q.1.cond/\UO q.1.grant from fun q aA=>Aa dc q (PM W (by rw[<-Aa cC];exact aA)));generalize wc=l at d2 cg dy d3 dz|-;have g4:=Aa dy;clear cE aS ce bR e7 dh cl dc eV ck eX eW eY cC;go_upto_block 10 with fail
   have ft:=Ab (show Sv l.heap.size l.heap.size l (X T 0 0) (X T 0 0) [] [] [] [] (l.alloc (Nr T 0 0 T 0 0 T 0 0))from⟨Du.nil _ _,World.ownsRow_nil _ _ _ _,Ah.new l _ _,BRN.alloc NLN _,NLN⟩);generalize l.alloc (Nr T 0 0 T 0 0 T 0 0)=g5 at ft|-;go_cut [] (fun ac=>∃ (nd aT:jB) (P K:List jB),Hid (Sv l.heap.size l.heap.size l nd aT (DG 0 H) (Dv 0 H) P K ac))
   case first=>
    go_wp2_with fail
    go_loopw [117] (fun i wr=>∃ (t:Nat) (nd aT:jB) (P K:List jB),t<=kn/\i=U V t/\Hid (Sv l.heap.size l.heap.size l nd aT (DG 0 (H.take t)) (Dv 0 (H.take t)) P K wr)) (fun i _=>kn-(intOf i).toNat)
    case atStart=>exact⟨0,_,_,_,_,zE _,rfl,ft⟩
    case round=>
     obtain⟨t,nd,aT,P,K,fd,rfl,dA⟩:=hrel;obtain⟨A,rfl⟩:∃A,A=wr:=⟨_,rfl⟩
     by_cases az:t<kn
     ·have fe:(t:Int)<(kn:Int):=by omega
      have ch:=Aa dA;have aD:=(Aa cg).below ch.F NLN;have aN:t<ao.length:=by rw[aD.len];exact az
      have ax:t<z.length:=by rw[aD.lenD];exact az
      obtain⟨dm,dn,rfl,cq,c0,d4,c2,c3,c4⟩:=MT aD.rows aN;have ap:=Ab ((Aa cg).each t aN ax);have bK:=Ab (Aa gr _ (zH ax));have d5:=Ab (show(∀m,usO m z[t].1.cond=true->m∈Dp z)/\(∀m,usO m z[t].1.grant=true->m∈Dp z)from⟨fun m h=>Aa fs _ (zH ax) m (by simp[usS,h]),fun m h=>Aa fs _ (zH ax) m (by simp[usS,h])⟩);have d6:=Ab (show H.take (t+1)=H.take t++[PI (Dp z) z[t].1] by rw[zc (by rw[Aa cF,zU];exact ax)];congr 2;simp[Aa cF]);have aI:=Ab az;generalize ao[t]=s at c0 d4 c2 c3 c4 ap;generalize z[t]=y at ap bK d5 d6;obtain⟨bL,bc,aE,aq,af,ai,ar,ag,aj⟩:=s;dsimp only at c0 d4 c2 c3 c4;have d1:bL=y.1.kind/\bc=y.1.name:=⟨(Aa ap).1,(Aa ap).2.1⟩
      obtain⟨rfl,rfl⟩:=d1;obtain⟨N,dB⟩:∃N,N=DG 0 (H.take t):=⟨_,rfl⟩
      obtain⟨a7,dC⟩:∃a7,a7=Dv 0 (H.take t):=⟨_,rfl⟩
      obtain⟨aU,d7⟩:∃aU,aU=y.1.cond.map (DU (Dp z)):=⟨_,rfl⟩
      obtain⟨go,d8⟩:∃go,go=y.1.grant.map (DU (Dp z)):=⟨_,rfl⟩
      have fu:N.length=Cn (H.take t):=by rw[dB,IQ]
      have fv:N.length+Bc aU<=65535/\(N++Pu aU N.length).length+Bc go<=65535:=by
       have q:=AdL H (t+1);rw[Aa d6,Wz,BI]at q;have e1:(PI (Dp z) y.1).cond=aU:=d7.symm;have e2:(PI (Dp z) y.1).grant=go:=d8.symm;rw[e1,e2]at q;have:=Aa dF;rw[zB,Jk];omega
      have gs:a7.length<=600:=by rw[dC,IR,zv];omega
      have cG:=Ab fv;have d9:=Ab d7;have ea:=Ab d8;have dD:=Ab (And.intro dB (And.intro dC fu));rw[<-dB,<-dC]at ch;have D:=(AN A (jC #[U V y.1.kind,Q y.1.name,U V aE,X aq af ai,X ar ag aj] 99)).alloc (by simp) (jC #[U V y.1.kind,Q y.1.name,U V (-1),U V (-1)] 93);have aB:=Ab (ch.below D);have aF:=(Ah.new A #[U V y.1.kind,Q y.1.name,U V aE,X aq af ai,X ar ag aj] 99).alloc (jC #[U V y.1.kind,Q y.1.name,U V (-1),U V (-1)] 93);have aw:=Ah.new (A.alloc (jC #[U V y.1.kind,Q y.1.name,U V aE,X aq af ai,X ar ag aj] 99)) #[U V y.1.kind,Q y.1.name,U V (-1),U V (-1)] 93;simp only[World.size_alloc]at aw;have gt:l.heap.size<A.heap.size:=ch.Rr.lt;have eb:=Ab (show ∀q,aT.ownBlock=Y q->q<A.heap.size from fun q aA=>(ch.S.lt q aA).2);clear az aN ax aD dB dC d7 d8 fv fu D ch dA;go_upto_block 12 with fail
      generalize (A.alloc (jC #[U V y.1.kind,Q y.1.name,U V aE,X aq af ai,X ar ag aj] 99)).alloc (jC #[U V y.1.kind,Q y.1.name,U V (-1),U V (-1)] 93)=dR at aB aF aw|-;generalize dM:A.heap.size=aR at aF aw eb gt|-;generalize g6:aR+1=ak at aw|-;clear c0 d4 c2 c3 c4 cq dM;generalize dR=A at aB aF aw|-;go_cut [] (fun ac=>∃ (nd:jB) (P K:List jB) (ci:Int),Hid (ci=JG aU (N).length)/\Hid (Sv l.heap.size l.heap.size l nd aT (N++Pu aU (N).length) a7 P K ac)/\Ah ac aR #[U V y.1.kind,Q y.1.name,U V aE,X aq af ai,X ar ag aj] 99/\Ah ac ak #[U V y.1.kind,Q y.1.name,U V ci,U V (-1)] 93)
      case first=>
       have E:=(Aa ap).2.2.2.1;have aa:=(Aa bK).1;have bj:=(Aa d5).1;dsimp only at E;rcases hoo:y.1.cond with _|ez
       ·rw[hoo]at E;have av:af=0:=E;obtain rfl:aU=T:=by rw[Aa d9,hoo];rfl
        have bS:=Ab (show ∃ (nd:jB) (P K:List jB) (ci:Int),Hid (ci=JG T (N).length)/\Hid (Sv l.heap.size l.heap.size l nd aT (N++Pu T (N).length) a7 P K A)/\Ah A aR #[U V y.1.kind,Q y.1.name,U V aE,X aq af ai,X ar ag aj] 99/\Ah A ak #[U V y.1.kind,Q y.1.name,U V ci,U V (-1)] 93 from⟨nd,P,K,-1,Ab rfl,Ab (by simpa[Pu]using Aa aB),aF,aw⟩);clear hoo E aa bj aF aw;subst av;go_wp2_with fail
        refine wp_loop_rounds 1 ?_;rw[rounds_succ];go_wp2
        go_meet
        exact Aa bS
       ·rw[hoo]at E aa bj;obtain rfl:aU=Y (DU (Dp z) ez):=by rw[Aa d9,hoo];rfl
        obtain⟨av,o,aG,aK⟩:=E;subst av;have I:=Aa aB;have cH:=aG.below I.F NLN;have cI:=aK.below I.F NLN;obtain⟨ca,cb,rfl,dq,aH⟩:=Bp cH (by simp);obtain⟨aO,b1,b2,b3,b4⟩:=aH 0 (by simp);simp only[z3,zw,ze]at aO b1 b2 b3 b4;obtain⟨M,aP⟩:∃M,M=(N).length:=⟨_,rfl⟩
        obtain⟨ad,a8,bF,_⟩:=Ae I.C.own;rw[<-aP]at bF;subst bF;have D:=AN A (CZ o);have bk:=I.below D.drew;have cJ:=Ah.new A #[U V o.op,U V o.num,Q o.text,X o.an o.nn o.cn,X o.ka o.kn o.kc] 101;have cK:=I.Rr.alloc (CZ o);have cL:=aF.after D.drew NLN;have cM:=aw.after D.drew NLN;have cN:=(Aa d2).below bk.F NLN;have gu:=I.F.size;have ec:w.heap.size<=(A.alloc (CZ o)).drew.heap.size:=by have:=D.size;show w.heap.size<=(A.alloc (CZ o)).heap.size;omega
        have cO:=Ab (Fd (Ig w (Aa fr) ez o (A.alloc (CZ o)).drew ec (cI.below D.drew NLN) cN aa bj) (fun e w' ⟨k,h,_⟩=>⟨_,h⟩));obtain⟨e0,e1,e2,e3,e4,-⟩:=Aq cJ;obtain⟨bT,bU,bV⟩:=Ao cK;have ed:(Tryz.f49.name== "runtime.NumGoroutine")=jA:=by kernel_rfl
        have ee: Tryz.f49.body.isNone=jA:=by kernel_rfl
        have ef:(Tryz.f50.name== "runtime.NumGoroutine")=jA:=by kernel_rfl
        have eg: Tryz.f50.body.isNone=jA:=by kernel_rfl
        have eh:=Ab bk;have ei:=Ab cL;have ej:=Ab cM;have cP:=Ab (show ∀q,(Value.slice ad M a8).ownBlock=Y q->q<(A.alloc (CZ o)).drew.heap.size from fun q aA=>(bk.C.lts.1 q aA).2);have bB:=Ab aP;have bW:=Ab (show(N).length+(Eg (DU (Dp z) ez) (N).length).length<=65535 by have q:=(Aa cG).1;rw[AK];exact q);clear hoo aH aG aK cH cI D cJ cK I bk cL cM aa bj cN aF aw aB aP;go_wp2_with fail
        refine wp_loop_rounds 2 ?_;rw[rounds_succ];go_wp2_with fail
        go_region_law (first
         |(refine Bf rfl 49 _ func49 ed ee _ _ _ rfl (jE #[U V o.op,U V o.num,Q o.text,X o.an o.nn o.cn,X o.ka o.kn o.kc]) (X a5 ab a6) rfl rfl _ (Aa cO) ?_;rintro gv bx ⟨ae,ek,cQ,bl⟩;obtain rfl:=AS ek;have aC:=(Aa eh).below bl;have cS:=Ab (Fd (Pn (wz:=w) (B:=l.heap.size) (Aa dy) (DU (Dp z) ez) ae cQ (N) (X ad M a8) P K bx (Cp.of_below BRN) NLN (fun q aA=> .inl (Aa cP q aA)) aC.C aC.F.size (Aa bW)) (fun e w' ⟨v,_,_,h,_⟩=>⟨_,h⟩));have cT:bx.cell? ⟨l.heap.size,0,T⟩=Y (X ad M a8):=aC.Rr.cell 0;clear cQ)
         |(refine Bf rfl 50 _ func50 ef eg _ _ _ rfl (jE #[U V ae.op,U V ae.num,Q ae.text,X ae.an ae.nn ae.cn,X ae.ka ae.kn ae.kc]) (X ad M a8) rfl rfl _ (Aa cS) ?_;rintro gw aV ⟨gx,gy,gz,el,bm,a9,em,en⟩;obtain rfl:=AS el;obtain⟨J,bX⟩:∃L,L=(N++Eg (DU (Dp z) ez) (N).length).length:=⟨_,rfl⟩;obtain⟨ba,bb,cU,_⟩:=Ae bm.own;rw[<-bX]at cU;subst cU;have cV:=Ab bX;clear bX;have bY:=(aC.put bm a9).1;have cW:aV.cell? ⟨l.heap.size,0,T⟩=Y (X ad M a8):=bY.cell 0;have eo:=bY.frozen 0))
        all_goals
         have bZ:=(aC.put bm a9).2;have cX:=a9.row aC.C ((Aa ei).after bl NLN) (by decide);have cY:=a9.row aC.C ((Aa ej).after bl NLN) (by decide);have gA:J<=65535:=by rw[Aa cV,zB];exact Aa bW
         have cZ:=cX.setFar (p:=⟨l.heap.size,0,T⟩) (by show aR≠l.heap.size;omega) (X ba J bb);have bn:=cY.setFar (p:=⟨l.heap.size,0,T⟩) (by show ak≠l.heap.size;omega) (X ba J bb);have bG:=bZ.set (j:=2) (u:= U V ((J:Int)-1)) bn (by decide) (by decide) (by decide) (by decide) (fun e=>by have:=Aa eb _ e;omega) (by omega);have c5:=cZ.setFar (p:=⟨ak,2,T⟩) (by show aR≠ak;omega) (U V ((J:Int)-1));have b0:=bn.set 2 (U V ((J:Int)-1));simp only[zV,zX,zQ]at b0;have e6:(J:Int)-1=JG (Y (DU (Dp z) ez)) (N).length:=by
          have:=Fk (DU (Dp z) ez);rw[Aa cV,zB,AK];show _=((((N).length+(DU (Dp z) ez).cnt-1 :Nat)):Int)
          omega
         obtain⟨fw,cd,fx⟩:=Ao bZ.Rr;obtain⟨m0,ep,eq,er,gB⟩:=BN bn;have bS:=Ab (show ∃ (nd:jB) (P K:List jB) (ci:Int),Hid (ci=JG (Y (DU (Dp z) ez)) (N).length)/\Hid (Sv l.heap.size l.heap.size l nd aT (N++Pu (Y (DU (Dp z) ez)) (N).length) a7 P K ((aV.setCell ⟨l.heap.size,0,T⟩ (X ba J bb)).setCell ⟨ak,2,T⟩ (U V ((J:Int)-1))))/\Ah ((aV.setCell ⟨l.heap.size,0,T⟩ (X ba J bb)).setCell ⟨ak,2,T⟩ (U V ((J:Int)-1))) aR #[U V y.1.kind,Q y.1.name,U V aE,X (Y ⟨ca,cb,T⟩) 1 ai,X ar ag aj] 99/\Ah ((aV.setCell ⟨l.heap.size,0,T⟩ (X ba J bb)).setCell ⟨ak,2,T⟩ (U V ((J:Int)-1))) ak #[U V y.1.kind,Q y.1.name,U V ci,U V (-1)] 93 from⟨_,_,_,(J:Int)-1,Ab e6,Ab bG,c5,b0⟩);clear bZ bG cX cY cZ bn c5 b0 bY bm a9 em en aC bl cS cT cW eo cO bW cP e0 e1 e2 e3 e4 bT bU bV aO b1 b2 b3 b4 e6;go_wp2_with fail
         rw[rounds_succ];go_wp2
         go_meet
         exact Aa bS
      case rest=>
       obtain⟨nd,P,K,bH,gC,aB,aF,aw⟩:=hcut;obtain⟨ah,dE⟩:∃ah,ah=N++Pu aU N.length:=⟨_,rfl⟩
       rw[<-dE]at aB;have es:=(Aa cG).2;rw[<-dE]at es;have fy:=Ab dE;clear cG;have cG:=Ab (And.intro True.intro es);clear dE es;obtain⟨bs,bt,bu,bv,bw,-⟩:=Aq aF;go_upto_block 14 with fail
       clear bs bt bu bv bw;generalize wc=A at aB aF aw|-;go_cut [] (fun ac=>∃ (nd:jB) (P K:List jB) (ci:Int),Hid (ci=JG go (ah).length)/\Hid (Sv l.heap.size l.heap.size l nd aT (ah++Pu go (ah).length) a7 P K ac)/\Ah ac aR #[U V y.1.kind,Q y.1.name,U V aE,X aq af ai,X ar ag aj] 99/\Ah ac ak #[U V y.1.kind,Q y.1.name,U V bH,U V ci] 93)
       case first=>
        have E:=(Aa ap).2.2.2.2;have aa:=(Aa bK).2;have bj:=(Aa d5).2;dsimp only at E;rcases hoo:y.1.grant with _|ez
        ·rw[hoo]at E;have av:ag=0:=E;obtain rfl:go=T:=by rw[Aa ea,hoo];rfl
         have bS:=Ab (show ∃ (nd:jB) (P K:List jB) (ci:Int),Hid (ci=JG T (ah).length)/\Hid (Sv l.heap.size l.heap.size l nd aT (ah++Pu T (ah).length) a7 P K A)/\Ah A aR #[U V y.1.kind,Q y.1.name,U V aE,X aq af ai,X ar ag aj] 99/\Ah A ak #[U V y.1.kind,Q y.1.name,U V bH,U V ci] 93 from⟨nd,P,K,-1,Ab rfl,Ab (by simpa[Pu]using Aa aB),aF,aw⟩);clear hoo E aa bj aF aw;subst av;go_wp2_with fail
         refine wp_loop_rounds 1 ?_;rw[rounds_succ];go_wp2
         go_meet
         exact Aa bS
        ·rw[hoo]at E aa bj;obtain rfl:go=Y (DU (Dp z) ez):=by rw[Aa ea,hoo];rfl
         obtain⟨av,o,aG,aK⟩:=E;subst av;have I:=Aa aB;have cH:=aG.below I.F NLN;have cI:=aK.below I.F NLN;obtain⟨ca,cb,rfl,dq,aH⟩:=Bp cH (by simp);obtain⟨aO,b1,b2,b3,b4⟩:=aH 0 (by simp);simp only[z3,zw,ze]at aO b1 b2 b3 b4;obtain⟨M,aP⟩:∃M,M=(ah).length:=⟨_,rfl⟩
         obtain⟨ad,a8,bF,_⟩:=Ae I.C.own;rw[<-aP]at bF;subst bF;have D:=AN A (CZ o);have bk:=I.below D.drew;have cJ:=Ah.new A #[U V o.op,U V o.num,Q o.text,X o.an o.nn o.cn,X o.ka o.kn o.kc] 101;have cK:=I.Rr.alloc (CZ o);have cL:=aF.after D.drew NLN;have cM:=aw.after D.drew NLN;have cN:=(Aa d2).below bk.F NLN;have gu:=I.F.size;have ec:w.heap.size<=(A.alloc (CZ o)).drew.heap.size:=by have:=D.size;show w.heap.size<=(A.alloc (CZ o)).heap.size;omega
         have cO:=Ab (Fd (Ig w (Aa fr) ez o (A.alloc (CZ o)).drew ec (cI.below D.drew NLN) cN aa bj) (fun e w' ⟨k,h,_⟩=>⟨_,h⟩));obtain⟨e0,e1,e2,e3,e4,-⟩:=Aq cJ;obtain⟨bT,bU,bV⟩:=Ao cK;have ed:(Tryz.f49.name== "runtime.NumGoroutine")=jA:=by kernel_rfl
         have ee: Tryz.f49.body.isNone=jA:=by kernel_rfl
         have ef:(Tryz.f50.name== "runtime.NumGoroutine")=jA:=by kernel_rfl
         have eg: Tryz.f50.body.isNone=jA:=by kernel_rfl
         have eh:=Ab bk;have ei:=Ab cL;have ej:=Ab cM;have cP:=Ab (show ∀q,(Value.slice ad M a8).ownBlock=Y q->q<(A.alloc (CZ o)).drew.heap.size from fun q aA=>(bk.C.lts.1 q aA).2);have bB:=Ab aP;have bW:=Ab (show(ah).length+(Eg (DU (Dp z) ez) (ah).length).length<=65535 by have q:=(Aa cG).2;rw[AK];exact q);clear hoo aH aG aK cH cI D cJ cK I bk cL cM aa bj cN aF aw aB aP;go_wp2_with fail
         refine wp_loop_rounds 2 ?_;rw[rounds_succ];go_wp2_with fail
         go_region_law (first
          |(refine Bf rfl 49 _ func49 ed ee _ _ _ rfl (jE #[U V o.op,U V o.num,Q o.text,X o.an o.nn o.cn,X o.ka o.kn o.kc]) (X a5 ab a6) rfl rfl _ (Aa cO) ?_;rintro gv bx ⟨ae,ek,cQ,bl⟩;obtain rfl:=AS ek;have aC:=(Aa eh).below bl;have cS:=Ab (Fd (Pn (wz:=w) (B:=l.heap.size) (Aa dy) (DU (Dp z) ez) ae cQ (ah) (X ad M a8) P K bx (Cp.of_below BRN) NLN (fun q aA=> .inl (Aa cP q aA)) aC.C aC.F.size (Aa bW)) (fun e w' ⟨v,_,_,h,_⟩=>⟨_,h⟩));have cT:bx.cell? ⟨l.heap.size,0,T⟩=Y (X ad M a8):=aC.Rr.cell 0;clear cQ)
          |(refine Bf rfl 50 _ func50 ef eg _ _ _ rfl (jE #[U V ae.op,U V ae.num,Q ae.text,X ae.an ae.nn ae.cn,X ae.ka ae.kn ae.kc]) (X ad M a8) rfl rfl _ (Aa cS) ?_;rintro gw aV ⟨gx,gy,gz,el,bm,a9,em,en⟩;obtain rfl:=AS el;obtain⟨J,bX⟩:∃L,L=(ah++Eg (DU (Dp z) ez) (ah).length).length:=⟨_,rfl⟩;obtain⟨ba,bb,cU,_⟩:=Ae bm.own;rw[<-bX]at cU;subst cU;have cV:=Ab bX;clear bX;have bY:=(aC.put bm a9).1;have cW:aV.cell? ⟨l.heap.size,0,T⟩=Y (X ad M a8):=bY.cell 0;have eo:=bY.frozen 0))
         all_goals
          have bZ:=(aC.put bm a9).2;have cX:=a9.row aC.C ((Aa ei).after bl NLN) (by decide);have cY:=a9.row aC.C ((Aa ej).after bl NLN) (by decide);have gA:J<=65535:=by rw[Aa cV,zB];exact Aa bW
          have cZ:=cX.setFar (p:=⟨l.heap.size,0,T⟩) (by show aR≠l.heap.size;omega) (X ba J bb);have bn:=cY.setFar (p:=⟨l.heap.size,0,T⟩) (by show ak≠l.heap.size;omega) (X ba J bb);have bG:=bZ.set (j:=3) (u:= U V ((J:Int)-1)) bn (by decide) (by decide) (by decide) (by decide) (fun e=>by have:=Aa eb _ e;omega) (by omega);have c5:=cZ.setFar (p:=⟨ak,3,T⟩) (by show aR≠ak;omega) (U V ((J:Int)-1));have b0:=bn.set 3 (U V ((J:Int)-1));simp only[zV,zX,zQ]at b0;have e6:(J:Int)-1=JG (Y (DU (Dp z) ez)) (ah).length:=by
           have:=Fk (DU (Dp z) ez);rw[Aa cV,zB,AK];show _=((((ah).length+(DU (Dp z) ez).cnt-1 :Nat)):Int)
           omega
          obtain⟨fw,cd,fx⟩:=Ao bZ.Rr;obtain⟨m0,ep,eq,er,gB⟩:=BN bn;have bS:=Ab (show ∃ (nd:jB) (P K:List jB) (ci:Int),Hid (ci=JG (Y (DU (Dp z) ez)) (ah).length)/\Hid (Sv l.heap.size l.heap.size l nd aT (ah++Pu (Y (DU (Dp z) ez)) (ah).length) a7 P K ((aV.setCell ⟨l.heap.size,0,T⟩ (X ba J bb)).setCell ⟨ak,3,T⟩ (U V ((J:Int)-1))))/\Ah ((aV.setCell ⟨l.heap.size,0,T⟩ (X ba J bb)).setCell ⟨ak,3,T⟩ (U V ((J:Int)-1))) aR #[U V y.1.kind,Q y.1.name,U V aE,X aq af ai,X (Y ⟨ca,cb,T⟩) 1 aj] 99/\Ah ((aV.setCell ⟨l.heap.size,0,T⟩ (X ba J bb)).setCell ⟨ak,3,T⟩ (U V ((J:Int)-1))) ak #[U V y.1.kind,Q y.1.name,U V bH,U V ci] 93 from⟨_,_,_,(J:Int)-1,Ab e6,Ab bG,c5,b0⟩);clear bZ bG cX cY cZ bn c5 b0 bY bm a9 em en aC bl cS cT cW eo cO bW cP e0 e1 e2 e3 e4 bT bU bV aO b1 b2 b3 b4 e6;go_wp2_with fail
          rw[rounds_succ];go_wp2
          go_meet
          exact Aa bS
       case rest=>
        obtain⟨nd,P,K,c6,gD,aB,aF,aw⟩:=hcut;have I:=Aa aB;obtain⟨al,aW⟩:∃al,al=a7.length:=⟨_,rfl⟩
        obtain⟨bo,fz,c8,_⟩:=Ae I.S;rw[<-aW]at c8;subst c8;obtain⟨gE,gF,gG,gH,gI⟩:=info_parts VZ;obtain⟨bT,bU,bV⟩:=Ao I.Rr;obtain⟨m0,ep,eq,er,-⟩:=BN aw;have cf:=World.ownsRow.alloc I.S (Xz y.1.kind y.1.name bH c6);rw[<-aW]at cf;have fA:=World.news_of_block (heap_alloc_new wc (Xz y.1.kind y.1.name bH c6));have aH:l.heap.size<=wc.heap.size:=I.F.size;obtain⟨cT,cW,gJ⟩:=Ao (I.Rr.alloc (Xz y.1.kind y.1.name bH c6));have gK:=Ab aW;have g8:al<=600:=by rw[aW];exact gs
        clear aW I aF aw;go_wp2_with (at_builtin;refine wpList_append_lies _ rfl _ _ 66 rfl l.heap.size 93 gE (jE #[U V 0,Q ByteArray.empty,U V 0,U V 0]) 4 40 underlying66 gF gG gH gI rfl (by decide) (X bo al fz) al (En a7) rfl cf ⟨wc.heap.size,0,T⟩ 1 1 [U V y.1.kind,Q y.1.name,U V bH,U V c6] rfl rfl fA (by intro u hu;simp at hu;rcases hu with rfl|rfl|rfl|rfl<;>rfl) (by decide) (by unfold maxLen;omega) (by omega) (by simp;omega) _ rfl ?_)
        intro g7 c7 cA bC bD hat cB;obtain⟨et,bG⟩:=(Aa aB).stm (s:=⟨y.1.kind,y.1.name,bH,c6⟩) (by rw[<-Aa gK];exact bC) bD;have g9:=et.cell 1;have ha:=et.frozen 1;have gL:=Ab (show Sv l.heap.size l.heap.size l nd (X (Y ⟨g7,0,T⟩) (al+1) c7) (DG 0 (H.take (t+1))) (Dv 0 (H.take (t+1))) _ _ (cA.setCell ⟨l.heap.size,1,T⟩ (X (Y ⟨g7,0,T⟩) (al+1) c7)) by
         have e1:(PI (Dp z) y.1).cond=aU:=(Aa d9).symm;have e2:(PI (Dp z) y.1).grant=go:=(Aa ea).symm;have e3:ah.length=Cn (H.take t)+Bc aU:=by rw[Aa fy,zB,Jk,(Aa dD).2.2]
         rw[Aa d6,TJ,TL,e1,e2,zP,<-e3,<-(Aa dD).2.2,<-(Aa dD).1,<-(Aa dD).2.1,<-Aa fy,<-Aa gC,<-Aa gD];exact bG)
        clear bC bD hat cB et bG cf fA bT bU bV m0 ep eq er cT cW gJ;go_wp2
        go_roundw
        case rel=>exact⟨t+1,_,_,_,_,Aa aI,by go_num,gL⟩
        case measure=>have:=Aa aI;simp[intOf];omega
     ·have cv:=Ab (show H.take t=H from zf (by rw[Aa cF,zU,(Aa cg).lenD];omega));have fh: ¬ ((t:Int)<(kn:Int)):=by omega
      have bi:=dA;rw[Aa cv]at bi;clear az dA;go_wp2
      go_meet
      exact⟨_,_,_,_,bi⟩
   case rest=>
    obtain⟨nd,aT,P,K,aB⟩:=hcut;have I:=Aa aB;obtain⟨M,aP⟩:∃M,M=(DG 0 H).length:=⟨_,rfl⟩
    obtain⟨al,aW⟩:∃al,al=(Dv 0 H).length:=⟨_,rfl⟩
    obtain⟨ad,b5,bF,_⟩:=Ae I.C.own;obtain⟨bo,b6,c8,_⟩:=Ae I.S;rw[<-aP]at bF;rw[<-aW]at c8;subst bF c8;have fB:=I.C.nds aP.symm (by rw[aP,IQ];have:=Aa dF;omega) (Aa dG);have fC:=FT (by have q:=I.S;rw[<-aW]at q;exact q) aW.symm (by rw[aW,IR,Aa cF,zU,(Aa cg).lenD];omega) (Aa dH);have bd:=Ab (Aa f2 wc ad M b5 bo al b6 fB fC);have fD:=(Aa dz).below I.F (Aa dz).lt;have gM:=Ab fD;have bB:=Ab (And.intro aP aW);have hb:w.heap.size+1<l.heap.size:=(Aa dz).lt;obtain⟨bT,bU,bV⟩:=Ao I.Rr;clear aP aW fB fC fD I;go_wp2_with fail
    refine(Aa bd).mono ?_;rintro r aV ⟨⟨gN,hc,hd,fE,f1,rfl,E⟩,eu⟩;obtain⟨aM,ev⟩:∃aM,aM=b7.length:=⟨_,rfl⟩
    obtain⟨bf,bg,fF,_⟩:=Ae E;rw[<-ev]at fF;subst fF;have D:=AN aV (jC #[U V fE,U V f1] 89);have c9:=((Aa aB).below eu).below D;have da:=c9.Rr;have fG:=((Aa gM).after eu NLN).after D NLN;have fH:TyM l.heap.size gN (X ad M b5) (X bo al b6) (X bf aM bg) (DG 0 H) (Dv 0 H) b7 P K (aV.alloc (jC #[U V fE,U V f1] 89)):=⟨c9.C,c9.S,Ad E (fun q aA=>D.block q (E.lt q aA).2)⟩
    have fI:=(Aa d3).trans (c9.F.mono (Aa d3).size);have fJ:=Ab ev;obtain⟨fw,cd,fx⟩:=Ao da;have hf:=fun k=>da.frozen k;have fK:=da.set 2 (X bf aM bg);have fL:=fH.set da 2 (X bf aM bg);have db:=fG.setFar (p:=⟨l.heap.size,2,T⟩) (by show w.heap.size+1≠l.heap.size;omega) (X bf aM bg);have fM:=fI.setCell (p:=⟨l.heap.size,2,T⟩) (by show w.heap.size<=l.heap.size;omega) (X bf aM bg);obtain⟨hh,hi,hj⟩:=Ao fK;obtain⟨hk,ew,ex⟩:=Ao db;have hl:=fun k=>db.frozen k;have fN:=fL.set db 0 (X ad M b5);have ey:=db.set 0 (X ad M b5);have fO:=fN.set ey 1 (X bo al b6);have eA:=ey.set 1 (X bo al b6);have fP:=fO.set eA 2 (X bf aM bg);have fQ:=eA.set 2 (X bf aM bg);have fR:=((fM.setCell (p:=⟨w.heap.size+1,0,T⟩) (by show w.heap.size<=w.heap.size+1;omega) (X ad M b5)).setCell (p:=⟨w.heap.size+1,1,T⟩) (by show w.heap.size<=w.heap.size+1;omega) (X bo al b6)).setCell (p:=⟨w.heap.size+1,2,T⟩) (by show w.heap.size<=w.heap.size+1;omega) (X bf aM bg);have fS:=Ab fP;have gO:=Ab fQ;have gP:=Ab fR;clear fH fL fN fO fP ey eA fQ db fK da fG fI fM fR c9 D E ev eu bd bT bU bV;dsimp only;go_wp2_with fail
    obtain⟨gQ,gR,gS⟩:=Ao (Aa gO);have ew:(DG 0 H).length=M:=(Aa bB).1.symm;have ex:M<=1048576:=by rw[(Aa bB).1,IQ];have:=Aa dF;omega
    have fT:(Dv 0 H).length=al:=(Aa bB).2.symm;have fU:al<=1048576:=by rw[(Aa bB).2,IR,Aa cF,zU,(Aa cg).lenD];omega
    have fV:b7.length=aM:=(Aa fJ).symm;have fW:aM<=1048576:=by rw[Aa fJ];exact fX
    exact bodyPost_ret (v:= jE #[X ad M b5,X bo al b6,X bf aM bg]) (by simp[results,results27,go_sem,gQ,gR,gS]) rfl ⟨⟨ad,M,b5,bo,al,b6,bf,aM,bg,rfl,(Aa fS).gd ew ex (Aa dG) fT fU (Aa dH) fV fW,fun g fz R u0 u1 u2=>((((Aa fS).set R 0 u0).set (R.set 0 u0) 1 u1).set ((R.set 0 u0).set 1 u1) 2 u2).gd ew ex (Aa dG) fT fU (Aa dH) fV fW⟩,Aa gP⟩
end Go.Proofs.YtppafecmccdplaaGreat
