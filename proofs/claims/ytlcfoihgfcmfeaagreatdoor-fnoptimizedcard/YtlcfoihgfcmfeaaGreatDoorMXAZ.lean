import Derived.Test.YtlcfoihgfcmfeaaGreatDoorMXAV
import Derived.Test.YtlcfoihgfcmfeaaGreatDoorMXBC
import Derived.Test.YtlcfoihgfcmfeaaGreatDoorDVXC
import Derived.Test.YtlcfoihgfcmfeaaGreatDoorDVYC
open Option renaming none->V,none->jc,some->Z
open List renaming length->Y
open Array renaming size->R,size->jh
open Go renaming World->jD,Value->jF,Addr->jH
open Bool renaming true->jG,false->jI
open ByteArray renaming empty->jX
namespace Go.Proofs.YtlcfoihgfcmfeaaGreatDoor
open Proofs.Tryz
open Value renaming int->T,int->ja,slice->X,string->jA,agg->jL,ownBlock->jO,pointer->jQ,tuple->jS
open IntKind renaming i64->U
open World renaming heap->Q,cell?->jE,alloc->jK,setCell->jM,ownsRow->jP,drew->jV,frozen?->jY
open Addr renaming mk->jB,block->jW
open Obj renaming cells->jC
open Ending renaming returned->jN
open Proofs.Tryz renaming prog->jZ
open Go.RowKit
set_option linter.unusedVariables false
set_option maxRecDepth 100000
set_option maxHeartbeats 51200000
variable{i:Array jF}{x y z:Ex}{op:Int}{ns:M6}{ls:M8}{zs:M4}{N:M7}{S:Nz}{A:M9}{f c:N4}{p lo hi b b1 c1 c2 g1:Nat}{a:M3}{o:N5}{v k:jF}{w d:jD}
theorem AdF{n c:Nat}(h:GN w a n c N)(p:∀x∈N,By x=jG)(q:∀x∈N,x.num<=9223372036854775807)(r:∀(i:Nat)(x:Nd),N[i]?=Z x->∀k∈x.aC,0<=k/\k<(i:Int)):∃Es:M8,Y Es=Y N/\(∀j,(h:j<Y Es)->Be N j Es[j])/\∀e∈Es,e.dX w:=by
 have:∀k,k<=Y N->∃Es:M8,Y Es=k/\(∀j,(h:j<Y Es)->Be N j Es[j])/\∀e∈Es,e.dX w:=by intro k;induction k with|zero=>exact λ_=>⟨[],rfl,λj g=>K4 g Oz,λe he=>by cases he⟩|succ k s=>
   intro u;obtain⟨Es,l,m,hf⟩:=s Oa;have d:k<Y N:=Oa;have hx:N[k]?=Z N[k]:=zE d;obtain⟨b,v,_,_,an,nn,cn,y,z,A,_,_,_,_,_,hS,_⟩:=h.cells k d;obtain⟨e,_,ht,t⟩:=AkU (w:=w) hx (p _<|zI d) (r k _ hx) (q _<|zI d) l m hf hS;refine⟨Es++[e],by simp[l],λj g=>?_,λf hf'=>?_⟩
   .by_cases o:j<Y Es
    .rw[zg o];exact m j o
    have:j=Y Es:=by simp at g;omega
    subst this;simp only[List.getElem_concat_length];rw[l];exact ht
   obtain hf'|hf':=zJ.1 hf'
   .exact hf f hf'
   simp at hf';subst hf';exact t
 exact this (Y N) NLN
theorem Pa{x:Nd}(h:By x=jG):Y x.aE<=1048576:=by
 rw[By,zF]at h;have h:=h.2;repeat' split at h
 all_goals first|cases h;done|(simp only[zF,zO]at h;first|omega|(have:=(GV h.1.1).1;omega))
theorem okM{x:Nd}(h:By x=jG)(ht:x.text.size<=1048576):okN (Pb ns x)/\(Pb ns x).text.size<=1048576:=by
 have a:∀s∈x.aE,s.size<=maxLen:=λs hs=>by
  have h2:=h;rw[By,zF]at h2;have h2:=h2.2;repeat' split at h2
  all_goals first|cases h2;done|simp only[zF,zO]at h2;have e:=AfP h2.2;rw[e]at hs;cases hs;done|simp only[zF,zO]at h2;have:=(GV h2.1.1).2 s hs;unfold maxLen;omega
 have b:Y x.aC<=1048576:=by
  have h2:=h;rw[By,zF,zO]at h2;have h2:=h2.1;unfold Ci at h2;repeat' split at h2
  all_goals omega
 have ok:okN x:=⟨Pa h,b,a⟩;unfold Pb;split
 .split
  .exact⟨ok,zH _⟩
  exact⟨ok,zH _⟩
 exact⟨ok,ht⟩
def KpW(lo:Nat)(w W:jD):Prop:=∀q,lo<=q->q<R (Q w)->(Q W)[q]?=(Q w)[q]?
def OwT(lo:Nat)(W:jD)(x:M3)(n cx:Nat)(y:M3)(m cy:Nat)(z:M3)(p cz:Nat)(N:M7)(L:Nz)(T:M4):Prop:=(∃nv kv,BO W lo (X x n cx) N nv kv)/\Y N=n/\jP W lo 97 4 (X y m cy) m (Bg L)/\Y L=m/\jP W lo 3 1 (X z p cz) p (Ap T)/\Y T=p
def CmF(q:CkR)(lo:Nat)(e:Ending)(w':jD):Prop:=(∃f:Int×Int,q=.error f/\e=jN (jS #[jL #[X V 0 0,X V 0 0,X V 0 0],jL #[ja U f.1,ja U f.2]]))\/(∃N L T x n cx y m cy z p cz,q=.ok (N,L,T)/\e=jN (jS #[jL #[X x n cx,X y m cy,X z p cz],jL #[ja U 0,ja U 0]])/\(∀x∈N,(-9223372036854775808<=x.num/\x.num<=9223372036854775807)/\Y x.aE<=1048576)/\∀W,KpW lo w' W->((GN W x n cx N/\NmS W x N)/\Lr W y m cy L/\BN W z p cz T)/\OwT lo W x n cx y m cy z p cz N L T)
theorem Aaw{x:Nd}(h:By x=jG):0<=x.num:=by
 rw[QH,zF]at h;have:=h.2;unfold wfB at this;split at this
 .simp at this;omega
 split at this
 .simp at this;omega
 split at this
 .simp at this;omega
 split at this
 .simp at this;omega
 split at this
 .simp at this;omega
 split at this
 .cases this
 simp at this;omega
def CkN(lo mb tb:Nat)(vT:Array jF)(ns:M6)(x:Nd)(u:M3)(cu:Nat)(ku:M3)(ck:Nat)(wr wx:jD):Prop:=∃ (o7 n7:Int) (t7:M1),Pb ns x=⟨o7,n7,t7,x.aE,x.aC⟩/\Ah wx mb #[T U o7,T U n7,jA t7,X u (Y x.aE) cu,X ku (Y x.aC) ck] 112/\Ah wx tb vT 27/\jP wx lo 9 1 (X u (Y x.aE) cu) (Y x.aE) (x.aE.map Value.string)/\jP wx lo 3 1 (X ku (Y x.aC) ck) (Y x.aC) (Ap x.aC)/\Ak wr wx
theorem P6(a b:M3)(n c m d:Nat)(N:M7)(L:Nz)(w:jD)(h1:GN w a n c N)(h2:Lr w b m d L)(cL:∀x∈N,x.num<=9223372036854775807):Calls jZ 80 #[jL #[X a n c,X b m d]] w λar w'=>(∃q,ZD N L q/\CmF q (R<|Q w) ar w')/\Ak w w':=by have ad:=Ab h1.len;have bg:=Ab h2.len;have cM:=Ab cL;obtain⟨dB,dC,dD,dE,dF⟩:=info_parts Vz;have b7:=((Ah.new w #[X a n c,X b m d] 45).alloc<|Lu V 0 0 V 0 0 V 0 0).alloc<|jC #[T U 0,T U 0] 51;have bh:=(Ah.new (jK w<|jC #[X a n c,X b m d] 45) #[X V 0 0,X V 0 0,X V 0 0] 27).alloc<|jC #[T U 0,T U 0] 51;have bi:=Ah.new (jK (jK w<|jC #[X a n c,X b m d] 45)<|Lu V 0 0 V 0 0 V 0 0) #[T U 0,T U 0] 51;simp only[K6]at bh bi;have au:=((Ar w<|jC #[X a n c,X b m d] 45).alloc Oz<|Lu V 0 0 V 0 0 V 0 0).alloc Od<|jC #[T U 0,T U 0] 51;have bj:=h1.below au NLN;have bk:=h2.below au NLN;have b8:=Ab h1;have cN:=Ab h2;clear h1 h2 cL;have dG:∃cO,cO=jK (jK (jK w<|jC #[X a n c,X b m d] 45)<|Lu V 0 0 V 0 0 V 0 0) (jC #[T U 0,T U 0] 51):=⟨_,rfl⟩;go_enter func80,ntmps80;go_wp2_with fail;obtain⟨cO,cP⟩:=dG;rw[<-cP]at b7 bh bi au bj bk|-;clear cP;refine(Oe _ _ _ _ _ _ N L _ bj bk).mono ?_;rintro ar w2 ⟨rfl,ae⟩;have cQ:=bj.below ae NLN;have dH:=bk.below ae NLN;have b9:=b7.aB ae NLN;have av:=bh.aB ae NLN;have af:=bi.aB ae NLN;have aI:=au.trans<|ae.mono au.size;clear bj bk b7 bh bi au ae;dsimp only;cases aK:Gn N L with|false=>have P:=Ab aK;clear aK;obtain⟨S,W,aa,_⟩:=BC av;have ab:=λk=>av.frozen k;obtain⟨u0,u1⟩:=Ca af;have ca:=λk=>af.frozen k;go_wp2_with fail;have cb:=((((av.set 0<|X V 0 0).set 1<|X V 0 0).set 2<|X V 0 0).aJ (p:=⟨R (Q w)+1+1,0,V⟩) S1<|T U 10).aJ (p:=⟨R (Q w)+1+1,1,V⟩) S1<|T U 0;have cc:=((((af.aJ (p:=⟨R (Q w)+1,0,V⟩) Q1<|X V 0 0).aJ (p:=⟨R (Q w)+1,1,V⟩) Q1<|X V 0 0).aJ (p:=⟨R (Q w)+1,2,V⟩) Q1<|X V 0 0).set 0<|T U 10).set 1<|T U 0;have cd:=((((aI.setCell (p:=⟨R (Q w)+1,0,V⟩) (zQ _)<|X V 0 0).setCell (p:=⟨R (Q w)+1,1,V⟩) (zQ _)<|X V 0 0).setCell (p:=⟨R (Q w)+1,2,V⟩) (zQ _)<|X V 0 0).setCell (p:=⟨R (Q w)+1+1,0,V⟩) S3<|T U 10).setCell (p:=⟨R (Q w)+1+1,1,V⟩) S3<|T U 0;obtain⟨aL,e1,e2,_⟩:=BC cb;obtain⟨g0,g1⟩:=Ca cc;exact K8 (v:=jS #[jL #[X V 0 0,X V 0 0,X V 0 0],jL #[T U 10,T U 0]]) (by simp[results,results80,go_sem,aL,e1,e2,g0,g1]) rfl ⟨⟨_,.inl ⟨Aa P,rfl⟩,.inl ⟨(10,0),rfl,rfl⟩⟩,cd⟩|true=>
  have P:=Ab aK;have z:=Ab<|QB aK;clear aK;obtain⟨Es,aM,aN,_⟩:=AdF cQ (Aa z).bX (Aa cM) (Aa z).aC;have ce:=Ab (MH a b n c m d N L (λx hx=>fdB<|(Aa z).bX x hx) w2 cQ dH Es (by rw[aM,Aa ad]) aN (by rw[<-Aa ad];exact(Aa z).n) (by rw[<-Aa bg];exact(Aa z).m) (Ug (Aa P) aM aN)<|by rw[NY (Aa P) aM aN];exact(Aa z).n);have bl:=Ab aM;have bm:=Ab aN;obtain⟨dI,dJ⟩:=Ca b9;clear aM aN;go_wp2_with fail;refine(Aa ce).mono ?_;rintro ar g (⟨B,lb,ns,ts,tt,eu,lv,ev,aO,bn,rfl,ag,ew,J⟩|⟨f,aO,rfl,hf,J⟩)
  .have ah:=Ab aO;have cS:=Ab bn;clear aO bn ce;obtain⟨A,C,rfl,_⟩:=Af ag.types;obtain⟨cf,cn,rfl,dK⟩:=ag.nmsX;have cT:=b9.aB J NLN;have cg:=av.aB J NLN;have bo:=af.aB J NLN;have K:=aI.trans<|J.mono aI.size;have dM:R (Q w)+1+1<R (Q w2):=af.lt;have ex:=J.size;clear b9 av af dI dJ;have aQ:=(Ar g<|jC #[T U 0,T U 0] 51).alloc Oz<|Lu V 0 0 V 0 0 A (Y tt) C;have ai:=Ah.new (jK g<|jC #[T U 0,T U 0] 51) #[X V 0 0,X V 0 0,X A (Y tt) C] 27;simp only[K6]at ai;have ch:=(Aa cN).below (K.trans<|aQ.mono K.size) NLN;have ci:∃aw,aw=jK (jK g<|jC #[T U 0,T U 0] 51) (Lu V 0 0 V 0 0 A (Y tt) C):=⟨_,rfl⟩;have cU:jE (jK (jK g<|jC #[T U 0,T U 0] 51)<|Lu V 0 0 V 0 0 A (Y tt) C) ⟨R<|Q w,1,V⟩=Z (X b m d):=(cT.aB aQ NLN).cell 1;have ey:m<=600:=by rw[<-Aa bg];exact(Aa z).m
   dsimp only;go_wp2_with (at_builtin;refine Lx rfl _ _ rfl _ _ 0 [] rfl (World.ownsRow_nil _ (R (Q g)+1+1) _ _) b m d L rfl ch Oa Oz ?_);intro ez aR bp aS;obtain⟨aw,ax⟩:=ci;have eA:R (Q aw)=R (Q g)+1+1:=by rw[ax];simp
   rw[<-ax]at aQ ai ch aS cU;clear ax cU;obtain⟨t,cs,rfl,_⟩:=Af bp;have bq:=ai.below aS Oa;obtain⟨cV,s1,s2,_⟩:=BC bq;have dN:=λk=>bq.frozen k;have cW:Ak g aR:=aQ.trans<|aS.mono Oa;have eB:R (Q g)+1+1<=R (Q aR):=G7 aS.size;have cX:=bq.set 1<|X t m cs;have ac:=cW.setCell (p:=⟨R (Q g)+1,1,V⟩) (zQ _)<|X t m cs;have br:=Ag bp ⟨R (Q g)+1,1,V⟩ (X t m cs) (λq hq=>by have:=(bp.lt q hq).1;show q≠R (Q g)+1;omega);have dO:jE (jM aR ⟨R (Q g)+1,1,V⟩<|X t m cs) ⟨R<|Q w,0,V⟩=Z (X a n c):=(cT.aB ac NLN).cell 0;have dP:∃s,s=jM aR ⟨R (Q g)+1,1,V⟩ (X t m cs):=⟨_,rfl⟩;go_wp2_with fail;obtain⟨s,cj⟩:=dP;have dQ:R (Q s)=R (Q aR):=by rw[cj];simp
   rw[<-cj]at cX ac br|-;clear cj dO cV s1 s2 dN bq bp aS cW ai aQ ch;have eC:n<=4000:=by rw[<-Aa ad];exact(Aa z).n
   have eD:=Ab<|(Aa b8).below (K.trans<|ac.mono K.size) NLN;have dR:Ak w s:=K.trans<|ac.mono K.size;have dS:=BO.nil s<|R<|Q s;have eE:R (Q w)+1+1<R (Q g):=Oa;go_loopw[41] (λi wr=>∃ (k:Nat) (bs:jF) (nw aT:N4),k<=n/\i=T U k/\Ah wr (R (Q g)+1) #[bs,X t m cs,X A (Y tt) C] 27/\Hid (BO wr (R<|Q s) bs ((N.take k).map<|Pb ns) nw aT)/\Below (R (Q g)+1) s wr/\Hid (∀q,q<R (Q s)->q≠R (Q g)+1->(Q wr)[q]?=(Q s)[q]?)) (λi _=>n-(intOf i).toNat);case atStart=>exact⟨0,X V 0 0,[],[],Oa,rfl,cX,Ab dS,BRN,Ab λ_ _ _=>rfl⟩
   obtain⟨k,bs,nw,aT,bt,rfl,bu,ay,aU,bv⟩:=hrel;have cY:Ak w wr:=dR.trans<|aU.mono Oa;have eF:=aU.size;by_cases ck:k<n
   .have eG:(k:Int)<(n:Int):=Oa;have bw:k<Y N:=by rw[Aa ad];exact ck
    obtain⟨eH,eI,dT,eJ,an,nn,bx,bz,bA,bB,c0,c1,c2,c3,c4,bC,cl⟩:=((Aa b8).below cY NLN).cells k bw;have cm:=Ab<|(Aa z).bX _<|zI bw;have cZ:=Ab (show(N.take<|k+1).map (Pb ns)=(N.take k).map (Pb ns)++[Pb ns N[k]]by rw[zY bw,zN];rfl);have bD:=Ab (show Y ((N.take k).map<|Pb ns)=k by rw[zZ,zv];omega);have bF:=Ab (show jP wr (R<|Q s) 112 5 bs k (Fy ((N.take k).map<|Pb ns) nw aT)by have:=(Aa ay).bG;rwa[Aa bD]at this);obtain⟨F,G,rfl,_⟩:=Af<|Aa bF;have c6:=Ab ck;generalize N[k]=x at c0 c1 c2 bC cl cm cZ;have dU:nn<=1048576:=by rw[bC.len];exact Pa<|Aa cm
    have aV:=Ar wr<|CW x.op x.num x.text an nn bx bz bA bB;have c8:=Ab<|Aav x an nn bx bz bA bB _ (bC.below aV NLN) (cl.below aV NLN) dU;have co:=Ah.new wr #[T U x.op,T U x.num,jA x.text,X an nn bx,X bz bA bB] 112;have dV:∃az,az=jK wr (CW x.op x.num x.text an nn bx bz bA bB):=⟨_,rfl⟩;clear ck bw bC cl;rw[dT];go_wp2_with fail;refine(Aa c8).mono ?_;rintro ar h ⟨⟨u,l,o,r,rfl,bI,bK⟩,bM⟩;obtain⟨az,c9⟩:=dV;rw[<-c9]at aV co bI bK bM;clear c9 c8 c0 c1 c2 c3 c4;have da:=co.aB bM NLN;have aA:=aV.trans<|bM.mono aV.size;have dW:=da.alloc<|CW x.op x.num x.text u (Y x.aE) l o (Y x.aC) r;have aj:=Ah.new h #[T U x.op,T U x.num,jA x.text,X u (Y x.aE) l,X o (Y x.aC) r] 112;have M:=(bu.aB aA NLN).alloc<|CW x.op x.num x.text u (Y x.aE) l o (Y x.aC) r;have E:=aA.alloc aA.size<|CW x.op x.num x.text u (Y x.aE) l o (Y x.aC) r;have bN:=Ai bI (Ar h<|CW x.op x.num x.text u (Y x.aE) l o (Y x.aC) r) NLN;have bO:=Ai bK (Ar h<|CW x.op x.num x.text u (Y x.aE) l o (Y x.aC) r) NLN;obtain⟨cp,cq,cr,ct,cu⟩:=FG dW;obtain⟨m0,aW,aX,aY,aZ⟩:=FG aj;have bP:=λk=>aj.frozen k;obtain⟨S,W,aa,_⟩:=BC M;have ab:=λk=>M.frozen k;dsimp only;have eK:R (Q wr)<R (Q az)/\R (Q az)<=R (Q h):=⟨co.lt,bM.size⟩;go_upto_if 49 with fail;go_cut[] (λdX=>Hid<|CkN (R<|Q az) (R<|Q h) (R (Q g)+1) #[X F k G,X t m cs,X A (Y tt) C] ns x u l o r wr dX);case first=>
     by_cases h5:x.op=5
     .have e5:(x.op==5)=jG:=zD.2 h5;have dY:=Ab h5;have db:R (Q wr)≠R (Q h):=Oa;have bQ:R (Q g)+1≠R (Q h):=Oa;have bS:R (Q wr)<=R (Q h):=Oa;have cv:=Ah.new h #[T U 6,T U x.num,jA ⟨#[]⟩,X u (Y x.aE) l,X o (Y x.aC) r] 112;have bT:=da.alloc<|jC #[T U 6,T U x.num,jA ⟨#[]⟩,X u (Y x.aE) l,X o (Y x.aC) r] 112;have aD:=(bu.aB aA NLN).alloc<|jC #[T U 6,T U x.num,jA ⟨#[]⟩,X u (Y x.aE) l,X o (Y x.aC) r] 112;have bU:=aA.alloc aA.size<|jC #[T U 6,T U x.num,jA ⟨#[]⟩,X u (Y x.aE) l,X o (Y x.aC) r] 112;have bV:∀q,jO (Value.slice u (Y x.aE) l)=Z q->q≠R (Q h):=λq hq=>G7<|(bI.lt q hq).2;have bW:∀q,jO (Value.slice o (Y x.aC) r)=Z q->q≠R (Q h):=λq hq=>G7<|(bK.lt q hq).2;have ak:=Ai bI (Ar h<|jC #[T U 6,T U x.num,jA ⟨#[]⟩,X u (Y x.aE) l,X o (Y x.aC) r] 112) NLN;have al:=Ai bK (Ar h<|jC #[T U 6,T U x.num,jA ⟨#[]⟩,X u (Y x.aE) l,X o (Y x.aC) r] 112) NLN;obtain⟨cw,cx,i2,cy,cz⟩:=FG bT;have dZ:∃dc,dc=jK h (jC #[T U 6,T U x.num,jA ⟨#[]⟩,X u (Y x.aE) l,X o (Y x.aC) r] 112):=⟨_,rfl⟩;clear h5;go_wp2_with fail;obtain⟨dc,dd⟩:=dZ;rw[<-dd]at cv bT aD bU ak al|-;clear dd m0 aW aX aY aZ bP S W aa ab cp cq cr ct cu cw cx i2 cy cz;refine(Gl x.text _).mono ?_;rintro ar d0 ⟨rfl,ao⟩;have bY:=cv.aB ao NLN;have de:=bT.aB ao NLN;have bZ:=aD.aB ao NLN;have df:=bU.trans (ao.mono bU.size);have dg:=Ai ak ao NLN;have dh:=Ai al ao NLN;clear cv bT aD bU ak al ao;obtain⟨m0,aW,aX,aY,aZ⟩:=FG bY;have bP:=λk=>bY.frozen k;obtain⟨S,W,aa,_⟩:=BC bZ;have ab:=λk=>bZ.frozen k;obtain⟨cp,cq,cr,ct,cu⟩:=FG de;dsimp only;have di:=Ab (show Pb ns x=if AH x.text AE 0<0 then ⟨7,AH x.text ns 0,⟨#[]⟩,x.aE,x.aC⟩else ⟨6,AH x.text AE 0,⟨#[]⟩,x.aE,x.aC⟩by rw[Pb,K1<|Aa dY]);by_cases b0:AH x.text AE 0<0
      .have a0:=Ab<|(Aa di).trans<|K1 b0;generalize AH x.text AE 0=D at b0;have a6:=(bY.set 1<|T U D).set 0<|T U 7;have cA:=(de.aJ (p:=⟨R<|Q h,1,V⟩) db<|T U D).aJ (p:=⟨R<|Q h,0,V⟩) db<|T U 7;have a7:=(bZ.aJ (p:=⟨R<|Q h,1,V⟩) bQ<|T U D).aJ (p:=⟨R<|Q h,0,V⟩) bQ<|T U 7;have O:=(df.setCell (p:=⟨R<|Q h,1,V⟩) bS<|T U D).setCell (p:=⟨R<|Q h,0,V⟩) bS<|T U 7;have a8:=Ag (Ag dg ⟨R<|Q h,1,V⟩ (T U D) bV) ⟨R<|Q h,0,V⟩ (T U 7) bV;have a9:=Ag (Ag dh ⟨R<|Q h,1,V⟩ (T U D) bW) ⟨R<|Q h,0,V⟩ (T U 7) bW;obtain⟨cw,cx,i2,cy,cz⟩:=FG cA;have d1:∃ba,ba=jM (jM d0 ⟨R<|Q h,1,V⟩<|T U D) ⟨R<|Q h,0,V⟩ (T U 7):=⟨_,rfl⟩;go_wp2_with fail;obtain⟨ba,dj⟩:=d1;rw[<-dj]at a6 cA a7 O a8 a9|-;clear dj m0 aW aX aY aZ bP S W aa ab cp cq cr ct cu cw cx i2 cy cz;have cB:∀q,q<R (Q g)->(Q ba)[q]?=(Q g)[q]?:=λq hq=>((O.block q Oa).trans<|Aa bv q Oa Oa).trans<|ac.block q hq;have d2:lb<R (Q g):=ag.row.lt;have dk:jE ba (jB lb 0 V)=Z (X cf (Y ns) cn):=(L0 (w:=g)<|cB lb d2).trans<|ag.row.cell 0;have nms:Nms ba cf ns:=λj ap=>by obtain⟨dl,d3,h1,h2,h3⟩:=dK j ap;exact⟨dl,d3,h1,G7 O.size,(L0 (w:=g)<|cB dl h2).trans h3⟩
       have d4:Y ns<=1048576:=by have h9:=(JV<|Aa ah).2.1;have h8:=Aa cS;have h7:=(Aa z).m;simp at h9;omega
       refine(MF lb cf (Y ns) cn ns x.text _ dk (G7 O.size) rfl d4 nms).mono ?_;rintro ar eL ⟨rfl,aF⟩;have cC:=a6.aB aF NLN;have d5:=a7.aB aF NLN;have d6:=O.trans<|aF.mono O.size;have d7:=Ai a8 aF NLN;have d8:=Ai a9 aF NLN;clear a6 cA a7 O a8 a9 aF cB dk nms;have aq:=a0;generalize AH x.text ns 0=aG at aq a0|-;obtain⟨m0,aW,aX,aY,aZ⟩:=FG cC;have bP:=λk=>cC.frozen k;have d9:=cC.set 1<|T U aG;have ea:=d5.aJ (p:=⟨R<|Q h,1,V⟩) bQ<|T U aG;have eb:=d6.setCell (p:=⟨R<|Q h,1,V⟩) bS<|T U aG;have ec:=Ag d7 ⟨R<|Q h,1,V⟩ (T U aG) bV;have ed:=Ag d8 ⟨R<|Q h,1,V⟩ (T U aG) bW;go_wp2;go_meet;exact Ab ⟨7,aG,⟨#[]⟩,Aa aq,d9,ea,ec,ed,eb⟩
      have a0:=Ab<|(Aa di).trans<|K0 b0;have aq:=a0;generalize AH x.text AE 0=D at b0 aq a0;have a6:=bY.set 1<|T U D;have a7:=bZ.aJ (p:=⟨R<|Q h,1,V⟩) bQ<|T U D;have O:=df.setCell (p:=⟨R<|Q h,1,V⟩) bS<|T U D;have a8:=Ag dg ⟨R<|Q h,1,V⟩ (T U D) bV;have a9:=Ag dh ⟨R<|Q h,1,V⟩ (T U D) bW;go_wp2;go_meet;exact Ab ⟨6,D,⟨#[]⟩,Aa aq,a6,a7,a8,a9,O⟩
     have e5:(x.op==5)=jI:=zA.2 h5;have ee:=Ab<|show CkN (R<|Q az) (R<|Q h) (R (Q g)+1) #[X F k G,X t m cs,X A (Y tt) C] ns x u l o r wr _ from⟨x.op,x.num,x.text,by rw[Pb,K0 h5],aj,M,bN,bO,E⟩;clear h5;go_wp2;go_meet;exact ee
    obtain⟨bb,bc,bd,dm,aj,M,bN,bO,E⟩:=Aa hcut;have aq:=Ab dm;clear dm hcut cm;generalize wc=aH at aj M bN bO E|-;obtain⟨m0,aW,aX,aY,aZ⟩:=FG aj;obtain⟨S,W,aa,_⟩:=BC M;have ab:=λk=>M.frozen k;have eM:R (Q h)<R (Q aH):=aj.lt;have dn:=Ai (Aa bF) E NLN;go_wp2_with (at_builtin;refine J6 _ rfl _ _ 23 rfl (R<|Q s) 112 dB (jL #[T U 0,T U 0,jA jX,X V 0 0,X V 0 0]) 5 80 underlying23 dC dD dE dF rfl Ob _ _ _ rfl (K7 dn _) ⟨R<|Q aH,0,V⟩ 1 1 [T U bb,T U bc,jA bd,X u (Y x.aE) l,X o (Y x.aC) r] rfl rfl ?c1 ?c2 Ob ?c3 ?c4 ?c5 (R (Q aH)+1) Oz ?_);case c1=>exact IE _ _ _ _ _ _ _ _ Oz
    case c2=>intro v dp;simp at dp;obtain rfl|rfl|rfl|rfl|rfl:=dp<;>rfl
    case c3=>unfold maxLen;omega
    case c4=>omega
    case c5=>simp;omega
    intro g7 c7 b1 dq bf hat eN;have b2:Ak aH<|jK aH<|CW bb bc bd u (Y x.aE) l o (Y x.aC) r:=BRN.alloc NLN _;have aD:=(M.alloc<|CW bb bc bd u (Y x.aE) l o (Y x.aC) r).grown bf λe=>Ad M dn Ob e.symm;obtain⟨cV,s1,s2,_⟩:=BC aD;have dr:=((Aa ay).bJ (w':=jK aH<|CW bb bc bd u (Y x.aE) l o (Y x.aC) r) λq h1 h2=>(b2.block q<|zG h2 E.size).trans<|E.block q h2);have cD:=(Aa ay).cF;have ak:=Ai bN b2 NLN;have al:=Ai bO b2 NLN;have ds:=dr.cE (x:=⟨bb,bc,bd,x.aE,x.aC⟩) (u:=X u (Y x.aE) l) (k:=X o (Y x.aC) r) (AF ak Oa) (AF al Oa) (λj ap q hq e=>by have h1:=(cD.2.1 j ap q hq).2;have h2:=(ak.lt q e).1;omega) (λj ap q hq e=>by have h1:=(cD.2.2 j ap q hq).2;have h2:=(al.lt q e).1;omega) (v':=X (Z<|jB g7 0 V) (k+1) c7) (w2:=b1) (by rw[Aa bD];have h7:=dq;rw[<-dQ,<-List.map_take]at h7;exact h7) bf;have ef:=aD.set 0<|X (Z<|jB g7 0 V) (k+1) c7;have dt:∀q,q<R (Q s)->q≠R (Q g)+1->(Q<|jM b1 ⟨R (Q g)+1,0,V⟩<|X (Z<|jB g7 0 V) (k+1) c7)[q]?=(Q s)[q]?:=λq h1 h2=>by rw[L2 _ _ q _ h2,bf.block q (by have:=E.size;simp;omega) λe=>G7<|((Aa bF).lt q e.symm).1,b2.block q<|G7 E.size,E.block q Oa];exact Aa bv q h1 h2
    have cG:Below (R (Q g)+1) s<|jM b1 ⟨R (Q g)+1,0,V⟩<|X (Z<|jB g7 0 V) (k+1) c7:=(((aU.trans<|E.mono Oa).alloc (G7 E.size) _).grown bf (by have:=E.size;simp;omega) λq hq=>G7<|((Aa bF).lt q hq).1).setCell (p:=⟨R (Q g)+1,0,V⟩) NLN _;have eg:=Ab (show BO (jM b1 ⟨R (Q g)+1,0,V⟩<|X (Z<|jB g7 0 V) (k+1) c7) (R<|Q s) (X (Z<|jB g7 0 V) (k+1) c7) ((N.take<|k+1).map<|Pb ns) (nw++[X u (Y x.aE) l]) (aT++[X o (Y x.aC) r])by rw[Aa cZ,Aa aq];exact ds.bJ λq h1 h2=>L2 _ _ q _ (Oa:q≠R (Q g)+1));have eh:=Ab dt;clear ds dr cD ak al dt bf hat dq;go_wp2;go_roundw;case rel=>exact⟨k+1,_,_,_,Aa c6,O0,ef,eg,cG,eh⟩
    have:=Aa c6;simp[intOf];omega
   have e:k=n:=Oa;subst e;obtain⟨F,G,rfl,_⟩:=Af (Aa ay).bG;have bD:=Ab (show Y ((N.take k).map<|Pb ns)=k by rw[zZ,zv];have:=Aa ad;omega);have ei:=Ab (show N.take k=N by rw[<-Aa ad,zq]);have cH:=(cg.aB ac NLN).below aU Oa;have cI:=(bo.aB ac NLN).below aU Oa;obtain⟨ej,eO,r2,_⟩:=BC bu;obtain⟨S,W,aa,_⟩:=BC cH;have ab:=λj=>cH.frozen j;obtain⟨u0,u1⟩:=Ca cI;have ca:=λj=>cI.frozen j;have eP:R (Q w)+1≠R (Q g)+1:=Oa;have n2:R (Q w)+1+1≠R (Q g)+1:=Oa;have n3:R (Q g)+1≠R (Q w)+1:=Oa;have eQ:R (Q g)+1≠R (Q w)+1+1:=Oa;have du:Y ((N.take k).map<|Pb ns)=k:=Aa bD;rw[du]at ay ej bu;clear du;have ek:=((((cH.set 0<|X F k G).set 1<|X t m cs).set 2<|X A (Y tt) C).aJ (p:=⟨R (Q w)+1+1,0,V⟩) S1<|T U 0).aJ (p:=⟨R (Q w)+1+1,1,V⟩) S1<|T U 0;have el:=((((cI.aJ (p:=⟨R (Q w)+1,0,V⟩) Q1<|X F k G).aJ (p:=⟨R (Q w)+1,1,V⟩) Q1<|X t m cs).aJ (p:=⟨R (Q w)+1,2,V⟩) Q1<|X A (Y tt) C).set 0<|T U 0).set 1<|T U 0;have cG:=((((cY.setCell (p:=⟨R (Q w)+1,0,V⟩) (zQ _)<|X F k G).setCell (p:=⟨R (Q w)+1,1,V⟩) (zQ _)<|X t m cs).setCell (p:=⟨R (Q w)+1,2,V⟩) (zQ _)<|X A (Y tt) C).setCell (p:=⟨R (Q w)+1+1,0,V⟩) S3<|T U 0).setCell (p:=⟨R (Q w)+1+1,1,V⟩) S3<|T U 0;have dv:∀q,R (Q w2)<=q->(Q<|jM (jM (jM (jM (jM wr ⟨R (Q w)+1,0,V⟩<|X F k G) ⟨R (Q w)+1,1,V⟩<|X t m cs) ⟨R (Q w)+1,2,V⟩<|X A (Y tt) C) ⟨R (Q w)+1+1,0,V⟩<|T U 0) ⟨R (Q w)+1+1,1,V⟩<|T U 0)[q]?=(Q wr)[q]?:=λq h1=>by have a1:q≠R (Q w)+1:=Oa;have a2:q≠R (Q w)+1+1:=Oa;rw[L2 _ _ q _ a2,L2 _ _ q _ a2,L2 _ _ q _ a1,L2 _ _ q _ a1,L2 _ _ q _ a1]
   have bn:=Aa cS;have dw:=Ab (show ∀y∈N.map (Pb ns),okN y/\y.text.size<=1048576 from λy hy=>by obtain⟨x,hx,rfl⟩:=zU.1 hy;exact okM ((Aa z).bX x hx)<|(Aa b8).bE x hx);have em:=Ab (show ∀y∈N.map (Pb ns),(-9223372036854775808<=y.num/\y.num<=9223372036854775807)/\Y y.aE<=1048576 from λy hy=>by
    refine⟨?_,(Aa dw y hy).1.1⟩;obtain⟨x,hx,rfl⟩:=zU.1 hy;have a1:=Aaw<|(Aa z).bX x hx;have a2:=Aa cM x hx;have a3:=(JV<|Aa ah).2.1;have a4:=(Aa z).m;have a5:=Qw x.text ns 0<|zr _;have eR:=Qw x.text AE 0<|zr _;have eS:Y (AE:M6)=6:=rfl;simp only[List.length_nil]at a3;unfold Pb;split
    .split<;>dsimp only<;>omega
    omega);have b3:jP wr (R (Q g)+1+1) 97 4 (X t m cs) m<|Bg L:=Ac br λq hq=>Aa bv q (br.lt q hq).2<|G7<|(br.lt q hq).1;have cJ:=Ai ag.types ac NLN;have b4:jP wr B 3 1 (X A (Y tt) C) (Y tt)<|Ap tt:=Ac cJ λq hq=>Aa bv q (cJ.lt q hq).2<|G7<|(ag.types.lt q hq).2;have eT:R (Q w2)<=B:=G7 ag.aP;have en:Y tt<=1048576:=by have h9:=(JV<|Aa ah).1;rw[NY (Aa P) (Aa bl)<|Aa bm]at h9;have h8:=(Aa z).n;simp at h9;omega
   have eo:=Ab (show ∀H:jD,KpW (R<|Q w2) wr H->((GN H F k G (N.map<|Pb ns)/\NmS H F (N.map<|Pb ns))/\Lr H t m cs L/\BN H A (Y tt) C tt)/\OwT (R<|Q w) H F k G t m cs A (Y tt) C (N.map<|Pb ns) L tt from λH bt=>by
    have I:=(Aa ay).bJ (w':=H) λq h1 h2=>bt q Oa h2;rw[Aa ei]at I;have dx:=Ac b3 λq hq=>bt q (G7<|(b3.lt q hq).1) (b3.lt q hq).2;have dy:=Ac b4 λq hq=>bt q (G7<|(b4.lt q hq).1) (b4.lt q hq).2;have cK:Y (N.map<|Pb ns)=k:=by rw[zZ];exact Aa ad
    have h6:R (Q w)<=R (Q s):=Oa;exact⟨⟨⟨I.bR cK Oa<|Aa dw,I.nms cK⟩,CZ dx (Aa bg) Oa (Aa cN).bE,Bh dy rfl en⟩,⟨nw,aT,I.len,I.bL,AF I.bG h6,λj a b=>AF (I.aE j a b) h6,λj a b=>AF (I.aC j a b) h6,I.bH,I.dL⟩,cK,AF dx Oa,Aa bg,AF dy Oa,rfl⟩);have ep:=Ab dv;have dz:=Ab (show N.map (Pb ns)=N.map (rvX<|CM ns ts)from List.map_congr_left λx hx=>AkV bn ((Aa z).bX x hx) λh5=>by obtain⟨j,ap,eq⟩:=zk hx;exact Aax (Aa P) (Aa bl) (Aa bm) (Aa ah) (j:=j) (by rw[zE ap,eq]) h5);clear dv b3 b4 cJ;go_wp2_with fail;obtain⟨aL,e1,e2,_⟩:=BC ek;obtain⟨g0,g1⟩:=Ca el;exact K8 (v:=jS #[jL #[X F k G,X t m cs,X A (Y tt) C],jL #[T U 0,T U 0]]) (by simp[results,results80,go_sem,aL,e1,e2,g0,g1]) rfl ⟨⟨.ok (N.map<|rvX<|CM ns ts,L,tt),.inr ⟨Aa P,Es,Aa bl,Aa bm,by rw[Aa ah]⟩,.inr ⟨_,_,_,_,_,_,_,_,_,_,_,_,rfl,rfl,by rw[<-Aa dz];exact Aa em,λH er=>by rw[<-Aa dz];exact Aa eo H λq h1 h2=>(er q Oa Hv).trans<|Aa ep q h1⟩⟩,cG⟩
  have ah:=Ab aO;clear aO ce;have cg:=av.aB J NLN;have bo:=af.aB J NLN;have K:=aI.trans<|J.mono aI.size;have b5:=cg.alloc<|jC #[T U f.1,T U f.2] 51;have b6:=bo.alloc<|jC #[T U f.1,T U f.2] 51;have ai:=Ah.new g #[T U f.1,T U f.2] 51;have dA:=K.alloc K.size<|jC #[T U f.1,T U f.2] 51;have eU:(f.1!=0)=jG:=zW.2 hf;have dM:R (Q w)+1+1<R (Q g):=bo.lt;have ci:∃aw,aw=jK g (jC #[T U f.1,T U f.2] 51):=⟨_,rfl⟩;obtain⟨es,et⟩:=Ca ai;obtain⟨S,W,aa,_⟩:=BC b5;have ab:=λk=>b5.frozen k;obtain⟨u0,u1⟩:=Ca b6;have ca:=λk=>b6.frozen k;dsimp only;obtain⟨aw,ax⟩:=ci;go_wp2_with fail;rw[<-ax]at b5 b6 ai dA es et S W aa ab u0 u1 ca|-;clear ax;go_region;all_goals have cb:=((((b5.set 0<|X V 0 0).set 1<|X V 0 0).set 2<|X V 0 0).aJ (p:=⟨R (Q w)+1+1,0,V⟩) S1<|T U f.1).aJ (p:=⟨R (Q w)+1+1,1,V⟩) S1<|T U f.2;have cc:=((((b6.aJ (p:=⟨R (Q w)+1,0,V⟩) Q1<|X V 0 0).aJ (p:=⟨R (Q w)+1,1,V⟩) Q1<|X V 0 0).aJ (p:=⟨R (Q w)+1,2,V⟩) Q1<|X V 0 0).set 0<|T U f.1).set 1<|T U f.2;have cd:=(((((dA.setCell (p:=⟨R (Q w)+1,0,V⟩) (zQ _)<|X V 0 0).setCell (p:=⟨R (Q w)+1,1,V⟩) (zQ _)<|X V 0 0).setCell (p:=⟨R (Q w)+1,2,V⟩) (zQ _)<|X V 0 0).setCell (p:=⟨R (Q w)+1+1,0,V⟩) S3<|T U f.1).setCell (p:=⟨R (Q w)+1+1,1,V⟩) S3<|T U f.2).drew;go_wp2_with fail;obtain⟨aL,e1,e2,_⟩:=BC cb;obtain⟨g0,g1⟩:=Ca cc;exact K8 (v:=jS #[jL #[X V 0 0,X V 0 0,X V 0 0],jL #[T U f.1,T U f.2]]) (by simp[results,results80,go_sem,aL,e1,e2,g0,g1]) rfl ⟨⟨.error f,.inr ⟨Aa P,Es,Aa bl,Aa bm,by rw[Aa ah]⟩,.inl ⟨f,rfl,rfl⟩⟩,cd⟩
theorem Gt{c:jD}{R:Nat}{g:N4}{h:Array jF}(a:Lj w lo hi v N f g)(i:Ah w R h 78)(T:AJ R (R+1) w c):BO c lo v N f g:=by have d:∀{e:TypeId}{size n:Nat}{u:jF}{k:N4},jP w lo e size u n k->78≠e->∀q,jO u=Z q->(Q c)[q]?=(Q w)[q]?:=λo l q hq=>T.block q (o.lt q hq).2 (by have:q≠R:=λe=>Ad i o l Q2;omega);exact a.cJ (λq hq=>d a.bG Ob q hq) (λj b q hq=>d (a.aE j (by rw[<-a.len];exact b) b) Ob q hq) λj b q hq=>d (a.aC j (by rw[<-a.bL];exact b) b) Ob q hq
theorem KO{c V:jD}{R:Nat}{g:N4}(b:Lj w lo hi v N f g)(h:Ah w R i 78)(T:AJ R (R+1) w c)(d:∀q,lo<=q->(q<hi\/jh (Q w)<=q)->q<jh (Q c)->(Q V)[q]?=(Q c)[q]?):BO V lo v N f g:=have k:=(Gt b h T).cF
 (Gt b h T).cJ (λq hq=>d q (k.1 q hq).1 (.inl<|b.h0 q hq) (k.1 q hq).2) (λj a q hq=>d q (k.2.1 j a q hq).1 (.inl<|b.h1 j a q hq) (k.2.1 j a q hq).2) (λj a q hq=>d q (k.2.2 j a q hq).1 (.inl<|b.h2 j a q hq) (k.2.2 j a q hq).2)
theorem Agr{a:jD}{R:Nat}{d f:N4}{g:M3}(c:Lj w lo hi v N d f)(ok:∀x∈N,Wv x)(p:Y N<=100000)(k:Ah w R i 78)(T:AJ R (R+1) w a)(l:jP a b 112 5 (X g (Y N) b1) (Y N)<|Fy N d f)(m:lo<=jh (Q w))(n:jh (Q w)<=b):Nd1 lo hi (jh<|Q w) a g (Y N) b1 N:=VL l m n rfl c.len c.bL Oa (λx hx=>zB (ok x hx).2.1 Ob) (λV o j h h1 h2=>(KO c k T o).vw (λx hx=>(ok x hx).1) j h h1 h2)
def stW(w5:jD)(g j:Nat)(s:St):jD:=jM (jM (jM (jM w5 ⟨g,j*4,V⟩<|T U s.aF) ⟨g,j*4+1,V⟩<|jA s.name) ⟨g,j*4+2,V⟩<|T U s.cond) ⟨g,j*4+3,V⟩ (T U s.aD)
theorem Agp{a:jD}{R:Nat}{d f:N4}{n:Array jF}{c:M3}(o:Lj w lo hi v N d f)(ok:∀x∈N,Wv x)(r:Y N<=100000)(D:Y S<=701)(t:∀s∈S,s.name.size<=1048576)(u:Ah w R n 78)(T:AJ R (R+1) w a)(i:jP a b 112 5 (X c (Y N) c1) (Y N)<|Fy N d f)(g:jP a b1 97 4 (X (Z<|jB g1 0 V) (Y S) c2) (Y S)<|Bg S)(y:jh (Q w)<=b1)(k:lo<=jh (Q w))(z:jh (Q w)<=b)(j:Nat)(A:j<Y S)(s:St)(hs:s.name.size<=1048576):Nd1 lo hi (jh<|Q w) (stW a g1 j s) c (Y N) c1 N/\St1 lo hi (jh<|Q w) (stW a g1 j s) (Z<|jB g1 0 V) (Y<|S.set j s) c2 (S.set j s)/\AJ R (R+1) w (stW a g1 j s):=by have hg:jh (Q w)<=g1:=G7<|(g.lt g1 rfl).1;have hB:Below (jh<|Q w) a<|stW a g1 j s:=((((Below.refl (jh<|Q w) a).setCell (p:=⟨g1,j*4,V⟩) hg _).setCell (p:=⟨g1,j*4+1,V⟩) hg _).setCell (p:=⟨g1,j*4+2,V⟩) hg _).setCell (p:=⟨g1,j*4+3,V⟩) hg _;have l:=T.aI hB NLN;have B:∀q,jO (Value.slice c (Y N) c1)=Z q->q≠g1:=λq hq e=>Ao i g Ob q hq G1;have C:(stW a g1 j s).ownsRow b 112 5 (X c (Y N) c1) (Y N)<|Fy N d f:=Ac i (λq hq=>by have:=B q hq;unfold stW;rw[L2 _ _ q _ this,L2 _ _ q _ this,L2 _ _ q _ this,L2 _ _ q _ this]);have m:=Bj (Bj (Bj (Bj g (j*4)<|ja U s.aF) (j*4+1)<|jA s.name) (j*4+2)<|ja U s.cond) (j*4+3)<|ja U s.aD;rw[<-Ux S j A s]at m;refine⟨Agr o ok r u l C k z,?_,l⟩;rw[zj];exact VM m k y Hs Oa (λx hx=>by
  obtain h|h:=List.mem_or_eq_of_mem_set hx
  .exact t x h
  rw[h];exact hs)
theorem Alb{a b:Nat}{y i:Int}{j:Nat}(c:nx zs p=(y,a))(d:nx zs a=(i,b))(h:y%3=0/\0<Y S)(f:j=(i%(Y S:Int)).toNat)(g:j<Y S)(h6:¬ y/3%7=6):(N,S.set j<|LG y S[j])=I9 zs p N S:=by unfold I9;rw[c];dsimp only;rw[d];dsimp only;rw[K1 h,K0 h6,<-f,zf,zE g];rfl
theorem Aja{a b:Nat}{y i:Int}{j:Nat}(c:nx zs p=(y,a))(d:nx zs a=(i,b))(h:y%3=0/\0<Y S)(f:j=(i%(Y S:Int)).toNat)(g:j<Y S)(h6:y/3%7=6):(N,S++[S[j]])=I9 zs p N S:=by unfold I9;rw[c];dsimp only;rw[d];dsimp only;rw[K1 h,K1 h6,<-f,zf,zE g];rfl
def Wx(w5:jD)(g j:Nat)(y:Nd)(u k:jF):jD:=jM (jM (jM (jM (jM w5 ⟨g,j*5,V⟩<|T U y.op) ⟨g,j*5+1,V⟩<|T U y.num) ⟨g,j*5+2,V⟩<|jA y.text) ⟨g,j*5+3,V⟩ u) ⟨g,j*5+4,V⟩ k
theorem Ra{a:jD}{R:Nat}{d f:N4}{A:Array jF}{x2:M3}(c:Lj w lo hi v N d f)(ok:∀x∈N,Wv x)(H:Y N<=100000)(I:Y S<=700)(B:∀s∈S,s.name.size<=1048576)(n:Ah w R A 78)(T:AJ R (R+1) w a)(g:jP a b 112 5 (X (Z<|jB g1 0 jc) (Y N) c1) (Y N)<|Fy N d f)(C:jh (Q w)<=b)(o:jP a b1 97 4 (X x2 (Y S) c2) (Y S)<|Bg S)(D:jh (Q w)<=b1)(r:lo<=jh (Q w))(j:Nat)(E:j<Y N)(y:Nd)(u k:jF)(hy:y.text.size<=1048576)(t:∀V:jD,(∀q,lo<=q->(q<hi\/jh (Q w)<=q)->q<(Wx a g1 j y u k).heap.size->(Q V)[q]?=(Wx a g1 j y u k).heap[q]?)->BO V lo v N d f->VwA V y u k):Nd1 lo hi (jh<|Q w) (Wx a g1 j y u k) (Z<|jB g1 0 jc) (Y<|N.set j y) c1 (N.set j y)/\St1 lo hi (jh<|Q w) (Wx a g1 j y u k) x2 (Y S) c2 S/\AJ R (R+1) w (Wx a g1 j y u k):=by
 have hg:jh (Q w)<=g1:=G7<|(g.lt g1 rfl).1;have hB:Below (jh<|Q w) a<|Wx a g1 j y u k:=(((((Below.refl (jh<|Q w) a).setCell (p:=⟨g1,j*5,jc⟩) hg _).setCell (p:=⟨g1,j*5+1,jc⟩) hg _).setCell (p:=⟨g1,j*5+2,jc⟩) hg _).setCell (p:=⟨g1,j*5+3,jc⟩) hg _).setCell (p:=⟨g1,j*5+4,jc⟩) hg _;have l:=T.aI hB NLN;have F:∀q,jO (Value.slice x2 (Y S) c2)=Z q->q≠g1:=λq hq e=>Ao o g Ob q hq G1;have G:(Wx a g1 j y u k).ownsRow b1 97 4 (X x2 (Y S) c2) (Y S)<|Bg S:=Ac o (λq hq=>by have:=F q hq;unfold Wx;rw[L2 _ _ q _ this,L2 _ _ q _ this,L2 _ _ q _ this,L2 _ _ q _ this,L2 _ _ q _ this]);have z:=Bj (Bj (Bj (Bj (Bj g (j*5)<|ja U y.op) (j*5+1)<|ja U y.num) (j*5+2)<|jA y.text) (j*5+3) u) (j*5+4) k;rw[<-Q8 N d f j E c.len c.bL y u k]at z;refine⟨?_,VM G r D rfl Oa B,l⟩;rw[zj];refine VL z r C Hs (by simp[c.len]) (by simp[c.bL]) Oa (λx hx=>?_) λV m i h h1 h2=>?_
 .obtain h|h:=List.mem_or_eq_of_mem_set hx
  .exact zB (ok x h).2.1 Ob
  rw[h];exact hy
 rw[List.getElem_set,List.getElem_set,List.getElem_set];by_cases e:j=i
 .rw[K1 e,K1 e,K1 e];exact t V m<|KO c n l m
 rw[K0 e,K0 e,K0 e];exact(KO c n l m).vw (λx hx=>(ok x hx).1) i P4 (by simpa using h1) Hv
theorem PO{c:jD}{lo:Nat}{a b:N4}(d:BO c lo v N a b)(ok:∀x∈N,Wv x)(j:Nat)(f:j<Y N)(h1:j<Y a)(h2:j<Y b)(op num:Int)(g:M1):VwA c ⟨op,num,g,N[j].aE,N[j].aC⟩ a[j] b[j]:=d.vw (λx hx=>(ok x hx).1) j f h1 h2
theorem Alc{b:jD}{lo:Nat}{a:N4}(f:BO b lo v N a c)(ok:∀x∈N,Wv x)(j:Nat)(g:j<Y N)(h1:j<Y a)(h2:j<Y c)(op num:Int)(d:M1):VwA b ⟨op,num,d,N[j].aE,[]⟩ a[j]<|X V 0 0:=by obtain⟨an,cn,h,k,e1,e2,g1,g2,g3⟩:=PO f ok j g h1 h2 op num d;exact⟨an,cn,V,0,e1,rfl,g1,⟨rfl,zH _,λi hi=>K4 hi Oz⟩,g3⟩
theorem Ajd{R:Nat}{a:N4}{u:Array jF}{x2:M3}(f:Lj w lo hi v N a c)(ok:∀x∈N,Wv x)(E:Y N<=100000)(F:Y S<=700)(y:∀s∈S,s.name.size<=1048576)(n:Ah w R u 78)(T:AJ R (R+1) w d)(j:Nat)(g:j<Y N)(h1:j<Y a)(h2:j<Y c)(k:jP d b 112 5 (X (Z<|jB g1 0 jc) (Y N+1) c1) (Y N+1)<|Fy (N++[N[j]]) (a++[a[j]])<|c++[c[j]])(z:jh (Q w)<=b)(o:jP d b1 97 4 (X x2 (Y S) c2) (Y S)<|Bg S)(A:jh (Q w)<=b1)(r:lo<=jh (Q w)):Nd1 lo hi (jh<|Q w) (Wx d g1 j N[j] a[j] c[j]) (Z<|jB g1 0 jc) (Y<|N++[N[j]]) c1 (N++[N[j]])/\St1 lo hi (jh<|Q w) (Wx d g1 j N[j] a[j] c[j]) x2 (Y S) c2 S/\AJ R (R+1) w (Wx d g1 j N[j] a[j] c[j]):=by
 have hg:jh (Q w)<=g1:=G7<|(k.lt g1 rfl).1;have hB:Below (jh<|Q w) d<|Wx d g1 j N[j] a[j] c[j]:=(((((Below.refl (jh<|Q w) d).setCell (p:=⟨g1,j*5,jc⟩) hg _).setCell (p:=⟨g1,j*5+1,jc⟩) hg _).setCell (p:=⟨g1,j*5+2,jc⟩) hg _).setCell (p:=⟨g1,j*5+3,jc⟩) hg _).setCell (p:=⟨g1,j*5+4,jc⟩) hg _;have l:=T.aI hB NLN;have B:∀q,jO (Value.slice x2 (Y S) c2)=Z q->q≠g1:=λq hq e=>Ao o k Ob q hq G1;have C:(Wx d g1 j N[j] a[j] c[j]).ownsRow b1 97 4 (X x2 (Y S) c2) (Y S)<|Bg S:=Ac o (λq hq=>by have:=B q hq;unfold Wx;rw[L2 _ _ q _ this,L2 _ _ q _ this,L2 _ _ q _ this,L2 _ _ q _ this,L2 _ _ q _ this]);have m:=Bj (Bj (Bj (Bj (Bj k (j*5)<|ja U N[j].op) (j*5+1)<|ja U N[j].num) (j*5+2)<|jA N[j].text) (j*5+3) a[j]) (j*5+4) c[j];rw[<-Q8 (N++[N[j]]) (a++[a[j]]) (c++[c[j]]) j Od (by simp[f.len]) (by simp[f.bL]) N[j] a[j] c[j],List.set_append_left _ _ g,List.set_getElem_self,List.set_append_left _ _ h1,List.set_getElem_self,List.set_append_left _ _ h2,List.set_getElem_self]at m;refine⟨?_,VM C r A rfl Oa y,l⟩;have D:Y N+1=Y (N++[N[j]]):=Oz;rw[D]at m;refine VL m r z rfl (by simp[f.len]) (by simp[f.bL]) Od (λx hx=>?_) (λV t i h g1 g2=>?_)
 .obtain h|h:=zJ.1 hx
  .exact zB (ok x h).2.1 Ob
  rw[zK.1 h];exact zB (ok _<|zI g).2.1 Ob
 have e1:=f.len;have e2:=f.bL;by_cases e:i<Y N
 .rw[zg e,zg Oa,zg Oa];exact(KO f n l t).vw (λx hx=>(ok x hx).1) i e Oa Oa
 rw[Z2 Oa,Z2 Oa,Z2 Oa];simp only[List.getElem_singleton];exact(KO f n l t).vw (λx hx=>(ok x hx).1) j g h1 h2
theorem Ajb{c:jD}{R:Nat}{d f:N4}{m:Array jF}{a1 x2:M3}(a:Lj w lo hi v N d f)(ok:∀x∈N,Wv x)(z:Y N<=100000)(A:Y S<=700)(n:∀s∈S,s.name.size<=1048576)(o:Ah w R m 78)(T:AJ R (R+1) w c)(g:jP c b 112 5 (X a1 (Y N+1) c1) (Y N+1)<|Fy N d f++[ja U 1,ja U 0,jA ⟨#[]⟩,X jc 0 0,X jc 0 0])(p:jP c b1 97 4 (X x2 (Y S) c2) (Y S)<|Bg S)(q:jh (Q w)<=b)(r:jh (Q w)<=b1)(l:lo<=jh (Q w)):Nd1 lo hi (jh<|Q w) c a1 (Y<|N++[ndZ]) c1 (N++[ndZ])/\St1 lo hi (jh<|Q w) c x2 (Y S) c2 S:=by
 have t:Fy N d f++[ja U 1,ja U 0,jA ⟨#[]⟩,X jc 0 0,X jc 0 0]=Fy (N++[ndZ]) (d++[X jc 0 0]) (f++[X jc 0 0]):=by rw[MT N d f ndZ _ _ a.len a.bL];rfl
 rw[t]at g;refine⟨?_,VM p l r rfl Oa n⟩;have u:Y N+1=Y (N++[ndZ]):=Oz;rw[u]at g;refine VL g l q rfl (by simp[a.len]) (by simp[a.bL]) Od (λx hx=>?_) (λV y i h g1 g2=>?_)
 .obtain h|h:=zJ.1 hx
  .exact zB (ok x h).2.1 Ob
  rw[zK.1 h];show(0:Nat)<=_;omega
 have e1:=a.len;have e2:=a.bL;by_cases e:i<Y N
 .rw[zg e,zg Oa,zg Oa];exact(KO a o T y).vw (λx hx=>(ok x hx).1) i e Oa Oa
 rw[Z2 Oa,Z2 Oa,Z2 Oa];simp only[List.getElem_singleton];exact⟨jc,0,jc,0,rfl,rfl,⟨rfl,NLN,zH _,λj k=>K4 k<|by simp[ndZ],λj k=>K4 k<|by simp[ndZ]⟩,⟨rfl,zH _,λi hi=>K4 hi<|by simp[ndZ]⟩,λ_=>rfl,λB e=>by cases e⟩
theorem Q9{a b:Nat}{y i:Int}{j:Nat}(c:nx zs p=(y,a))(d:nx zs a=(i,b))(h:¬(y%3=0/\0<Y S))(f:j=(i%(Y N:Int)).toNat)(g:j<Y N)(h8:¬ y/3%10=8):(N.set j<|Gr zs b y j N[j],S)=I9 zs p N S:=by unfold I9;rw[c];dsimp only;rw[d];dsimp only;rw[K0 h,K0 Oa,K0 h8,<-f,zf,zE g];rfl
theorem Aje{a b:Nat}{y i:Int}{j:Nat}(c:nx zs p=(y,a))(d:nx zs a=(i,b))(h:¬(y%3=0/\0<Y S))(f:j=(i%(Y N:Int)).toNat)(g:j<Y N)(h8:y/3%10=8):(N++[N[j]],S)=I9 zs p N S:=by unfold I9;rw[c];dsimp only;rw[d];dsimp only;rw[K0 h,K0 Oa,K1 h8,<-f,zf,zE g];rfl
theorem Ajc{a b:Nat}{y i:Int}(c:nx zs p=(y,a))(d:nx zs a=(i,b))(h:¬(y%3=0/\0<Y S))(f:Y N=0):(N++[ndZ],S)=I9 zs p N S:=by unfold I9;rw[c];dsimp only;rw[d];dsimp only;rw[K0 h,K1 f]
theorem Agq{a:jD}{lo b:Nat}(i:BO a lo v N f c)(ok:∀x∈N,Wv x)(j:Nat)(k:j<Y N)(h1:j<Y f)(h2:j<Y c)(op num:Int)(g:M1)(K:M6)(x6:M3)(d:Nat)(h:AY a b x6 K d):VwA a ⟨op,num,g,K,N[j].aC⟩ (X x6 (Y K) d) c[j]:=by obtain⟨an,cn,l,m,e1,e2,g1,g2,g3⟩:=PO i ok j k h1 h2 op num g;exact⟨x6,d,l,m,rfl,e2,h.cP,g2,ZS.bB h.bG⟩
theorem Acv{a:jD}{lo b:Nat}{c f:N4}(h:BO a lo v N c f)(ok:∀x∈N,Wv x)(j:Nat)(i:j<Y N)(h1:j<Y c)(h2:j<Y f)(op num:Int)(g:M1)(ks:M4)(x6:M3)(d m:Nat)(hm:m=Y ks)(k:jP a b 3 1 (X x6 m d) m<|Ap ks)(l:Y ks<=1048576):VwA a ⟨op,num,g,N[j].aE,ks⟩ c[j]<|X x6 m d:=by subst hm;obtain⟨an,cn,n,o,e1,e2,g1,g2,g3⟩:=PO h ok j i h1 h2 op num g;exact⟨an,cn,x6,d,e1,rfl,g1,Bh k rfl l,g3⟩
theorem Rb{b g c:Nat}{h:N4}(a:jP w b 112 5 (X (Z<|jB g 0 V) (Y N) c) (Y N)<|Fy N f h)(j:Nat)(p:j<Y N)(h1:j<Y f)(h2:j<Y h):jE w ⟨g,j*5,V⟩=Z (T U N[j].op)/\jE w ⟨g,j*5+1,V⟩=Z (T U N[j].num)/\jE w ⟨g,j*5+2,V⟩=Z (jA N[j].text)/\jE w ⟨g,j*5+3,V⟩=Z f[j]/\jE w ⟨g,j*5+4,V⟩=Z h[j]/\∀i,jY w (jB g i V)=jI:=by have d:=LH N f h j p h1 h2;have k:=d 0 Ob;have l:=d 1 Ob;have m:=d 2 Ob;have n:=d 3 Ob;have o:=d 4 Ob;simp only[NM,ze,yA,z5]at k l m n o;exact⟨(a.cellAt (j*5) Oa).trans k,(a.cellAt (j*5+1) Oa).trans l,(a.cellAt (j*5+2) Oa).trans m,(a.cellAt (j*5+3) Oa).trans n,(a.cellAt (j*5+4) Oa).trans o,λi=>a.frozenAt i⟩
theorem AY.high{a:jD}{b c:Nat}{x:M3}{K:M6}(h:AY w b x K c)(hq:∀q,b<=q->q<R (Q w)->(Q a)[q]?=(Q w)[q]?):AY a b x K c:=⟨Ac h.bG λq e=>hq q (h.bG.lt q e).1 (h.bG.lt q e).2,h.aH⟩
theorem Re{a:jD}{g j:Nat}{y:Nd}{u:jF}:(Wx a g j y u k).heap.size=R (Q a):=by simp[Wx]
theorem Rf{a:jD}{g j q:Nat}{y:Nd}{u:jF}(h:q≠g):(Wx a g j y u k).heap[q]?=(Q a)[q]?:=by unfold Wx;rw[L2 _ _ q _ h,L2 _ _ q _ h,L2 _ _ q _ h,L2 _ _ q _ h,L2 _ _ q _ h]
set_option maxHeartbeats 6400000
def Anl(lo hi R:Nat)(zs:M4)(p:Nat)(N:M7)(S:Nz)(w:jD)(r:Ending)(w':jD):Prop:=∃N' S' a1 c1 a2 c2,r=jN (jS #[X a1 (Y N') c1,X a2 (Y S') c2])/\Hid ((N',S')=I9 zs p N S)/\Nd1 lo hi (jh<|Q w) w' a1 (Y N') c1 N'/\St1 lo hi (jh<|Q w) w' a2 (Y S') c2 S'/\AJ R (R+1) w w'
theorem Ai9{R:Nat}{n c:Nat}{p lo hi:Nat}(bP:JF w R a n c zs p)(N:M7)(ai aj:N4)(b3:M3)(cn:Nat)(bQ:Lj w lo hi (X b3 (Y N) cn) N ai aj)(S:Nz)(b4:M3)(cs:Nat)(hS:jP w lo 97 4 (X b4 (Y S) cs) (Y S)<|Bg S)(ok:∀x∈N,Wv x)(ar:∀s∈S,s.name.size<=1048576)(aZ:Y N<=100000)(bh:Y S<=700)(a0:lo<=jh (Q w)):Calls jZ 81 #[jQ<|Z<|jB R 0 jc,X b3 (Y N) cn,X b4 (Y S) cs] w (Anl lo hi R zs p N S w):=by
 have cY:=bP.lt;have aK:=Ab bP.row;obtain⟨b5,b6,b7,b8,b9⟩:=info_parts Vz;obtain⟨cr,ct,cu,cv,cw⟩:=info_parts IG;have W:=Ab bQ;have h1:=bQ.cK;have cx:=bQ.bG;clear bQ;go_enter func81,ntmps81;go_wp2_with (at_builtin;refine LI rfl _ _ 23 rfl 112 b5 (jL #[T U 0,T U 0,jA jX,X jc 0 0,X jc 0 0]) 5 80 underlying23 b6 b7 b8 b9 rfl Ob lo (Y N) cn b3 (Fy N ai aj) rfl rfl cx h1 O3 Oa ?_);intro dE bR bS aa;obtain⟨aL,c1,cZ,-⟩:=Af bS;subst cZ;have cy:=Ac hS λq hq=>aa.block q (hS.lt q hq).2;clear h1 cx;go_wp2_with (at_builtin;refine LI rfl _ _ 24 rfl 97 cr (jL #[T U 0,jA jX,T U 0,T U 0]) 4 40 underlying24 ct cu cv cw rfl Ob lo (Y S) cs b4 (Bg S) rfl rfl cy (Ago S) O3 Oa ?_);intro dF w2 bB ca;obtain⟨x2,c2,c0,-⟩:=Af bB;subst c0;have bT:=Ac bS λq hq=>ca.block q (bS.lt q hq).2;have z1:=aa.size;have hr2:=(bP.aB aa cY).aB ca Oa;have cz:AJ R (R+1) w w2:=(AJ.aU aa NLN).trans<|AJ.aU ca Oa;clear hS cy bS bP;go_wp2_with fail;refine(Cq R a n c zs p w2 hr2).mono ?_;rintro af c3 ⟨y,c4,rfl,a1,dG,dH,cA,bn⟩;have cB:=cz.trans bn;have bU:=Ac bT λq hq=>bn.block q (bT.lt q hq).2<|.inr<|G7<|(bT.lt q hq).1;have bV:=Ac bB λq hq=>bn.block q (bB.lt q hq).2<|.inr<|G7<|(bB.lt q hq).1;clear bT bB hr2 bn cz;dsimp only;go_wp2_with fail;refine(Cq R a n c zs c4 c3 cA).mono ?_;rintro af f ⟨i,aG,rfl,a2,dI,dJ,cC,bC⟩;have J:=cB.trans bC;have G:=Ac bU λq hq=>bC.block q (bU.lt q hq).2<|.inr<|G7<|(bU.lt q hq).1;have H:=Ac bV λq hq=>bC.block q (bV.lt q hq).2<|.inr<|G7<|(bV.lt q hq).1;clear bU bV cA bC cB;dsimp only;by_cases e3:y%3=0/\0<Y S
 .obtain⟨e3,bo⟩:=e3;have bp:(y%3==0)=jG:=zD.2 e3;have aT:=Ab<|L7 e3 bo;clear e3;obtain⟨j,bD⟩:∃j:Nat,j=(i%(Y S:Int)).toNat:=⟨_,rfl⟩;have o:j<Y S:=by have h1:=Int.emod_nonneg i (Oa:(Y S:Int)≠0);have h2:=Int.emod_lt_of_pos i (Oa:0<(Y S:Int));omega
  have cb:i%(Y S:Int)=(j:Int):=by have h1:=Int.emod_nonneg i (Oa:(Y S:Int)≠0);omega
  have a3:=Ab bD;clear bD;obtain⟨g2,c5⟩:∃g2,x2=Z (jB g2 0 jc):=by
   obtain⟨au,h0⟩|⟨g,cap,bE,au,_⟩:=H.2
   .omega
   simp only[Value.slice.injEq]at au;exact⟨g,au.1⟩
  subst c5;have aM:=MI S j o;have bi:=aM 0 Ob;have bj:=aM 1 Ob;have bk:=aM 2 Ob;have a7:=aM 3 Ob;simp only[ze,yA,z5]at bi bj bk a7;have k0:=(H.cellAt (j*4) Oa).trans bi;have cc:=(H.cellAt (j*4+1) Oa).trans bj;have cd:=(H.cellAt (j*4+2) Oa).trans bk;have ce:=(H.cellAt (j*4+3) Oa).trans a7;clear aM bi bj bk a7;have c6:(j:Int)<(Y S:Int):=Oa;have c8:(0:Int)<(Y S:Int):=Oa;have aH:=Ab (show ∀ak,Ak f ak->(jE ak ⟨g2,j*4,jc⟩=Z (T U S[j].aF)/\jE ak ⟨g2,j*4+1,jc⟩=Z (jA S[j].name)/\jE ak ⟨g2,j*4+2,jc⟩=Z (T U S[j].cond)/\jE ak ⟨g2,j*4+3,jc⟩=Z (T U S[j].aD))/\∀af,jY ak (jB g2 af jc)=jI from λak aN=>by
   have hg:=(H.lt g2 rfl).2;refine⟨⟨(aN.cell (p:=⟨g2,j*4,jc⟩) hg).trans k0,(aN.cell (p:=⟨g2,j*4+1,jc⟩) hg).trans cc,(aN.cell (p:=⟨g2,j*4+2,jc⟩) hg).trans cd,(aN.cell (p:=⟨g2,j*4+3,jc⟩) hg).trans ce⟩,λaf=>?_⟩;obtain⟨au,_⟩|⟨g,cap,bE,au,_,cf,_⟩:=H.2
   .cases au
   cases au;exact Ah.frozen (b:=g2) (cs:=bE) (t:=97) ⟨(aN.block g2 hg).trans cf⟩ af);obtain⟨m,hm⟩:∃m,m=y/3%7:=⟨_,rfl⟩;have cg:m=0\/m=1\/m=2\/m=3\/m=4\/m=5\/m=6:=Oa;have dK:=Ab hm;subst hm;have bq:=Ab λ(A:Int) (B:M1) (C br:Int) (h:LG y S[j]=⟨A,B,C,br⟩) (h6:¬ y/3%7=6) (hB:B.size<=1048576)=>L7 (Ab<|show(N,S.set j ⟨A,B,C,br⟩)=I9 zs p N S by rw[<-h];exact Alb (Aa a1) (Aa a2) (Aa aT) (Aa a3) o h6)<|Agp (Aa W) ok aZ Oa ar (Aa aK) (J.aI ((Ar f<|EO A B C br).mono J.size) NLN) (K7 G<|EO A B C br) (K7 H<|EO A B C br) aa.size a0 NLN j o ⟨A,B,C,br⟩ hB;obtain e|e|e|e|e|e|e:=cg
  .have O:=Ab e;have a8:(y/3%7==0)=jG:=zD.2 e;clear e;have D:=Ar f<|jC #[T U<|wrap64<|1+S[j].aF.tmod 3,jA S[j].name,T U S[j].cond,T U S[j].aD] 97;obtain⟨⟨av,aw,ax,ag⟩,d⟩:=Aa aH _ D;have al:=d<|j*4;have ao:=d<|j*4+1;have ap:=d<|j*4+2;have aq:=d<|j*4+3;clear d;go_wp2_with fail;refine K8 (v:=jS #[X aL (Y N) c1,X (Z<|jB g2 0 jc) (Y S) c2]) O1 rfl ?_;obtain⟨M,e1,e2,e3⟩:=Aa bq _ _ _ _ (H4:LG y S[j]=⟨(wrap64<|1+S[j].aF.tmod 3),S[j].name,S[j].cond,S[j].aD⟩) D8<|show S[j].name.size<=1048576 from ar _<|zI o;exact⟨_,_,_,_,_,_,Hs,M,e1,e2,e3⟩
  .have O:=Ab e;have a8:(y/3%7==0)=jI:=zA.2 Oa;have bF:(y/3%7==1)=jG:=zD.2 e;clear e;have D:=Ar f<|jC #[T U S[j].aF,jA ⟨#[105,102]⟩,T U S[j].cond,T U S[j].aD] 97;obtain⟨⟨av,aw,ax,ag⟩,d⟩:=Aa aH _ D;have al:=d<|j*4;have ao:=d<|j*4+1;have ap:=d<|j*4+2;have aq:=d<|j*4+3;clear d;go_wp2_with fail;refine K8 (v:=jS #[X aL (Y N) c1,X (Z<|jB g2 0 jc) (Y S) c2]) O1 rfl ?_;obtain⟨M,e1,e2,e3⟩:=Aa bq _ _ _ _ (H4:LG y S[j]=⟨S[j].aF,⟨#[105,102]⟩,S[j].cond,S[j].aD⟩) D8 (by show _<=_;simp[ByteArray.size]);exact⟨_,_,_,_,_,_,Hs,M,e1,e2,e3⟩
  .have O:=Ab e;have a8:(y/3%7==0)=jI:=zA.2 Oa;have bF:(y/3%7==1)=jI:=zA.2 Oa;have bW:(y/3%7==2)=jG:=zD.2 e;clear e;have D:=Ar f<|jC #[T U S[j].aF,jA S[j].name,T U<|wrap64<|S[j].cond+1,T U S[j].aD] 97;obtain⟨⟨av,aw,ax,ag⟩,d⟩:=Aa aH _ D;have al:=d<|j*4;have ao:=d<|j*4+1;have ap:=d<|j*4+2;have aq:=d<|j*4+3;clear d;go_wp2_with fail;refine K8 (v:=jS #[X aL (Y N) c1,X (Z<|jB g2 0 jc) (Y S) c2]) O1 rfl ?_;obtain⟨M,e1,e2,e3⟩:=Aa bq _ _ _ _ (H4:LG y S[j]=⟨S[j].aF,S[j].name,(wrap64<|S[j].cond+1),S[j].aD⟩) D8<|show S[j].name.size<=1048576 from ar _<|zI o;exact⟨_,_,_,_,_,_,Hs,M,e1,e2,e3⟩
  .have O:=Ab e;have a8:(y/3%7==0)=jI:=zA.2 Oa;have bF:(y/3%7==1)=jI:=zA.2 Oa;have bW:(y/3%7==2)=jI:=zA.2 Oa;have bp:(y/3%7==3)=jG:=zD.2 e;clear e;have D:=Ar f<|jC #[T U S[j].aF,jA S[j].name,T U S[j].cond,T U<|wrap64<|S[j].aD-1] 97;obtain⟨⟨av,aw,ax,ag⟩,d⟩:=Aa aH _ D;have al:=d<|j*4;have ao:=d<|j*4+1;have ap:=d<|j*4+2;have aq:=d<|j*4+3;clear d;go_wp2_with fail;refine K8 (v:=jS #[X aL (Y N) c1,X (Z<|jB g2 0 jc) (Y S) c2]) O1 rfl ?_;obtain⟨M,e1,e2,e3⟩:=Aa bq _ _ _ _ (H4:LG y S[j]=⟨S[j].aF,S[j].name,S[j].cond,(wrap64<|S[j].aD-1)⟩) D8<|show S[j].name.size<=1048576 from ar _<|zI o;exact⟨_,_,_,_,_,_,Hs,M,e1,e2,e3⟩
  .have O:=Ab e;have a8:(y/3%7==0)=jI:=zA.2 Oa;have bF:(y/3%7==1)=jI:=zA.2 Oa;have bW:(y/3%7==2)=jI:=zA.2 Oa;have bp:(y/3%7==3)=jI:=zA.2 Oa;have cD:(y/3%7==4)=jG:=zD.2 e;clear e;have D:=Ar f<|jC #[T U S[j].aF,jA S[j].name,T U<|-1,T U S[j].aD] 97;obtain⟨⟨av,aw,ax,ag⟩,d⟩:=Aa aH _ D;have al:=d<|j*4;have ao:=d<|j*4+1;have ap:=d<|j*4+2;have aq:=d<|j*4+3;clear d;go_wp2_with fail;refine K8 (v:=jS #[X aL (Y N) c1,X (Z<|jB g2 0 jc) (Y S) c2]) O1 rfl ?_;obtain⟨M,e1,e2,e3⟩:=Aa bq _ _ _ _ (H4:LG y S[j]=⟨S[j].aF,S[j].name,(-1),S[j].aD⟩) D8<|show S[j].name.size<=1048576 from ar _<|zI o;exact⟨_,_,_,_,_,_,Hs,M,e1,e2,e3⟩
  .have O:=Ab e;have a8:(y/3%7==0)=jI:=zA.2 Oa;have bF:(y/3%7==1)=jI:=zA.2 Oa;have bW:(y/3%7==2)=jI:=zA.2 Oa;have bp:(y/3%7==3)=jI:=zA.2 Oa;have cD:(y/3%7==4)=jI:=zA.2 Oa;have c9:(y/3%7==5)=jG:=zD.2 e;clear e;have D:=Ar f<|jC #[T U S[j].aF,jA ⟨#[]⟩,T U S[j].cond,T U S[j].aD] 97;obtain⟨⟨av,aw,ax,ag⟩,d⟩:=Aa aH _ D;have al:=d<|j*4;have ao:=d<|j*4+1;have ap:=d<|j*4+2;have aq:=d<|j*4+3;clear d;go_wp2_with fail;refine K8 (v:=jS #[X aL (Y N) c1,X (Z<|jB g2 0 jc) (Y S) c2]) O1 rfl ?_;obtain⟨M,e1,e2,e3⟩:=Aa bq _ _ _ _ (H4:LG y S[j]=⟨S[j].aF,⟨#[]⟩,S[j].cond,S[j].aD⟩) D8 (by show _<=_;simp[ByteArray.size]);exact⟨_,_,_,_,_,_,Hs,M,e1,e2,e3⟩
  have O:=Ab e;have a8:(y/3%7==0)=jI:=zA.2 Oa;have bF:(y/3%7==1)=jI:=zA.2 Oa;have bW:(y/3%7==2)=jI:=zA.2 Oa;have bp:(y/3%7==3)=jI:=zA.2 Oa;have cD:(y/3%7==4)=jI:=zA.2 Oa;have c9:(y/3%7==5)=jI:=zA.2 Oa;clear e;have D:=Ar f<|jC #[T U S[j].aF,jA S[j].name,T U S[j].cond,T U S[j].aD] 97;have ah:=Ah.new f #[T U S[j].aF,jA S[j].name,T U S[j].cond,T U S[j].aD] 97;have a9:=K7 H<|jC #[T U S[j].aF,jA S[j].name,T U S[j].cond,T U S[j].aD] 97;have ba:=K7 G<|jC #[T U S[j].aF,jA S[j].name,T U S[j].cond,T U S[j].aD] 97;have bb:=K7 a9<|jC #[T U S[j].aF,jA S[j].name,T U S[j].cond,T U S[j].aD] 97;have aV:=K9<|Lz (jK f<|jC #[T U S[j].aF,jA S[j].name,T U S[j].cond,T U S[j].aD] 97)<|jC #[T U S[j].aF,jA S[j].name,T U S[j].cond,T U S[j].aD] 97;have da:=H.lt g2 rfl;simp only[K6]at aV;have L:=J.aI (D.mono J.size) NLN;have dL:=Ab<|(zB aa.size da.1);go_wp2_with (at_builtin;refine J6 _ rfl _ _ 24 rfl (jh<|Q bR) 97 cr (jL #[T U 0,jA jX,T U 0,T U 0]) 4 40 underlying24 ct cu cv cw rfl Ob (X (Z<|jB g2 0 jc) (Y S) c2) (Y S) (Bg S) rfl bb ⟨jh (Q f)+1,0,jc⟩ 1 1 [T U S[j].aF,jA S[j].name,T U S[j].cond,T U S[j].aD] rfl rfl aV (by intro u hu;simp at hu;obtain rfl|rfl|rfl|rfl:=hu<;>rfl) Ob O3 Oa Od _ rfl ?_);intro g7 c7 bs E P hat bH;have gk:=Au P;have aO:Ah bs (jh<|Q f) #[T U S[j].aF,jA S[j].name,T U S[j].cond,T U S[j].aD] 97:=⟨(gk _ ah.lt<|by simp[jO];omega).trans ah.out⟩;have bo:=aO.cell 0;have s1:=aO.cell 1;have s2:=aO.cell 2;have bX:=aO.cell 3;have cE:=Ac ba λq hq=>gk q (ba.lt q hq).2 λe=>Ao ba a9 Ob q hq e;have ab:=L.aI (((Below.refl (jh<|Q w)<|jK f<|jC #[T U S[j].aF,jA S[j].name,T U S[j].cond,T U S[j].aD] 97).alloc L.size<|jC #[T U S[j].aF,jA S[j].name,T U S[j].cond,T U S[j].aD] 97).grown P (by have:=L.size;simp at this|-;omega) λq hq=>zB aa.size (H.lt q hq).1) NLN;have bI:Bg S++[T U S[j].aF,jA S[j].name,T U S[j].cond,T U S[j].aD]=Bg (S++[S[j]]):=(LD S S[j]).symm;rw[bI]at E;have bY:j<Y (S++[S[j]]):=Od;have ay:=MI (S++[S[j]]) j bY;rw[zg o]at ay;have u0:=ay 0 Ob;have u1:=ay 1 Ob;have u2:=ay 2 Ob;have u3:=ay 3 Ob;simp only[ze,yA,z5]at u0 u1 u2 u3;have db:=(E.cellAt (j*4) Oa).trans u0;have dc:=(E.cellAt (j*4+1) Oa).trans u1;have dd:=(E.cellAt (j*4+2) Oa).trans u2;have bn:=(E.cellAt (j*4+3) Oa).trans u3;have al:=E.frozenAt<|j*4;have ao:=E.frozenAt<|j*4+1;have ap:=E.frozenAt<|j*4+2;have aq:=E.frozenAt<|j*4+3;have de:(j:Int)<(Y S:Int)+1:=Oa;have ch:=Ab E;have bc:=Ab<|L7 cE ab;clear E cE ab L aO gk P hat bH bb aV a9 ba ah D ay u0 u1 u2 u3 bI;go_wp2_with fail;refine K8 (v:=jS #[X aL (Y N) c1,X (Z<|jB g7 0 jc) (Y S+1) c7]) O1 rfl ?_;have bZ:Y S+1=Y (S++[S[j]]):=Oz;have E:=Aa ch;rw[bZ]at E;obtain⟨e1,e2,e3⟩:=Agp (Aa W) ok aZ Od (λs hs=>(zJ.1 hs).elim (ar s) λh=>by rw[zK.1 h];exact ar _<|zI o) (Aa aK) (Aa bc).2 (Aa bc).1 E aa.size a0 NLN j bY S[j]<|ar _<|zI o;rw[List.set_append_left _ _ o,List.set_getElem_self]at e2;exact⟨N,S++[S[j]],aL,c1,Z<|jB g7 0 jc,c7,by rw[bZ],Ab<|Aja (Aa a1) (Aa a2) (Aa aT) (Aa a3) o<|Aa O,e1,e2,e3⟩
 have aT:=Ab e3;have df:y%3≠0\/(y%3=0/\Y S=0):=Oa;clear e3;obtain h3|⟨h3,dg⟩:=df;all_goals
  first|(have bp:(y%3==0)=jG:=zD.2 h3;have c8:¬ ((0:Int)<(Y S:Int)):=Oa;clear h3 dg)|(have bp:(y%3==0)=jI:=zA.2 h3;clear h3)
  by_cases n0:Y N=0
  .have a8:((Y N:Int)==0)=jG:=zD.2 Oa;have dh:=Ab n0;have dM:Y N<=10:=Oa;clear n0;have bb:=K7 G<|jC #[T U 1,T U 0,jA ⟨#[]⟩,X jc 0 0,X jc 0 0] 112;have aV:=K9<|Lz f<|jC #[T U 1,T U 0,jA ⟨#[]⟩,X jc 0 0,X jc 0 0] 112;have bt:=J.size;go_wp2_with (at_builtin;refine J6 _ rfl _ _ 23 rfl (jh<|Q w) 112 b5 (jL #[T U 0,T U 0,jA jX,X jc 0 0,X jc 0 0]) 5 80 underlying23 b6 b7 b8 b9 rfl Ob (X aL (Y N) c1) (Y N) (Fy N ai aj) rfl bb.drew ⟨jh<|Q f,0,jc⟩ 1 1 [T U 1,T U 0,jA ⟨#[]⟩,X jc 0 0,X jc 0 0] rfl rfl aV (by intro u hu;simp at hu;obtain rfl|rfl|rfl|rfl|rfl:=hu<;>rfl) Ob O3 Oa Od _ rfl ?_);intro g7 c7 bs E P hat bH;have gk:=Au<|show(jK f<|jC #[T U 1,T U 0,jA ⟨#[]⟩,X jc 0 0,X jc 0 0] 112).grownBy bs (jO<|Value.slice aL (Y N) c1)from⟨P.os,P.tape,P.output,P.size,P.block⟩;have bJ:=Ac H λq hq=>gk q (H.lt q hq).2 λe=>Ao H G Ob q hq e;have ab:=J.aI (((Below.refl (jh<|Q w) f).alloc J.size<|jC #[T U 1,T U 0,jA ⟨#[]⟩,X jc 0 0,X jc 0 0] 112).grown (show World.grownBy _ bs (jO<|Value.slice aL (Y N) c1)from⟨P.os,P.tape,P.output,P.size,P.block⟩) Od λq hq=>(G.lt q hq).1) NLN;have bc:=Ab<|Ajb (Aa W) ok aZ bh ar (Aa aK) ab E bJ NLN aa.size a0;have di:=Ab ab;clear E bJ ab gk P hat bH bb aV;go_wp2_with fail;refine K8 (v:=jS #[X (Z<|jB g7 0 jc) (Y N+1) c7,X x2 (Y S) c2]) O1 rfl ?_;exact⟨N++[ndZ],S,Z<|jB g7 0 jc,c7,x2,c2,Oz,Ab<|Ajc (Aa a1) (Aa a2) (Aa aT)<|Aa dh,(Aa bc).1,(Aa bc).2,Aa di⟩
  have ci:(Y N:Int)≠0:=Oa;have dj:0<(Y N:Int):=Oa;have a8:((Y N:Int)==0)=jI:=zA.2 ci;obtain⟨j,bD⟩:∃j:Nat,j=(i%(Y N:Int)).toNat:=⟨_,rfl⟩;have dk:=Int.emod_nonneg i ci;have dl:=Int.emod_lt_of_pos i dj;have o:j<Y N:=Oa;have cb:i%(Y N:Int)=(j:Int):=Oa;have a3:=Ab bD;clear bD dk dl;obtain⟨g1,dm⟩:∃g1,aL=Z (jB g1 0 jc):=by
   obtain⟨au,h0⟩|⟨g,cap,bE,au,_⟩:=G.2
   .omega
   simp only[Value.slice.injEq]at au;exact⟨g,au.1⟩
  subst dm;have aJ:j<Y ai:=by rw[(Aa W).len];exact o
  have az:j<Y aj:=by rw[(Aa W).bL];exact o
  have aM:=LH N ai aj j o aJ az;have bi:=aM 0 Ob;have bj:=aM 1 Ob;have bk:=aM 2 Ob;have a7:=aM 3 Ob;have b0:=aM 4 Ob;simp only[NM,ze,yA,z5]at bi bj bk a7 b0;obtain⟨an,l,cj⟩:=AG<|(Aa W).aE j o aJ;obtain⟨r,z,ck⟩:=AG<|(Aa W).aC j o az;rw[cj]at a7;rw[ck]at b0;have k0:=(G.cellAt (j*5) Oa).trans bi;have cc:=(G.cellAt (j*5+1) Oa).trans bj;have cd:=(G.cellAt (j*5+2) Oa).trans bk;have ce:=(G.cellAt (j*5+3) Oa).trans a7;have dn:=(G.cellAt (j*5+4) Oa).trans b0;clear aM bi bj bk a7 b0;have c6:(j:Int)<(Y N:Int):=Oa;have aP:=Ab cj;have aW:=Ab ck;clear cj ck ci n0;have aH:=Ab (show ∀ak,Ak f ak->(jE ak ⟨g1,j*5,jc⟩=Z (T U N[j].op)/\jE ak ⟨g1,j*5+1,jc⟩=Z (T U N[j].num)/\jE ak ⟨g1,j*5+2,jc⟩=Z (jA N[j].text)/\jE ak ⟨g1,j*5+3,jc⟩=Z (X an (Y N[j].aE) l)/\jE ak ⟨g1,j*5+4,jc⟩=Z (X r (Y N[j].aC) z))/\∀af,jY ak (jB g1 af jc)=jI from λak aN=>by
   have hg:=(G.lt g1 rfl).2;refine⟨⟨(aN.cell (p:=⟨g1,j*5,jc⟩) hg).trans k0,(aN.cell (p:=⟨g1,j*5+1,jc⟩) hg).trans cc,(aN.cell (p:=⟨g1,j*5+2,jc⟩) hg).trans cd,(aN.cell (p:=⟨g1,j*5+3,jc⟩) hg).trans ce,(aN.cell (p:=⟨g1,j*5+4,jc⟩) hg).trans dn⟩,λaf=>?_⟩;obtain⟨au,_⟩|⟨g,cap,bE,au,_,cf,_⟩:=G.2
   .cases au
   cases au;exact Ah.frozen (b:=g1) (cs:=bE) (t:=112) ⟨(aN.block g1 hg).trans cf⟩ af);have cg:y/3%10=0\/y/3%10=1\/y/3%10=2\/y/3%10=3\/y/3%10=4\/y/3%10=5\/y/3%10=6\/y/3%10=7\/y/3%10=8\/y/3%10=9:=Oa;have bK:=Ab (λ(A B:Int) (C:M1) (h:Gr zs aG y j N[j]=⟨A,B,C,N[j].aE,N[j].aC⟩) (h6:¬ y/3%10=8) (hB:C.size<=1048576)=>L7 (Ab<|show(N.set j ⟨A,B,C,N[j].aE,N[j].aC⟩,S)=I9 zs p N S by rw[<-h];exact Q9 (Aa a1) (Aa a2) (Aa aT) (Aa a3) o h6)<|Ra (Aa W) ok aZ bh ar (Aa aK) (J.aI ((Ar f<|jC #[T U A,T U B,jA C,X an (Y N[j].aE) l,X r (Y N[j].aC) z] 112).mono J.size) NLN) (K7 G<|jC #[T U A,T U B,jA C,X an (Y N[j].aE) l,X r (Y N[j].aC) z] 112) NLN (K7 H<|jC #[T U A,T U B,jA C,X an (Y N[j].aE) l,X r (Y N[j].aC) z] 112) aa.size a0 j o ⟨A,B,C,N[j].aE,N[j].aC⟩ (X an (Y N[j].aE) l) (X r (Y N[j].aC) z) hB λV bl K=>by have h:=PO K ok j o aJ az A B C;rw[Aa aP,Aa aW]at h;exact h);obtain e|e|e|e|e|e|e|e|e|e:=cg
  .have F:=Ab e;have a4:(y/3%10==0)=jG:=zD.2 e;clear e;have D:=Ar f<|jC #[T U<|wrap64<|1+(wrap64<|N[j].op+y).tmod 28,T U N[j].num,jA N[j].text,X an (Y N[j].aE) l,X r (Y N[j].aC) z] 112;obtain⟨⟨av,aw,ax,ag,aQ⟩,d⟩:=Aa aH _ D;have al:=d<|j*5;have ao:=d<|j*5+1;have ap:=d<|j*5+2;have aq:=d<|j*5+3;have a5:=d<|j*5+4;clear d;go_wp2_with fail;refine K8 (v:=jS #[X (Z<|jB g1 0 jc) (Y N) c1,X x2 (Y S) c2]) O1 rfl ?_;obtain⟨M,e1,e2,e3⟩:=Aa bK _ _ _ (Hf:Gr zs aG y j N[j]=⟨(wrap64<|1+(wrap64<|N[j].op+y).tmod 28),N[j].num,N[j].text,N[j].aE,N[j].aC⟩) Hj<|show N[j].text.size<=1048576 from zB (ok _<|zI o).2.1 Ob;exact⟨_,_,_,_,_,_,Hs,M,e1,e2,e3⟩
  .have F:=Ab e;have a4:(y/3%10==0)=jI:=zA.2 Oa;have bd:(y/3%10==1)=jG:=zD.2 e;clear e;have D:=Ar f<|jC #[T U N[j].op,T U<|-1,jA N[j].text,X an (Y N[j].aE) l,X r (Y N[j].aC) z] 112;obtain⟨⟨av,aw,ax,ag,aQ⟩,d⟩:=Aa aH _ D;have al:=d<|j*5;have ao:=d<|j*5+1;have ap:=d<|j*5+2;have aq:=d<|j*5+3;have a5:=d<|j*5+4;clear d;go_wp2_with fail;refine K8 (v:=jS #[X (Z<|jB g1 0 jc) (Y N) c1,X x2 (Y S) c2]) O1 rfl ?_;obtain⟨M,e1,e2,e3⟩:=Aa bK _ _ _ (Hf:Gr zs aG y j N[j]=⟨N[j].op,(-1),N[j].text,N[j].aE,N[j].aC⟩) Hj<|show N[j].text.size<=1048576 from zB (ok _<|zI o).2.1 Ob;exact⟨_,_,_,_,_,_,Hs,M,e1,e2,e3⟩
  .have F:=Ab e;have a4:(y/3%10==0)=jI:=zA.2 Oa;have bd:(y/3%10==1)=jI:=zA.2 Oa;have r2:(y/3%10==2)=jG:=zD.2 e;clear e;have D:=Ar f<|jC #[T U N[j].op,T U<|wrap64<|N[j].num+1,jA N[j].text,X an (Y N[j].aE) l,X r (Y N[j].aC) z] 112;obtain⟨⟨av,aw,ax,ag,aQ⟩,d⟩:=Aa aH _ D;have al:=d<|j*5;have ao:=d<|j*5+1;have ap:=d<|j*5+2;have aq:=d<|j*5+3;have a5:=d<|j*5+4;clear d;go_wp2_with fail;refine K8 (v:=jS #[X (Z<|jB g1 0 jc) (Y N) c1,X x2 (Y S) c2]) O1 rfl ?_;obtain⟨M,e1,e2,e3⟩:=Aa bK _ _ _ (Hf:Gr zs aG y j N[j]=⟨N[j].op,(wrap64<|N[j].num+1),N[j].text,N[j].aE,N[j].aC⟩) Hj<|show N[j].text.size<=1048576 from zB (ok _<|zI o).2.1 Ob;exact⟨_,_,_,_,_,_,Hs,M,e1,e2,e3⟩
  .have F:=Ab e;have a4:(y/3%10==0)=jI:=zA.2 Oa;have bd:(y/3%10==1)=jI:=zA.2 Oa;have r2:(y/3%10==2)=jI:=zA.2 Oa;have r3:(y/3%10==3)=jG:=zD.2 e;clear e;have D:=Ar f<|jC #[T U N[j].op,T U N[j].num,jA<|N[j].text++(⟨#[97]⟩:M1),X an (Y N[j].aE) l,X r (Y N[j].aC) z] 112;obtain⟨⟨av,aw,ax,ag,aQ⟩,d⟩:=Aa aH _ D;have al:=d<|j*5;have ao:=d<|j*5+1;have ap:=d<|j*5+2;have aq:=d<|j*5+3;have a5:=d<|j*5+4;clear d;have dN:N[j].text.size<=1000000:=(ok _<|zI o).2.1;have dO:¬ (9223372036854775807<N[j].text.size+1):=Oa;go_wp2_with fail;refine K8 (v:=jS #[X (Z<|jB g1 0 jc) (Y N) c1,X x2 (Y S) c2]) O1 rfl ?_;obtain⟨M,e1,e2,e3⟩:=Aa bK _ _ _ (Hf:Gr zs aG y j N[j]=⟨N[j].op,N[j].num,(N[j].text++(⟨#[97]⟩:M1)),N[j].aE,N[j].aC⟩) Hj (by show _<=_;rw[ByteArray.size_append];have:(⟨#[97]⟩:M1).size=1:=rfl;omega);exact⟨_,_,_,_,_,_,Hs,M,e1,e2,e3⟩
  .have F:=Ab e;have a4:(y/3%10==0)=jI:=zA.2 Oa;have bd:(y/3%10==1)=jI:=zA.2 Oa;have r2:(y/3%10==2)=jI:=zA.2 Oa;have r3:(y/3%10==3)=jI:=zA.2 Oa;have bM:(y/3%10==4)=jG:=zD.2 e;clear e;have D:=Ar f<|jC #[T U N[j].op,T U N[j].num,jA N[j].text,X an (Y N[j].aE) l,X r (Y N[j].aC) z] 112;have ah:=Ah.new f #[T U N[j].op,T U N[j].num,jA N[j].text,X an (Y N[j].aE) l,X r (Y N[j].aC) z] 112;have L:=J.aI (D.mono J.size) NLN;have aA:=ok _<|zI o;have bt:=J.size;have bf:=Gt (Aa W) (Aa aK) L;have cF:=cC.aB D cC.lt;have cG:AY (jK f<|jC #[T U N[j].op,T U N[j].num,jA N[j].text,X an (Y N[j].aE) l,X r (Y N[j].aC) z] 112) lo an N[j].aE l:=⟨by have h:=bf.aE j o aJ;rw[Aa aP]at h;exact h,aA.2.2.2.2.1⟩;clear bf;go_wp2_with fail;refine(Of R a n c zs aG lo an N[j].aE l _ cF cG aA.2.2.2.1).mono ?_;rintro af ac ⟨x6,ad,aX,dp,rfl,dq,dP,cH,dr,cl⟩;dsimp only;have ae:∀q,jh (Q w)<=q->q<=jh (Q f)->(Q ac)[q]?=(Q<|jK f<|jC #[T U N[j].op,T U N[j].num,jA N[j].text,X an (Y N[j].aE) l,X r (Y N[j].aC) z] 112)[q]?:=λq h1 h2=>cl.block q Od<|.inr Oa;have a6:=L.trans cl;have ds:=Ab cH;have dt:=Ab dq;clear cl dr cF cG cH;have I:Ah ac (jh<|Q f) #[T U N[j].op,T U N[j].num,jA N[j].text,X an (Y N[j].aE) l,X r (Y N[j].aC) z] 112:=⟨(ae _ Oa Oa).trans ah.out⟩;have bo:=I.cell 0;have s1:=I.cell 1;have s2:=I.cell 2;have bX:=I.cell 3;have cm:=I.cell 4;have cI:=I.frozen 3;have cJ:=(G.lt g1 rfl).2;have aR:jP (jM ac ⟨jh<|Q f,3,jc⟩<|X x6 (Y aX) ad) (jh<|Q w) 112 5 (X (Z<|jB g1 0 jc) (Y N) c1) (Y N)<|Fy N ai aj:=Ac G (λq hq=>by have h:=G.lt q hq;exact((L2 _ _ q _ S9).trans<|ae q Oa Oa).trans (D.block q h.2));have bg:jP (jM ac ⟨jh<|Q f,3,jc⟩<|X x6 (Y aX) ad) (jh<|Q bR) 97 4 (X x2 (Y S) c2) (Y S)<|Bg S:=Ac H (λq hq=>by have h:=H.lt q hq;have h2:=aa.size;exact((L2 _ _ q _ S9).trans<|ae q Oa Oa).trans (D.block q h.2));have ab:=a6.aI ((Below.refl (jh<|Q w) ac).setCell (p:=⟨jh<|Q f,3,jc⟩) bt<|X x6 (Y aX) ad) NLN;obtain⟨av,aw,ax,ag,aQ,d⟩:=Rb aR j o aJ az;rw[Aa aP]at ag;rw[Aa aW]at aQ;have al:=d<|j*5;have ao:=d<|j*5+1;have ap:=d<|j*5+2;have aq:=d<|j*5+3;have a5:=d<|j*5+4;have aS:=Ab<|L7 ab<|L7 aR bg;have cL:=Ab ae;clear d I ah D aR bg ab a6 L ae;go_wp2_with fail;refine K8 (v:=jS #[X (Z<|jB g1 0 jc) (Y N) c1,X x2 (Y S) c2]) O1 rfl ?_;have bm:Gr zs aG y j N[j]=⟨N[j].op,N[j].num,N[j].text,aX,N[j].aC⟩:=by unfold Gr;simp[Aa F,show(Eb zs aG N[j].aE).1=aX from by rw[show Eb zs aG N[j].aE=(aX,dp)from Aa dt]]
   obtain⟨e1,e2,e3⟩:=Ra (Aa W) ok aZ bh ar (Aa aK) (Aa aS).1 (Aa aS).2.1 NLN (Aa aS).2.2 aa.size a0 j o ⟨N[j].op,N[j].num,N[j].text,aX,N[j].aC⟩ (X x6 (Y aX) ad) (X r (Y N[j].aC) z) (show N[j].text.size<=1048576 from zB aA.2.1 Ob) (λV bl K=>by have h:=Agq K ok j o aJ az N[j].op N[j].num N[j].text aX x6 ad ((Aa ds).high λq hq bN=>by simp at hq;rw[bl q Oa (.inr Oa)<|by rw[Re];simpa using bN,Rf Oa];exact L2 _ _ q _ S9);rw[Aa aW]at h;exact h);exact⟨N.set j ⟨N[j].op,N[j].num,N[j].text,aX,N[j].aC⟩,S,Z<|jB g1 0 jc,c1,x2,c2,Hs,Ab S4,e1,e2,e3⟩
  .have F:=Ab e;have a4:(y/3%10==0)=jI:=zA.2 Oa;have bd:(y/3%10==1)=jI:=zA.2 Oa;have r2:(y/3%10==2)=jI:=zA.2 Oa;have r3:(y/3%10==3)=jI:=zA.2 Oa;have bM:(y/3%10==4)=jI:=zA.2 Oa;have b1:(y/3%10==5)=jG:=zD.2 e;clear e;have D:=Ar f<|jC #[T U N[j].op,T U N[j].num,jA N[j].text,X an (Y N[j].aE) l,X r (Y N[j].aC) z] 112;have ah:=Ah.new f #[T U N[j].op,T U N[j].num,jA N[j].text,X an (Y N[j].aE) l,X r (Y N[j].aC) z] 112;have L:=J.aI (D.mono J.size) NLN;have aA:=ok _<|zI o;have bt:=J.size;have bf:=Gt (Aa W) (Aa aK) L;have dQ:IntKind.i64.wrap ((j:Int)-1)=(j:Int)-1:=by simp[IntKind.wrap,IntKind.bits,IntKind.signed];omega
   have bu:BN (jK f<|jC #[T U N[j].op,T U N[j].num,jA N[j].text,X an (Y N[j].aE) l,X r (Y N[j].aC) z] 112) r (Y N[j].aC) z N[j].aC:=by have h:=bf.aC j o az;rw[Aa aW]at h;exact Bh h rfl (G7 aA.2.2.2.2.2)
   clear bf;have cM:=bu.below ((Below.refl (jh<|Q<|jK f<|jC #[T U N[j].op,T U N[j].num,jA N[j].text,X an (Y N[j].aE) l,X r (Y N[j].aC) z] 112)<|jK f<|jC #[T U N[j].op,T U N[j].num,jA N[j].text,X an (Y N[j].aE) l,X r (Y N[j].aC) z] 112).alloc NLN<|jC #[T U<|(j:Int)-1] 3) NLN;have co:=Oi (jK f<|jC #[T U N[j].op,T U N[j].num,jA N[j].text,X an (Y N[j].aE) l,X r (Y N[j].aC) z] 112) [(j:Int)-1] #[T U<|(j:Int)-1] 1 rfl rfl Ob;simp only[K6]at co;have du:=aA.2.2.2.2.2;go_wp2_with (at_builtin;refine DZ rfl _ _ rfl (jh (Q f)+1) (X (Z ⟨jh (Q f)+1,0,jc⟩) 1 1) 1 _ rfl co r (Y N[j].aC) z N[j].aC rfl cM Oa Oz ?_);intro cN ac bv bw;obtain⟨x6,ad,cp,-⟩:=Af bv;subst cp;have ae:∀q,jh (Q w)<=q->q<=jh (Q f)->(Q ac)[q]?=(Q<|jK f<|jC #[T U N[j].op,T U N[j].num,jA N[j].text,X an (Y N[j].aE) l,X r (Y N[j].aC) z] 112)[q]?:=λq h1 h2=>(bw.block q Oa).trans<|((Below.refl (jh<|Q<|jK f<|jC #[T U N[j].op,T U N[j].num,jA N[j].text,X an (Y N[j].aE) l,X r (Y N[j].aC) z] 112)<|jK f<|jC #[T U N[j].op,T U N[j].num,jA N[j].text,X an (Y N[j].aE) l,X r (Y N[j].aC) z] 112).alloc NLN<|jC #[T U<|(j:Int)-1] 3).block q Od;have a6:=(L.aI (((Below.refl (jh<|Q<|jK f<|jC #[T U N[j].op,T U N[j].num,jA N[j].text,X an (Y N[j].aE) l,X r (Y N[j].aC) z] 112)<|jK f<|jC #[T U N[j].op,T U N[j].num,jA N[j].text,X an (Y N[j].aE) l,X r (Y N[j].aC) z] 112).alloc NLN<|jC #[T U<|(j:Int)-1] 3).mono (Od:jh (Q w)<=_)) NLN).aI (bw.mono (Oa:jh (Q w)<=_)) NLN;have aY:=Ab bv;clear bu cM co bw bv;have I:Ah ac (jh<|Q f) #[T U N[j].op,T U N[j].num,jA N[j].text,X an (Y N[j].aE) l,X r (Y N[j].aC) z] 112:=⟨(ae _ Oa Oa).trans ah.out⟩;have bo:=I.cell 0;have s1:=I.cell 1;have s2:=I.cell 2;have bX:=I.cell 3;have cm:=I.cell 4;have cI:=I.frozen 4;have cJ:=(G.lt g1 rfl).2;have aR:jP (jM ac ⟨jh<|Q f,4,jc⟩<|X x6 (1+Y N[j].aC) ad) (jh<|Q w) 112 5 (X (Z<|jB g1 0 jc) (Y N) c1) (Y N)<|Fy N ai aj:=Ac G (λq hq=>by have h:=G.lt q hq;exact((L2 _ _ q _ S9).trans<|ae q Oa Oa).trans (D.block q h.2));have bg:jP (jM ac ⟨jh<|Q f,4,jc⟩<|X x6 (1+Y N[j].aC) ad) (jh<|Q bR) 97 4 (X x2 (Y S) c2) (Y S)<|Bg S:=Ac H (λq hq=>by have h:=H.lt q hq;have h2:=aa.size;exact((L2 _ _ q _ S9).trans<|ae q Oa Oa).trans (D.block q h.2));have ab:=a6.aI ((Below.refl (jh<|Q w) ac).setCell (p:=⟨jh<|Q f,4,jc⟩) bt<|X x6 (1+Y N[j].aC) ad) NLN;obtain⟨av,aw,ax,ag,aQ,d⟩:=Rb aR j o aJ az;rw[Aa aP]at ag;rw[Aa aW]at aQ;have al:=d<|j*5;have ao:=d<|j*5+1;have ap:=d<|j*5+2;have aq:=d<|j*5+3;have a5:=d<|j*5+4;have aS:=Ab<|L7 ab<|L7 aR bg;have cL:=Ab ae;clear d I ah D aR bg ab a6 L ae;go_wp2_with fail;refine K8 (v:=jS #[X (Z<|jB g1 0 jc) (Y N) c1,X x2 (Y S) c2]) O1 rfl ?_;have bm:Gr zs aG y j N[j]=⟨N[j].op,N[j].num,N[j].text,N[j].aE,((j:Int)-1)::N[j].aC⟩:=Hf;obtain⟨e1,e2,e3⟩:=Ra (Aa W) ok aZ bh ar (Aa aK) (Aa aS).1 (Aa aS).2.1 NLN (Aa aS).2.2 aa.size a0 j o ⟨N[j].op,N[j].num,N[j].text,N[j].aE,((j:Int)-1)::N[j].aC⟩ (X an (Y N[j].aE) l) (X x6 (1+Y N[j].aC) ad) (show N[j].text.size<=1048576 from zB aA.2.1 Ob) (λV bl K=>by have h:=Acv K ok j o aJ az N[j].op N[j].num N[j].text (((j:Int)-1)::N[j].aC) x6 ad (1+Y N[j].aC) Od (Ac (Aa aY) λq hq=>by have bN:=((Aa aY).lt q hq).2;have hq:=((Aa aY).lt q hq).1;rw[bl q Oa (.inr Oa)<|by rw[Re];simpa using bN,Rf Oa];exact L2 _ _ q _ S9) Od;rw[Aa aP]at h;exact h);exact⟨N.set j ⟨N[j].op,N[j].num,N[j].text,N[j].aE,((j:Int)-1)::N[j].aC⟩,S,Z<|jB g1 0 jc,c1,x2,c2,Hs,Ab S4,e1,e2,e3⟩
  .have F:=Ab e;have a4:(y/3%10==0)=jI:=zA.2 Oa;have bd:(y/3%10==1)=jI:=zA.2 Oa;have r2:(y/3%10==2)=jI:=zA.2 Oa;have r3:(y/3%10==3)=jI:=zA.2 Oa;have bM:(y/3%10==4)=jI:=zA.2 Oa;have b1:(y/3%10==5)=jI:=zA.2 Oa;have cq:(y/3%10==6)=jG:=zD.2 e;clear e;have D:=Ar f<|jC #[T U N[j].op,T U N[j].num,jA N[j].text,X an (Y N[j].aE) l,X r (Y N[j].aC) z] 112;have ah:=Ah.new f #[T U N[j].op,T U N[j].num,jA N[j].text,X an (Y N[j].aE) l,X r (Y N[j].aC) z] 112;have L:=J.aI (D.mono J.size) NLN;have aA:=ok _<|zI o;have bt:=J.size;have bf:=Gt (Aa W) (Aa aK) L;have bu:BN (jK f<|jC #[T U N[j].op,T U N[j].num,jA N[j].text,X an (Y N[j].aE) l,X r (Y N[j].aC) z] 112) r (Y N[j].aC) z N[j].aC:=by have h:=bf.aC j o az;rw[Aa aW]at h;exact Bh h rfl (G7 aA.2.2.2.2.2)
   clear bf;have du:=aA.2.2.2.2.2;go_wp2_with fail;have dv:jh (Q f)+1<=jh (Q<|jK f<|jC #[T U N[j].op,T U N[j].num,jA N[j].text,X an (Y N[j].aE) l,X r (Y N[j].aC) z] 112):=Oz;generalize cO:jK f (jC #[T U N[j].op,T U N[j].num,jA N[j].text,X an (Y N[j].aE) l,X r (Y N[j].aC) z] 112)=bx at bu L ah D dv|-;have dR:=Ab cO;clear cO;have dw:=Ab aA;clear aA;have cP:=Ab bu;clear bu;try simp only[cb]
   clear cb;go_loopw[14,149] (λv i wr=>∃ (q:Nat),q<=Y N[j].aC/\i=T U q/\jP wr (jh<|Q bx) 3 1 v q (Ap<|(N[j].aC.take q).map λk=>wrap64<|k-1)/\Ak bx wr) (λ_ i _=>Y N[j].aC-(intOf i).toNat);case atStart=>exact⟨0,zH _,rfl,G8,BRN⟩
   obtain⟨q,hq,rfl,bz,bA⟩:=hrel;by_cases b2:q<Y N[j].aC
   .have dS:(q:Int)<(Y N[j].aC:Int):=Oa;obtain⟨dT,dU,dx,dV,dy⟩:=((Aa cP).below bA NLN).cells q b2;have cQ:=Ab (show(N[j].aC.take<|q+1).map (λk=>wrap64<|k-1)=(N[j].aC.take q).map (λk=>wrap64<|k-1)++[wrap64<|N[j].aC[q]-1]by rw[zY b2,zN];rfl);obtain⟨dz,dA,rfl,_⟩:=Af bz;subst dx;generalize N[j].aC[q]=bO at dy cQ;have dB:=bA.size;have cS:=Oi wr [wrap64<|bO-1] #[T U<|wrap64<|bO-1] 1 rfl rfl Ob;have cT:=Bh cS rfl Ob;have cU:=K7 bz<|jC #[T U<|wrap64<|bO-1] 3;have cV:=Ab b2;clear b2 cS;go_wp2_with (at_builtin;refine DZ rfl _ _ rfl (jh<|Q bx) (X dz q dA) q _ rfl cU (Z ⟨jh<|Q wr,0,jc⟩) 1 1 [wrap64<|bO-1] rfl cT Oa Od ?_);intro cN ac bv bw;have dC:=(bA.alloc dB<|jC #[T U<|wrap64<|bO-1] 3).trans bw;clear bw cU cT bz;have aY:=Ab (show jP ac (jh<|Q bx) 3 1 cN (q+1) (Ap<|(N[j].aC.take<|q+1).map λk=>wrap64<|k-1)by rw[Aa cQ];simpa[Ap]using bv);clear bv;go_wp2;go_roundw;case rel=>exact⟨q+1,Aa cV,O0,Aa aY,dC⟩
    have:=Aa cV;simp[intOf];omega
   have cW:q=Y N[j].aC:=Oa;have dW:¬ ((q:Int)<(Y N[j].aC:Int)):=Oa;obtain⟨x6,ad,cp,-⟩:=Af bz;subst cp;have aA:=Aa dw;have aY:=Ab (show jP wr (jh<|Q bx) 3 1 (X x6 (Y N[j].aC) ad) (Y N[j].aC) (Ap<|N[j].aC.map λk=>wrap64<|k-1)by have h:=bz;rw[cW,zq]at h;exact h);have ae:∀af,jh (Q w)<=af->af<=jh (Q f)->(Q wr)[af]?=(Q bx)[af]?:=λaf h1 h2=>bA.block af Oa;have a6:=L.aI (bA.mono (Oa:jh (Q w)<=_)) NLN;subst cW;clear bz bA hq cP;generalize wr=ac at aY ae a6|-;have I:Ah ac (jh<|Q f) #[T U N[j].op,T U N[j].num,jA N[j].text,X an (Y N[j].aE) l,X r (Y N[j].aC) z] 112:=⟨(ae _ Oa Oa).trans ah.out⟩;have bo:=I.cell 0;have s1:=I.cell 1;have s2:=I.cell 2;have bX:=I.cell 3;have cm:=I.cell 4;have cI:=I.frozen 4;have cJ:=(G.lt g1 rfl).2;have aR:jP (jM ac ⟨jh<|Q f,4,jc⟩<|X x6 (Y N[j].aC) ad) (jh<|Q w) 112 5 (X (Z<|jB g1 0 jc) (Y N) c1) (Y N)<|Fy N ai aj:=Ac G (λq hq=>by have h:=G.lt q hq;exact((L2 _ _ q _ S9).trans<|ae q Oa Oa).trans (D.block q h.2));have bg:jP (jM ac ⟨jh<|Q f,4,jc⟩<|X x6 (Y N[j].aC) ad) (jh<|Q bR) 97 4 (X x2 (Y S) c2) (Y S)<|Bg S:=Ac H (λq hq=>by have h:=H.lt q hq;have h2:=aa.size;exact((L2 _ _ q _ S9).trans<|ae q Oa Oa).trans (D.block q h.2));have ab:=a6.aI ((Below.refl (jh<|Q w) ac).setCell (p:=⟨jh<|Q f,4,jc⟩) bt<|X x6 (Y N[j].aC) ad) NLN;obtain⟨av,aw,ax,ag,aQ,d⟩:=Rb aR j o aJ az;rw[Aa aP]at ag;rw[Aa aW]at aQ;have al:=d<|j*5;have ao:=d<|j*5+1;have ap:=d<|j*5+2;have aq:=d<|j*5+3;have a5:=d<|j*5+4;have aS:=Ab<|L7 ab<|L7 aR bg;have cL:=Ab ae;clear d I ah D aR bg ab a6 L ae;go_wp2_with fail;refine K8 (v:=jS #[X (Z<|jB g1 0 jc) (Y N) c1,X x2 (Y S) c2]) O1 rfl ?_;have bm:Gr zs aG y j N[j]=⟨N[j].op,N[j].num,N[j].text,N[j].aE,N[j].aC.map λk=>wrap64<|k-1⟩:=Hf;obtain⟨e1,e2,e3⟩:=Ra (Aa W) ok aZ bh ar (Aa aK) (Aa aS).1 (Aa aS).2.1 NLN (Aa aS).2.2 aa.size a0 j o ⟨N[j].op,N[j].num,N[j].text,N[j].aE,N[j].aC.map λk=>wrap64<|k-1⟩ (X an (Y N[j].aE) l) (X x6 (Y N[j].aC) ad) (show N[j].text.size<=1048576 from zB aA.2.1 Ob) (λV bl K=>by have h:=Acv K ok j o aJ az N[j].op N[j].num N[j].text (N[j].aC.map λk=>wrap64<|k-1) x6 ad (Y N[j].aC) Oz (Ac (Aa aY) λq hq=>by have bN:=((Aa aY).lt q hq).2;have hq:=((Aa aY).lt q hq).1;rw[bl q Oa (.inr Oa)<|by rw[Re];simpa using bN,Rf Oa];exact L2 _ _ q _ S9) Od;rw[Aa aP]at h;exact h);exact⟨N.set j ⟨N[j].op,N[j].num,N[j].text,N[j].aE,N[j].aC.map λk=>wrap64<|k-1⟩,S,Z<|jB g1 0 jc,c1,x2,c2,Hs,Ab S4,e1,e2,e3⟩
  .have F:=Ab e;have a4:(y/3%10==0)=jI:=zA.2 Oa;have bd:(y/3%10==1)=jI:=zA.2 Oa;have r2:(y/3%10==2)=jI:=zA.2 Oa;have r3:(y/3%10==3)=jI:=zA.2 Oa;have bM:(y/3%10==4)=jI:=zA.2 Oa;have b1:(y/3%10==5)=jI:=zA.2 Oa;have cq:(y/3%10==6)=jI:=zA.2 Oa;have cX:(y/3%10==7)=jG:=zD.2 e;clear e;have D:=Ar f<|jC #[T U N[j].op,T U N[j].num,jA N[j].text,X an (Y N[j].aE) l,X jc 0 0] 112;obtain⟨⟨av,aw,ax,ag,aQ⟩,d⟩:=Aa aH _ D;have al:=d<|j*5;have ao:=d<|j*5+1;have ap:=d<|j*5+2;have aq:=d<|j*5+3;have a5:=d<|j*5+4;clear d;go_wp2_with fail;refine K8 (v:=jS #[X (Z<|jB g1 0 jc) (Y N) c1,X x2 (Y S) c2]) O1 rfl ?_;have bm:Gr zs aG y j N[j]=⟨N[j].op,N[j].num,N[j].text,N[j].aE,[]⟩:=Hf;obtain⟨e1,e2,e3⟩:=Ra (Aa W) ok aZ bh ar (Aa aK) (J.aI (D.mono J.size) NLN) (K7 G<|jC #[T U N[j].op,T U N[j].num,jA N[j].text,X an (Y N[j].aE) l,X jc 0 0] 112) NLN (K7 H<|jC #[T U N[j].op,T U N[j].num,jA N[j].text,X an (Y N[j].aE) l,X jc 0 0] 112) aa.size a0 j o ⟨N[j].op,N[j].num,N[j].text,N[j].aE,[]⟩ (X an (Y N[j].aE) l) (X jc 0 0) (show N[j].text.size<=1048576 from zB (ok _<|zI o).2.1 Ob) (λV bl K=>by have h:=Alc K ok j o aJ az (N[j].op) (N[j].num)<|N[j].text;rw[Aa aP]at h;exact h);exact⟨N.set j ⟨N[j].op,N[j].num,N[j].text,N[j].aE,[]⟩,S,Z<|jB g1 0 jc,c1,x2,c2,Hs,Ab S4,e1,e2,e3⟩
  .have F:=Ab e;have a4:(y/3%10==0)=jI:=zA.2 Oa;have bd:(y/3%10==1)=jI:=zA.2 Oa;have r2:(y/3%10==2)=jI:=zA.2 Oa;have r3:(y/3%10==3)=jI:=zA.2 Oa;have bM:(y/3%10==4)=jI:=zA.2 Oa;have b1:(y/3%10==5)=jI:=zA.2 Oa;have cq:(y/3%10==6)=jI:=zA.2 Oa;have cX:(y/3%10==7)=jI:=zA.2 Oa;have dD:(y/3%10==8)=jG:=zD.2 e;clear e;have D:=Ar f<|jC #[T U N[j].op,T U N[j].num,jA N[j].text,X an (Y N[j].aE) l,X r (Y N[j].aC) z] 112;have ah:=Ah.new f #[T U N[j].op,T U N[j].num,jA N[j].text,X an (Y N[j].aE) l,X r (Y N[j].aC) z] 112;have ba:=K7 G<|jC #[T U N[j].op,T U N[j].num,jA N[j].text,X an (Y N[j].aE) l,X r (Y N[j].aC) z] 112;have a9:=K7 H<|jC #[T U N[j].op,T U N[j].num,jA N[j].text,X an (Y N[j].aE) l,X r (Y N[j].aC) z] 112;have bb:=K7 ba<|jC #[T U N[j].op,T U N[j].num,jA N[j].text,X an (Y N[j].aE) l,X r (Y N[j].aC) z] 112;have aV:=K9<|Lz (jK f<|jC #[T U N[j].op,T U N[j].num,jA N[j].text,X an (Y N[j].aE) l,X r (Y N[j].aC) z] 112)<|jC #[T U N[j].op,T U N[j].num,jA N[j].text,X an (Y N[j].aE) l,X r (Y N[j].aC) z] 112;have dX:=G.lt g1 rfl;simp only[K6]at aV;have L:=J.aI (D.mono J.size) NLN;go_wp2_with (at_builtin;refine J6 _ rfl _ _ 23 rfl (jh<|Q w) 112 b5 (jL #[T U 0,T U 0,jA jX,X jc 0 0,X jc 0 0]) 5 80 underlying23 b6 b7 b8 b9 rfl Ob (X (Z<|jB g1 0 jc) (Y N) c1) (Y N) (Fy N ai aj) rfl bb ⟨jh (Q f)+1,0,jc⟩ 1 1 [T U N[j].op,T U N[j].num,jA N[j].text,X an (Y N[j].aE) l,X r (Y N[j].aC) z] rfl rfl aV (by intro u hu;simp at hu;obtain rfl|rfl|rfl|rfl|rfl:=hu<;>rfl) Ob O3 Oa Od _ rfl ?_);intro g7 c7 bs E P hat bH;have gk:=Au P;have aO:Ah bs (jh<|Q f) #[T U N[j].op,T U N[j].num,jA N[j].text,X an (Y N[j].aE) l,X r (Y N[j].aC) z] 112:=⟨(gk _ ah.lt<|by simp[jO];omega).trans ah.out⟩;have bo:=aO.cell 0;have s1:=aO.cell 1;have s2:=aO.cell 2;have bX:=aO.cell 3;have cm:=aO.cell 4;have bJ:=Ac a9 λq hq=>gk q (a9.lt q hq).2 λe=>Ao a9 ba Ob q hq e;have ab:=L.aI (((Below.refl (jh<|Q w)<|jK f<|jC #[T U N[j].op,T U N[j].num,jA N[j].text,X an (Y N[j].aE) l,X r (Y N[j].aC) z] 112).alloc L.size<|jC #[T U N[j].op,T U N[j].num,jA N[j].text,X an (Y N[j].aE) l,X r (Y N[j].aC) z] 112).grown P (by have:=L.size;simp at this|-;omega) λq hq=>(G.lt q hq).1) NLN;have bI:Fy N ai aj++[T U N[j].op,T U N[j].num,jA N[j].text,X an (Y N[j].aE) l,X r (Y N[j].aC) z]=Fy (N++[N[j]]) (ai++[ai[j]]) (aj++[aj[j]]):=by rw[MT N ai aj N[j] ai[j] aj[j] (Aa W).len (Aa W).bL,NM,Aa aP,Aa aW]
   rw[bI]at E;have bY:j<Y (N++[N[j]]):=Od;have ay:=LH (N++[N[j]]) (ai++[ai[j]]) (aj++[aj[j]]) j bY Od Od;rw[zg o,zg aJ,zg az]at ay;have u0:=ay 0 Ob;have u1:=ay 1 Ob;have u2:=ay 2 Ob;have u3:=ay 3 Ob;have u4:=ay 4 Ob;simp only[NM,ze,yA,z5]at u0 u1 u2 u3 u4;have db:=(E.cellAt (j*5) Oa).trans u0;have dc:=(E.cellAt (j*5+1) Oa).trans u1;have dd:=(E.cellAt (j*5+2) Oa).trans u2;have bn:=((E.cellAt (j*5+3) Oa).trans u3).trans<|congrArg Z<|Aa aP;have bC:=((E.cellAt (j*5+4) Oa).trans u4).trans<|congrArg Z<|Aa aW;have al:=E.frozenAt<|j*5;have ao:=E.frozenAt<|j*5+1;have ap:=E.frozenAt<|j*5+2;have aq:=E.frozenAt<|j*5+3;have a5:=E.frozenAt<|j*5+4;have de:(j:Int)<(Y N:Int)+1:=Oa;have ch:=Ab E;have bc:=Ab<|L7 bJ ab;clear E bJ ab L aO gk P hat bH bb aV a9 ba ah D ay u0 u1 u2 u3 u4 bI;go_wp2_with fail;refine K8 (v:=jS #[X (Z<|jB g7 0 jc) (Y N+1) c7,X x2 (Y S) c2]) O1 rfl ?_;have bZ:Y N+1=Y (N++[N[j]]):=Oz;obtain⟨e1,e2,e3⟩:=Ajd (Aa W) ok aZ bh ar (Aa aK) (Aa bc).2 j o aJ az (Aa ch) NLN (Aa bc).1 aa.size a0;rw[Aa aP,Aa aW]at e1 e2 e3;exact⟨N++[N[j]],S,Z<|jB g7 0 jc,c7,x2,c2,by rw[bZ],Ab<|Aje (Aa a1) (Aa a2) (Aa aT) (Aa a3) o<|Aa F,e1,e2,e3⟩
  have F:=Ab e;have a4:(y/3%10==0)=jI:=zA.2 Oa;have bd:(y/3%10==1)=jI:=zA.2 Oa;have r2:(y/3%10==2)=jI:=zA.2 Oa;have r3:(y/3%10==3)=jI:=zA.2 Oa;have bM:(y/3%10==4)=jI:=zA.2 Oa;have b1:(y/3%10==5)=jI:=zA.2 Oa;have cq:(y/3%10==6)=jI:=zA.2 Oa;have cX:(y/3%10==7)=jI:=zA.2 Oa;have dD:(y/3%10==8)=jI:=zA.2 Oa;clear e;have D:=Ar f<|jC #[T U N[j].op,T U N[j].num,jA ⟨#[116,104,101,110]⟩,X an (Y N[j].aE) l,X r (Y N[j].aC) z] 112;obtain⟨⟨av,aw,ax,ag,aQ⟩,d⟩:=Aa aH _ D;have al:=d<|j*5;have ao:=d<|j*5+1;have ap:=d<|j*5+2;have aq:=d<|j*5+3;have a5:=d<|j*5+4;clear d;go_wp2_with fail;refine K8 (v:=jS #[X (Z<|jB g1 0 jc) (Y N) c1,X x2 (Y S) c2]) O1 rfl ?_;obtain⟨M,e1,e2,e3⟩:=Aa bK _ _ _ (Hf:Gr zs aG y j N[j]=⟨N[j].op,N[j].num,⟨#[116,104,101,110]⟩,N[j].aE,N[j].aC⟩) Hj (by show _<=_;simp[ByteArray.size]);exact⟨_,_,_,_,_,_,Hs,M,e1,e2,e3⟩
set_option maxHeartbeats 12800000
def LmI(B R gb pb b0 s d:Nat)(w:jD)(vi:jF)(wr:jD):Prop:=∃ (p:Nat) (N:M7) (nd:jF) (S:Nz) (sv:jF),vi=ja U ((Y S:Int)+1)/\IR B R gb V 0 0 [] jI p N [] nd (X V 0 0) wr/\PgO wr B pb S sv/\Ah wr b0 #[X V 0 0,X V 0 0] 45/\Y S+1<=s/\Y N<=65*Y S/\Hid (Y N=Y S*d)/\Hid (∀q M T,Q7 d (s-1-Y S) p N S q M T->Q7 d (s-1) 0 [] [] q M T)/\Below B w wr
def Uw(k s d:Nat):Prop:=(k<=1/\s=600+k/\d=1)\/(2<=k/\k<=3/\s=2/\d=62+k)\/(4<=k/\k<=5/\s=63/\d=64)
theorem Ad1{d s p:Nat}{a:M7}(h:Tp [] [] d p N b a)(hs:Y S+1<s){q:Nat}{M:M7}{T:Nz}(c:Q7 d (s-1-Y (S++[(⟨2,⟨#[]⟩,Dn a,-1⟩:St)])) b a (S++[⟨2,⟨#[]⟩,Dn a,-1⟩]) q M T):Q7 d (s-1-Y S) p N S q M T:=by obtain⟨j,f⟩:∃j,s-1-Y S=j+1:=⟨s-1-Y S-1,Oa⟩;rw[f];refine⟨b,a,h,?_⟩;rw[show s-1-Y (S++[(⟨2,⟨#[]⟩,Dn a,-1⟩:St)])=j by rw[zC,yF];omega]at c;exact c
theorem Ai8(k:Nat)(bB:k<=5)(w:jD):Calls jZ 38 #[ja U (k:Int)] w λaW w'=>(∃nd aX N S ar au,aW=jN (jL #[nd,aX])/\Hid (VJ k N S)/\BO w' (R<|Q w) nd N ar au/\jP w' (R<|Q w) 97 4 aX (Y S) (Bg S)/\(∀x∈N,Wv x)/\(∀s∈S,s.name.size<=1048576)/\Y N<=100000/\Y S<=700)/\Ak w w':=by
 obtain⟨B,hB⟩:∃B,B=R (Q w):=⟨_,rfl⟩;obtain⟨s,hs⟩:∃s,s=Ak7 k:=⟨_,rfl⟩;obtain⟨d,hd⟩:∃d,d=Ak8 k:=⟨_,rfl⟩;have bj:=Ab hs;have bk:=Ab hd;have i:Hid<|Uw k s d:=Ab (by
  unfold Uw Ak7 Ak8 at*;split at hs
  .rename_i c;rw[if_pos c]at hd;exact .inl ⟨c,hs,hd⟩
  rename_i c;rw[if_neg c]at hd;split at hs
  .rename_i c2;rw[if_pos c2]at hd;exact .inr<|.inl ⟨Oa,c2,hs,hd⟩
  rename_i c2;rw[if_neg c2]at hd;exact .inr<|.inr ⟨Oa,bB,hs,hd⟩);clear hs hd;have aY:=Ar w<|jC #[X V 0 0,X V 0 0] 45;have aZ:=aY.alloc aY.size<|jC #[X V 0 0,ja U 0] 78;have a0:=aZ.alloc aZ.size<|jC #[jQ<|Z ⟨R (Q w)+1,0,V⟩,X V 0 0,X V 0 0,.bool jI] 151;have aN:=a0.alloc a0.size<|jC #[X V 0 0,X V 0 0] 45;have a3:=(((Ah.new w #[X V 0 0,X V 0 0] 45).alloc<|jC #[X V 0 0,ja U 0] 78).alloc<|jC #[jQ<|Z ⟨R (Q w)+1,0,V⟩,X V 0 0,X V 0 0,.bool jI] 151).alloc<|jC #[X V 0 0,X V 0 0] 45;have aO:=((Ah.new (jK w<|jC #[X V 0 0,X V 0 0] 45) #[X V 0 0,ja U 0] 78).alloc<|jC #[jQ<|Z ⟨R (Q w)+1,0,V⟩,X V 0 0,X V 0 0,.bool jI] 151).alloc<|jC #[X V 0 0,X V 0 0] 45;have aQ:=(Ah.new (jK (jK w<|jC #[X V 0 0,X V 0 0] 45)<|jC #[X V 0 0,ja U 0] 78) #[jQ<|Z ⟨R (Q w)+1,0,V⟩,X V 0 0,X V 0 0,.bool jI] 151).alloc<|jC #[X V 0 0,X V 0 0] 45;have aR:=Ah.new (jK (jK (jK w<|jC #[X V 0 0,X V 0 0] 45)<|jC #[X V 0 0,ja U 0] 78)<|jC #[jQ<|Z ⟨R (Q w)+1,0,V⟩,X V 0 0,X V 0 0,.bool jI] 151) #[X V 0 0,X V 0 0] 45;simp only[World.size_alloc]at aO aQ aR;have bC:=Ab aN;have bD:k=0\/k=1\/k=2\/k=3\/4<=k:=Oa;obtain e|e|e|e|e:=bD;all_goals
  first|have bl:((k:Int)==0)=jG:=zD.2 Oa|have bl:((k:Int)==0)=jI:=zA.2 Oa
  first|have bm:((k:Int)==1)=jG:=zD.2 Oa|have bm:((k:Int)==1)=jI:=zA.2 Oa
  first|have bn:((k:Int)==2)=jG:=zD.2 Oa|have bn:((k:Int)==2)=jI:=zA.2 Oa
  first|have bo:((k:Int)==3)=jG:=zD.2 Oa|have bo:((k:Int)==3)=jI:=zA.2 Oa
  have l:=Ab e;clear e;go_enter func38,ntmps38;go_wp2_with fail;generalize jK (jK (jK (jK w (jC #[X V 0 0,X V 0 0] 45)) (jC #[X V 0 0,ja U 0] 78)) (jC #[jQ (Z ⟨R (Q w)+1,0,V⟩),X V 0 0,X V 0 0,.bool jI] 151)) (jC #[X V 0 0,X V 0 0] 45)=bE at aN a3 aO aQ aR|-;clear aY aZ a0 bC bl bm bn bo;have bp:=Ab (show LmI (R (Q w)) (R (Q w)+1) (R (Q w)+1+1) (R (Q w)+1+1+1) (R (Q w)) s d w (ja U 1) bE from⟨0,[],_,[],_,rfl,⟨[],[],⟨aQ,⟨aO,rfl,NLN,Oa,λj O=>absurd O Oa⟩,BO.nil _ _,World.ownsRow_nil _ _ _ _,⟨⟨Oa,Oa⟩,λh=>absurd h Oa⟩,(λx hx=>Q4),(λx hx=>Q4)⟩⟩,⟨aR,World.ownsRow_nil _ _ _ _,λs hs=>by cases hs⟩,a3,by have:=Aa i;unfold Uw at this;simp;omega,Oz,Ab Oz,Ab λq M T h=>h,aN⟩);clear a3 aO aQ aR aN;go_loopw[7] (λa4 wr=>LmI (R<|Q w) (R (Q w)+1) (R (Q w)+1+1) (R (Q w)+1+1+1) (R<|Q w) s d w a4 wr) (λa4 _=>s-(intOf a4).toNat);case atStart=>exact Aa bp
  clear bp;obtain⟨p,N,nd,S,aX,rfl,F,o,ao,s1,b2,bq,a5,P⟩:=hrel;obtain⟨ap,cs,bF,-⟩:=Af o.st;have a6:=o.row.cell 1;subst bF;by_cases O:Y S+1<s
  .first|have bG:(Y S:Int)+1<600+(k:Int):=O2|skip
   first|have bH:(Y S:Int)+1<2:=O2|skip
   first|have bI:(Y S:Int)+1<63:=O2|skip
   go_wp2_with fail;have H:=F.below<|EG wr;have av:=o.below<|EG wr;have aw:=ao.aB (EG wr) NLN;have ax:=P.trans<|(EG wr).mono P.size;have br:jE (jV wr) ⟨R (Q w)+1+1+1,1,V⟩=Z (X ap (Y S) cs):=a6;have r:=Ab<|(Q6 H Oa Oz d O2 O2).mono (R':=λe w'=>∃v,e=jN v/\∃I b y,v=ja U (Dn b)/\Hid (Tp [] [] d p N I b)/\Y b<=Y N+70/\IR (R<|Q w) (R (Q w)+1) (R (Q w)+1+1) V 0 0 [] jI I b [] y (X V 0 0) w'/\Gk (R<|Q w) (R (Q w)+1) (R (Q w)+1+1) (X V 0 0) nd (jV wr) y w') λaW w' ⟨q,a7,a8,e,x9,a1,a2,G,K⟩=>⟨_,e,q,a7,a8,rfl,x9,a2,G,K⟩;first|(have W:(d:Int)=1:=O2;rw[W]at r;have bJ:=r;clear r)|(have W:(d:Int)=64+(k:Int)-2:=O2;rw[W]at r;have bK:=r;clear r)|(have W:(d:Int)=64:=O2;rw[W]at r;have bL:=r;clear r)
   obtain⟨aa,ab,ac,ad,ae⟩:=info_parts IG;have ay:(Tryz.f78.name== "runtime.NumGoroutine")=jI:=Ok;have az:Tryz.f78.body.isNone=jI:=Ok;go_region_law (first|((first|refine Cc rfl 78 _ func78 ay az _ _ _ rfl (jQ<|Z ⟨R (Q w)+1+1,0,V⟩) (ja U 1) rfl rfl _ (Aa bJ) ?_|refine Cc rfl 78 _ func78 ay az _ _ _ rfl (jQ<|Z ⟨R (Q w)+1+1,0,V⟩) (ja U<|64+(k:Int)-2) rfl rfl _ (Aa bK) ?_|refine Cc rfl 78 _ func78 ay az _ _ _ rfl (jQ<|Z ⟨R (Q w)+1+1,0,V⟩) (ja U 64) rfl rfl _ (Aa bL) ?_);rintro bM aA ⟨I,b,y,rfl,aC,a2,af,J⟩;have a:=av.gk J H;have aD:=J.row H aw Ob Ob Ob Ob;have aE:=ax.trans J.aP;have aF:=World.ownsRow.alloc a.st<|jC #[ja U 2,jA ⟨#[]⟩,ja U<|Dn b,ja U<|-1] 97;have z:=World.news_of_block<|heap_alloc_new aA<|jC #[ja U 2,jA ⟨#[]⟩,ja U<|Dn b,ja U<|-1] 97;have bs:=af.lt.1.1;have aG:=a.row.cell 1;have r2:=(a.row.alloc<|jC #[ja U 2,jA ⟨#[]⟩,ja U<|Dn b,ja U<|-1] 97).cell 1)|(refine step_append_lies _ rfl _ _ 24 rfl (R<|Q w) 97 aa (jL #[ja U 0,jA jX,ja U 0,ja U 0]) 4 40 underlying24 ab ac ad ae rfl Ob (X ap (Y S) cs) (Y S) (Bg S) rfl aF ⟨R<|Q aA,0,V⟩ 1 1 [ja U 2,jA ⟨#[]⟩,ja U<|Dn b,ja U<|-1] rfl rfl z (by intro u hu;simp at hu;obtain rfl|rfl|rfl|rfl:=hu<;>rfl) Ob O3 Oa Od _ rfl ?_;intro aH aI aK A g hat ag;have m:Ah aK (R (Q w)+1+1+1) _ _:=⟨(Au g _ a.row.lt<|Ad a.row a.st Ob).trans a.row.out⟩;have aS:=m.cell 1;have aT:=m.frozen 1));all_goals
    obtain⟨C,f,n,t⟩:=VK af a aD aE Oa Oa (jC #[ja U 2,jA ⟨#[]⟩,ja U<|Dn b,ja U<|-1] 97) (nm:=⟨#[]⟩) Ob g A;have bN:=Ab<|show LmI (R<|Q w) (R (Q w)+1) (R (Q w)+1+1) (R (Q w)+1+1+1) (R<|Q w) s d w (ja U<|(Y S:Int)+1+1) (jM aK ⟨R (Q w)+1+1+1,1,V⟩<|X (Z<|jB aH 0 V) (Y S+1) aI)from⟨I,b,y,S++[⟨2,⟨#[]⟩,Dn b,-1⟩],_,Oz,C,f,n,Od,by have h5:=(Aa aC).len;have h6:=Aa i;unfold Uw at h6;simp;omega,Ab<|by rw[(Aa aC).len,Aa bq,zC,yF,Nat.succ_mul],Ab λq M T h=>Aa a5 q M T<|Ad1 (Aa aC) O h,t⟩;have bO:=Ab O;clear C f n t af J a aD aE aF z A g hat ag m aG r2 H av aw ax F o ao P O;go_wp2;go_roundw;case rel=>exact Aa bN
    have:=Aa bO;simp[intOf];omega
  have bt:=Ab O;first|have bG:¬ ((Y S:Int)+1<600+(k:Int)):=O2|skip
  first|have bH:¬ ((Y S:Int)+1<2):=O2|skip
  first|have bI:¬ ((Y S:Int)+1<63):=O2|skip
  have b3:Y S<=650:=O2;by_cases h3:3<k
  .try (exfalso;have h2:=Aa l;omega)
   all_goals
    have bu:Hid<|Y N=3968:=Ab (by rw[Aa bq,show Y S=62 from O2,show d=64 from O2]);have b4:Y N<=5000:=G7<|Aa bu;have bQ:(3:Int)<(k:Int):=Oa;have a9:=Ab h3;clear h3 O;obtain⟨ba,cn,bv,cl,aq,bb,bR,bw,-⟩:=F.cells;have gc:jE wr ⟨R (Q w)+1+1,1,V⟩=Z (X ba (Y N) cn):=by rw[<-aq];exact bw
    clear aq bb bR bw;go_wp2_with fail;have H:=F.below<|EG wr;have av:=o.below<|EG wr;have aw:=ao.aB (EG wr) NLN;have ax:=P.trans<|(EG wr).mono P.size;have br:jE (jV wr) ⟨R (Q w)+1+1+1,1,V⟩=Z (X ap (Y S) cs):=a6;have r:=Ab<|(Q6 H Oa Oz (28+k) O2 O2).mono (R':=λe w'=>∃v,e=jN v/\∃I b y,v=ja U (Dn b)/\Hid (Tp [] [] (28+k) p N I b)/\Y b<=Y N+70/\IR (R<|Q w) (R (Q w)+1) (R (Q w)+1+1) V 0 0 [] jI I b [] y (X V 0 0) w'/\Gk (R<|Q w) (R (Q w)+1) (R (Q w)+1+1) (X V 0 0) nd (jV wr) y w') λaW w' ⟨q,a7,a8,e,x9,a1,a2,G,K⟩=>⟨_,e,q,a7,a8,rfl,x9,a2,G,K⟩;have W:((28+k:Nat):Int)=4000-(Y N:Int)+(k:Int)-4:=G7<|Aa bu;rw[W]at r;clear W;obtain⟨aa,ab,ac,ad,ae⟩:=info_parts IG;have ay:(Tryz.f78.name== "runtime.NumGoroutine")=jI:=Ok;have az:Tryz.f78.body.isNone=jI:=Ok;go_region_law (first|((first|refine Cc rfl 78 _ func78 ay az _ _ _ rfl (jQ<|Z ⟨R (Q w)+1+1,0,V⟩) (ja U<|4000-(Y N:Int)+(k:Int)-4) rfl rfl _ (Aa r) ?_);rintro bM aA ⟨I,b,y,rfl,aC,a2,af,J⟩;have a:=av.gk J H;have aD:=J.row H aw Ob Ob Ob Ob;have aE:=ax.trans J.aP;have aF:=World.ownsRow.alloc a.st<|jC #[ja U 2,jA ⟨#[]⟩,ja U<|Dn b,ja U<|-1] 97;have z:=World.news_of_block<|heap_alloc_new aA<|jC #[ja U 2,jA ⟨#[]⟩,ja U<|Dn b,ja U<|-1] 97;have bs:=af.lt.1.1;have aG:=a.row.cell 1;have r2:=(a.row.alloc<|jC #[ja U 2,jA ⟨#[]⟩,ja U<|Dn b,ja U<|-1] 97).cell 1)|(refine step_append_lies _ rfl _ _ 24 rfl (R<|Q w) 97 aa (jL #[ja U 0,jA jX,ja U 0,ja U 0]) 4 40 underlying24 ab ac ad ae rfl Ob (X ap (Y S) cs) (Y S) (Bg S) rfl aF ⟨R<|Q aA,0,V⟩ 1 1 [ja U 2,jA ⟨#[]⟩,ja U<|Dn b,ja U<|-1] rfl rfl z (by intro u hu;simp at hu;obtain rfl|rfl|rfl|rfl:=hu<;>rfl) Ob O3 Oa Od _ rfl ?_;intro aH aI aK A g hat ag;have m:Ah aK (R (Q w)+1+1+1) _ _:=⟨(Au g _ a.row.lt<|Ad a.row a.st Ob).trans a.row.out⟩;have aS:=m.cell 1;have aT:=m.frozen 1));all_goals
     obtain⟨C,f,n,t⟩:=VK af a aD aE Oa Oa (jC #[ja U 2,jA ⟨#[]⟩,ja U<|Dn b,ja U<|-1] 97) (nm:=⟨#[]⟩) Ob g A;have bS:=aC;obtain⟨D,aU⟩:∃D:Nz,D=S++[⟨2,⟨#[]⟩,Dn b,-1⟩]:=⟨_,rfl⟩;have bx:Y S+1=Y D:=by rw[aU];simp
     rw[<-aU]at f;rw[bx]at C f n t|-;have bT:=Ab aU;have b5:Y D<=660:=Oa;have b6:Y b<=6000:=Oa;clear af J a aD aE aF z A g hat ag m aG r2 r H av aw ax F o ao P aS aT aU bx gc a6 br bs aa ab ac ad ae;generalize jM aK ⟨R (Q w)+1+1+1,1,V⟩ (X (Z (jB aH 0 V)) (Y D) aI)=bc at C f n t|-;have aV:=C;have ah:=f;have bz:=n;have bA:=t;clear C f n t;obtain⟨ba,cn,bv,cl,aq,bb,-⟩:=aV.cells;have bU:=ah.row.cell 1;have bV:=ah.row.frozen 1;have aL:=World.ownsRow.alloc ah.st<|jC #[ja U 3,jA ⟨#[]⟩,ja U<|-1,ja U<|-1] 97;have z:=World.news_of_block<|heap_alloc_new bc<|jC #[ja U 3,jA ⟨#[]⟩,ja U<|-1,ja U<|-1] 97;have bW:=aV.lt.1.1;obtain⟨aa,ab,ac,ad,ae⟩:=info_parts IG;have a:=ah.row;go_wp2_with (at_builtin;refine wpList_append_lies _ rfl _ _ 24 rfl (R<|Q w) 97 aa (jL #[ja U 0,jA jX,ja U 0,ja U 0]) 4 40 underlying24 ab ac ad ae rfl Ob (X (Z<|jB aH 0 V) (Y D) aI) (Y D) (Bg D) rfl aL.drew ⟨R<|Q bc,0,V⟩ 1 1 [ja U 3,jA ⟨#[]⟩,ja U<|-1,ja U<|-1] rfl rfl z (by intro u hu;simp at hu;obtain rfl|rfl|rfl|rfl:=hu<;>rfl) Ob O3 Oa Od _ rfl ?_);intro ga ca ai A g hat ag;have aj:(jK bc<|jC #[ja U 3,jA ⟨#[]⟩,ja U<|-1,ja U<|-1] 97).grownBy ai<|jO<|Value.slice (Z<|jB aH 0 V) (Y D) aI:=⟨g.os,g.tape,g.output,g.size,g.block⟩;have m:Ah ai (R (Q w)+1+1+1) _ _:=⟨(Au aj _ a.lt<|Ad a ah.st Ob).trans a.out⟩;have aS:=m.cell 1;have aT:=m.frozen 1;obtain⟨C,f,n,t⟩:=VK aV ah bz bA Oa Oa (jC #[ja U 3,jA ⟨#[]⟩,ja U<|-1,ja U<|-1] 97) (nm:=⟨#[]⟩) Ob aj A;clear m a A g hat ag aj aL z aV ah bz bA;obtain⟨ar,au,L⟩:=C;have bd:=Ab<|show VJ k b (D++[⟨3,⟨#[]⟩,-1,-1⟩])from⟨p,N,S,by rw[<-Aa bk,<-Aa bj];exact Aa a5 _ _ _<|by rw[show s-1-Y S=0 by have:=Aa bt;omega];exact⟨rfl,rfl,rfl⟩,by rw[if_pos<|Aa a9];exact⟨I,Aa bS,by rw[Aa bT]⟩⟩;have g1:jE (jM ai ⟨R (Q w)+1+1+1,1,V⟩<|X (Z<|jB ga 0 V) (Y D+1) ca) ⟨R (Q w)+1+1,1,V⟩=Z y:=L.row.cell 1;have ak:=f.row.set 0 y;have bX:=f.row.cell 0;have aG:=f.row.cell 1;have bY:=f.row.frozen 0;have E:=n.aJ (p:=⟨R (Q w)+1+1+1,0,V⟩) Od y;have r2:=ak.cell 0;have r3:=ak.cell 1;have bZ:=E.cell 0;have z1:=E.cell 1;have b0:=E.frozen 0;have b1:=E.frozen 1;have bf:=Ab<|VI L f n t Oa Oa;have al:=Ab<|And.intro L.bP.1<|And.intro f.bP (Oa:Y b<=100000);clear L f n t ak E;subst aq;go_wp2_with fail;obtain⟨bg,bh,aM,bi⟩:=Aa bf;exact bodyPost_ret (VH results38 rfl bg) rfl ⟨⟨_,_,b,_,ar,au,rfl,bd,bh,by rw[zC]at aM|-;exact aM,(Aa al).1,(Aa al).2.1,(Aa al).2.2,Od⟩,bi⟩
  have bQ:¬ ((3:Int)<(k:Int)):=Oa;have a9:=Ab h3;clear h3 O;obtain⟨ba,cn,bv,cl,aq,bb,-⟩:=F.cells;have bU:=o.row.cell 1;have bV:=o.row.frozen 1;have aL:=World.ownsRow.alloc o.st<|jC #[ja U 3,jA ⟨#[]⟩,ja U<|-1,ja U<|-1] 97;have z:=World.news_of_block<|heap_alloc_new wr<|jC #[ja U 3,jA ⟨#[]⟩,ja U<|-1,ja U<|-1] 97;have bW:=F.lt.1.1;obtain⟨aa,ab,ac,ad,ae⟩:=info_parts IG;have a:=o.row;go_wp2_with (at_builtin;refine wpList_append_lies _ rfl _ _ 24 rfl (R<|Q w) 97 aa (jL #[ja U 0,jA jX,ja U 0,ja U 0]) 4 40 underlying24 ab ac ad ae rfl Ob (X ap (Y S) cs) (Y S) (Bg S) rfl aL.drew ⟨R<|Q wr,0,V⟩ 1 1 [ja U 3,jA ⟨#[]⟩,ja U<|-1,ja U<|-1] rfl rfl z (by intro u hu;simp at hu;obtain rfl|rfl|rfl|rfl:=hu<;>rfl) Ob O3 Oa Od _ rfl ?_);intro ga ca ai A g hat ag;have aj:(jK wr<|jC #[ja U 3,jA ⟨#[]⟩,ja U<|-1,ja U<|-1] 97).grownBy ai<|jO<|Value.slice ap (Y S) cs:=⟨g.os,g.tape,g.output,g.size,g.block⟩;have m:Ah ai (R (Q w)+1+1+1) _ _:=⟨(Au aj _ a.lt<|Ad a o.st Ob).trans a.out⟩;have aS:=m.cell 1;have aT:=m.frozen 1;obtain⟨C,f,n,t⟩:=VK F o ao P Oa Oa (jC #[ja U 3,jA ⟨#[]⟩,ja U<|-1,ja U<|-1] 97) (nm:=⟨#[]⟩) Ob aj A;clear m a A g hat ag aj aL z F o ao P;obtain⟨ar,au,L⟩:=C;have bd:=Ab<|show VJ k N (S++[⟨3,⟨#[]⟩,-1,-1⟩])from⟨p,N,S,by rw[<-Aa bk,<-Aa bj];exact Aa a5 _ _ _<|by rw[show s-1-Y S=0 by have:=Aa bt;omega];exact⟨rfl,rfl,rfl⟩,by rw[if_neg<|Aa a9];exact⟨rfl,rfl⟩⟩;have g1:jE (jM ai ⟨R (Q w)+1+1+1,1,V⟩<|X (Z<|jB ga 0 V) (Y S+1) ca) ⟨R (Q w)+1+1,1,V⟩=Z nd:=L.row.cell 1;have ak:=f.row.set 0 nd;have bX:=f.row.cell 0;have aG:=f.row.cell 1;have bY:=f.row.frozen 0;have E:=n.aJ (p:=⟨R (Q w)+1+1+1,0,V⟩) Od nd;have r2:=ak.cell 0;have r3:=ak.cell 1;have bZ:=E.cell 0;have z1:=E.cell 1;have b0:=E.frozen 0;have b1:=E.frozen 1;have bf:=Ab<|VI L f n t Oa Oa;have al:=Ab<|And.intro L.bP.1<|And.intro f.bP (Oa:Y N<=100000);clear L f n t ak E;subst aq;go_wp2_with fail;obtain⟨bg,bh,aM,bi⟩:=Aa bf;exact bodyPost_ret (VH results38 rfl bg) rfl ⟨⟨_,_,N,_,ar,au,rfl,bd,bh,by rw[zC]at aM|-;exact aM,(Aa al).1,(Aa al).2.1,(Aa al).2.2,Od⟩,bi⟩
theorem Ki{ts:M4}{m:Int}:∀(e:Ex)(t:Int),An ts e=Z t->usE m e=jG->0<=m/\m.toNat<Y ts:=by intro e;induction e<;>intros<;>grind[An,usE]
theorem UJ{ts:M4}{m:Int}{g:N5}(h:Wy ts g)(hu:usO m g=jG):0<=m/\m.toNat<Y ts:=by cases g with|none=>cases hu|some e=>exact Ki e 4 h hu
theorem PS:∀(a:M9)(ts:M4),JD ts a->∀q∈Cj (Y ts:Nat) a,∀m,Ii m q.1=jG->(0<=m/\m.toNat<Y ts)\/m∈GH (Cj (Y ts:Nat) a)
 |[],_,_,q,hq,_,_=>by cases hq|x::a,ts,h,q,hq,m,hm=>by
  obtain⟨k,e,t,h1,h2,h3,h4⟩|⟨k,⟨e,h1,h2⟩,h3,h4⟩|⟨k,h1,h3,h4⟩:=h
  .have en:((Y ts:Nat):Int)+1=(Y (ts++[t]):Nat):=Oz;rw[Cj,K1 k,en]at hq|-;have b:=PS a (ts++[t]) h4;grind[usO,Ii,Jc,Ki]
  .rw[Cj,K0 Oa]at hq|-;rw[CP Oa];obtain e1|e1:=zS.1 hq
   .subst e1;rw[Ii,h1,Z0]at hm;exact .inl<|hm.elim (Ki e 1 h2)<|UJ h3
   exact PS a ts h4 q e1 m hm
  rw[Cj,K0 Oa]at hq|-;rw[CP Oa];obtain e1|e1:=zS.1 hq
  .subst e1;rw[Ii,h1,Z0]at hm;exact .inl<|hm.elim (λq=>by cases q)<|UJ h3
  exact PS a ts h4 q e1 m hm
theorem AaX:∀(a:M9)(n:Int),(∀m∈GH (Cj n a),n<=m)/\(GH<|Cj n a).Nodup
 |[],n=>⟨λm h=>O6,List.nodup_nil⟩|x::a,n=>by
  rw[Cj];by_cases k:x.aF=1
  .rw[K1 k];obtain⟨h1,h2⟩:=AaX a (n+1);grind[Jc]
  rw[K0 k,CP k];exact AaX a n
theorem AcE{e:Ex}(h:e.bQ=jG):e.aL=1:=by cases e<;>first|rfl|cases h
theorem VZ(e:Ex):1<=e.aL:=by cases e<;>simp[Ex.aL]<;>omega
theorem AjA(v:Vv):v.ex.aL=1:=by cases v<;>rfl
theorem Aeb(h:DE op x y=Z z):z.aL<=x.aL+y.aL:=by
 have hx:=VZ x;have hy:=VZ y;have MB:∀{z:Ex},z=x\/z=y->z.aL<=x.aL+y.aL:=λq=>q.elim (λe=>by rw[e];omega) (λe=>by rw[e];omega);have i:∀{z:Ex},(∃c,z=.bool 0 c)->z.aL<=x.aL+y.aL:=λ⟨c,e⟩=>by rw[e];simp[Ex.aL];omega
 by_cases a:op=25
 .subst a;exact MB<|Ei h
 by_cases b:op=26
 .subst b;exact MB<|Ei h
 by_cases d:op=16
 .subst d;exact MB<|Fw h
 by_cases f:op=17
 .subst f;exact MB<|H7 h
 by_cases g:op=18
 .subst g;obtain e|e:=Gw h;all_goals grind[Ex.aL]
 by_cases h11:op=11;all_goals grind[DE,Ja,Ko,DF,H9,EJ,Bn]
theorem UK{e c:Ex}(h:AM e=Z c):c.aL=1:=by grind[AM,AjA]
theorem AjB(e:Ex):(NN ls e).aL<=e.aL:=by unfold NN;cases hf:AM e with|some c=>rw[UK hf];exact VZ e|none=>cases a:AS ls e with|none=>grind|some c=>show c.aL<=e.aL;cases e with
     |lett i n=>
       rw[AS]at a;split at a
       .split at a
        .cases a;rename_i hc;rw[AcE hc];exact NLN
        cases a
       cases a|un i op k=>
       rw[AS]at a;split at a
       .cases k<;>grind[LS,Ex.aL]
       cases a|bin i op x y=>rw[AS]at a;have:=Aeb a;simp[Ex.aL];omega|ite i x y z=>grind[AS,Ex.aL]|_=>cases a
theorem AjC  :∀(e:Ex),(Cw ls e).aL<=e.aL:=by intro e;induction e<;>intros<;>grind[AjB,Cw,Ex.aL]
theorem Aln(left:M4):∀(e:Ex),(BV left e).aL=e.aL:=by intro e;induction e<;>intros<;>grind[Ex.aL,BV]
theorem AcF(o:N5):AQ (o.map<|Cw ls)<=AQ o:=by cases o with|none=>grind|some e=>exact AjC e
theorem AcG{l:M4}(o:N5):AQ (o.map<|BV l)=AQ o:=by cases o with|none=>rfl|some e=>exact Aln l e
theorem Yu:∀(a:M9)(ls:M8),CB (CY ls a)<=CB a|[],_=>NLN|x::a,ls=>by rw[CY,Bm,Bm];have h1:=AcF (ls:=ls) x.cond;have h2:=AcF (ls:=ls) x.aD;have h3:=Yu a<|KQ ls<|Ia ls x;show AQ (x.cond.map<|Cw ls)+AQ (x.aD.map<|Cw ls)+_<=_;omega
theorem AgW:∀(X:M9),CB (Bp X)<=CB X:=by intro X;induction X<;>intros<;>grind[Bp,Bm,AQ,CB]
theorem V7(l:M4):∀(a:M9)(n:Int),CB ((Cj n a).map λq=>FJ l q.1)<=CB a
 |[],_=>NLN|x::a,n=>by
  have b:∀(m:Int)(K:List<|Sx×Int),CB (((x,m)::K).map λq=>FJ l q.1)=AQ x.cond+AQ x.aD+CB (K.map λq=>FJ l q.1):=λm K=>by rw[List.map_cons,Bm];show AQ (x.cond.map<|BV l)+AQ (x.aD.map<|BV l)+_=_;rw[AcG,AcG]
  rw[Cj,Bm];split
  .have h:=V7 l a (n+1);grind
  have h:=V7 l a n;grind
theorem Ru(X:M9):CB (BU X)<=CB X:=zB (V7 _ _ 0) (zB (AgW _)<|Yu X [])
def gdV:Vv->Prop|.text s=>BM s=jG|.set ss=>Ax ss=jG|_=>True
def FH:Ex->Prop|.text _ s=>BM s=jG|.set _ _ _ _ ss=>Ax ss=jG|.name ..=>False|.attr _ n=>0<=n/\n<6|.un _ op k=>(8<=op/\op<=10)/\FH k|.bin _ op l r=>(11<=op/\op<=26)/\FH l/\FH r|.ite _ c t e=>FH c/\FH t/\FH e|_=>True
theorem Alo(v:Vv)(h:gdV v):FH v.ex:=by cases v<;>exact h
theorem UL{p:Int×Int}{v:Vv}(h:BJ p=.ok v):gdV v:=by unfold BJ at h;split at h<;>cases h;trivial
theorem AcH{v u:Vv}(a:gdV v)(h:Ie op v=.ok u):gdV u:=by cases v with|int n=>grind[Ie,UL]|bool b=>simp only[Ie]at h;split at h<;>cases h;trivial|set ss=>simp only[Ie]at h;split at h<;>cases h;trivial|text s=>cases h
theorem AgX{ss tt:M6}{v:Vv}(h:DP (Fz ss tt)=.ok v):gdV v:=by
 unfold DP at h;split at h
 .cases h;rename_i hz;unfold Fz at*;split at hz
  .rename_i a;rw[dif_pos a];have q:=Classical.choose_spec a;cases b:(Ax ss&&Ax tt)with|false=>grind[Aw.bad]|true=>
     obtain⟨M,c,h1,h2⟩:=q.bP b;rw[zF]at b;by_cases d:Y M<=64
     .show Ax (Classical.choose a).1=jG;grind[Yv]
     omega
  cases hz
 cases h
theorem RJ{v w u:Vv}(a:gdV v)(b:gdV w)(h:BI op v w=.ok u):gdV u:=by
 unfold BI at h;split at h
 .cases h;trivial
 split at h
 .cases h;trivial
 split at h
 .split at h<;>cases h;trivial
 .split at h
  .exact AgX h
  split at h
  .cases h;exact Aec a b
  split at h
  .cases h;exact Yw a b
  split at h<;>cases h;trivial
 .split at h
  .cases h;trivial
  split at h
  .cases h;trivial
  grind[UL]
 cases h
theorem Je{e:Ex}{v:Vv}(hc:e.bQ=jG)(a:FH e)(h:At SS [] e=.ok v):gdV v:=by cases e<;>first|(cases h;exact a)|(cases h;trivial)|cases hc
theorem AgY{e c:Ex}(d:FH e)(h:AM e=Z c):FH c:=by
 unfold AM at h;split at h
 .cases h
 split at h
 .rename_i j;split at h
  .rename_i v a;cases h;refine Alo v ?_;cases e with
   |un i op k=>rw[At]at a;have o:k.bQ=jG:=Gb;cases hq:At SS [] k with|err c=>rw[hq]at a;cases a|ok x=>rw[hq]at a;exact AcH (Je o d.2 hq) a
   |bin i op l m=>rw[At]at a;have f:l.bQ=jG/\m.bQ=jG:=Gb;cases hq:At SS [] l with|err c=>rw[hq]at a;cases a|ok x=>
     rw[hq]at a;dsimp only at a;split at a
     .cases a;exact Je f.1 d.2.1 hq
     cases g:At SS [] m with|err c=>rw[g]at a;cases a|ok y=>rw[g]at a;dsimp only at a;first
      |exact RJ (Je f.1 d.2.1 hq) (Je f.2 d.2.2 g) a
      |split at a
       .cases a;exact Je f.2 d.2.2 g
       exact RJ (Je f.1 d.2.1 hq) (Je f.2 d.2.2 g) a
   |ite i x y z=>rw[At]at a;have n:x.bQ=jG/\y.bQ=jG/\z.bQ=jG:=Gb;cases hq:At SS [] x with|err c=>rw[hq]at a;cases a|ok b=>
     rw[hq]at a;cases b with|bool b=>
      cases b
      .exact Je n.2.2 d.2.2 a
      exact Je n.2.1 d.2.1 a|_=>cases a
   |_=>simp[Ex.aC]at*
  cases h
 cases h
theorem AgZ(w:∀c∈ls,FH c){e c:Ex}(a:FH e)(h:AS ls e=Z c):FH c:=by cases e with
 |lett i n=>grind[AS]|un i op k=>
   rw[AS]at h;split at h
   .cases k with|un A o j=>rw[LS]at h;split at h<;>cases h;exact a.2.2|_=>cases h
   cases h|bin i op x y=>
   rw[AS]at h;have MB:∀{z:Ex},z=x\/z=y->FH z:=λq=>q.elim (λe=>e ▸ a.2.1) λe=>e ▸ a.2.2;by_cases d:op=25
   .subst d;exact MB<|Ei h
   by_cases f:op=26
   .subst f;exact MB<|Ei h
   by_cases g:op=16
   .subst g;exact MB<|Fw h
   by_cases l:op=17
   .subst l;exact MB<|H7 h
   by_cases m:op=18
   .subst m;obtain e|e:=Gw h
    .grind
    rw[e];rfl
   by_cases h11:op=11
   .subst h11;exact MB<|Ko h
   by_cases h12:op=12
   .subst h12;exact MB<|EJ h
   by_cases h13:op=13
   .subst h13;exact MB<|H9 h
   by_cases h14:op=14
   .subst h14;exact MB<|EJ h
   by_cases p:op=19
   .subst p;obtain⟨b,rfl⟩:=Bn h;trivial
   by_cases r:op=22
   .subst r;obtain⟨b,rfl⟩:=Bn h;trivial
   by_cases s:op=20
   .subst s;obtain⟨b,rfl⟩:=Bn h;trivial
   by_cases t:op=21
   .subst t;obtain⟨b,rfl⟩:=Bn h;trivial
   by_cases u:op=24
   .subst u;obtain⟨b,rfl⟩:=DF h;trivial
   by_cases v:op=23
   .subst v;obtain⟨b,rfl⟩:=Ja h;trivial
   grind[DE]|ite i x y z=>
   rw[AS]at h;repeat' split at h
   all_goals first|(cases h;first|exact a.2.1|exact a.2.2)|cases h
 |_=>cases h
theorem Alp(b:∀c∈ls,FH c){e:Ex}(a:FH e):FH<|NN ls e:=by unfold NN;cases hf:AM e with|some c=>exact AgY a hf|none=>cases d:AS ls e with|none=>exact a|some c=>exact AgZ b a d
theorem Ks(a:∀c∈ls,FH c):∀(e:Ex),FH e->FH (Cw ls e):=by intro e;induction e<;>intros<;>grind[Cw,Alp,FH]
theorem RK(l:M4):∀(e:Ex),FH e->FH (BV l e)|.un ..,h=>⟨h.1,RK l _ h.2⟩|.bin ..,h=>⟨h.1,RK l _ h.2.1,RK l _ h.2.2⟩|.ite ..,h=>⟨RK l _ h.1,RK l _ h.2.1,RK l _ h.2.2⟩|.int ..,h=>h|.text ..,h=>h|.bool ..,h=>h|.set ..,h=>h|.name ..,h=>h|.attr ..,h=>h|.lett ..,h=>h
theorem Oo{ks:M4}(h:8<=op)(a:(Y ks:Int)=Ci op):AR ⟨op,0,⟨#[]⟩,[],ks⟩=jG:=by
 have e1:Px ⟨op,0,⟨#[]⟩,[],ks⟩=jG:=by rw[Px,K0 (Oa:¬ op=5),K0 (Oa:¬ op=6),K0 (Oa:¬ (op=7\/op=1)),wfB,K0 (Oa:¬ op=1),K0 (Oa:¬ op=2),K0 (Oa:¬ op=3),K0 (Oa:¬ op=4),K0 (Oa:¬ op=5),K0 (Oa:¬ (op=6\/op=7))];rfl
 grind[AR]
theorem Fd:∀(e:Ex)(b:Nat),FH e->∀x∈GY e b,AR x=jG
 |.un i op k,b,h,x,hx=>by
  rw[GY]at hx;obtain q|q:=zJ.1 hx
  .exact Fd k b h.2 x q
  rw[zK.1 q];have h1:=h.1;grind[Oo,Ci]|.bin i op l r,b,h,x,hx=>by
  rw[GY]at hx;obtain q|q:=zJ.1 hx
  .obtain q|q:=zJ.1 q
   .exact Fd l b h.2.1 x q
   exact Fd r _ h.2.2 x q
  rw[zK.1 q];have h1:=h.1;grind[Oo,Ci]|.ite i c t e,b,h,x,hx=>by
  rw[GY]at hx;obtain q|q:=zJ.1 hx
  .obtain q|q:=zJ.1 q
   .obtain q|q:=zJ.1 q
    .exact Fd c b h.1 x q
    exact Fd t _ h.2.1 x q
   exact Fd e _ h.2.2 x q
  grind[Oo,Ci]|.int i n,b,h,x,hx=>by rw[zK.1 hx];rfl|.text i s,b,h,x,hx=>by
  rw[zK.1 hx];have:BM s=jG:=h;show(decide (((0:Nat):Int)=Ci 2)&&Px ⟨2,0,s,[],[]⟩)=jG;have e1:Px ⟨2,0,s,[],[]⟩=BM s:=by simp[Px,wfB]
  rw[e1,this];rfl|.bool i c,b,h,x,hx=>by rw[zK.1 hx];cases c<;>rfl|.set i a n c ss,b,h,x,hx=>by
  rw[zK.1 hx];have:Ax ss=jG:=h;show(decide (((0:Nat):Int)=Ci 4)&&Px ⟨4,0,⟨#[]⟩,ss,[]⟩)=jG;have e1:Px ⟨4,0,⟨#[]⟩,ss,[]⟩=jG:=by show(Ax ss&&jG&&jG)=jG;grind
  rw[e1];rfl|.name ..,b,h,x,hx=>h.elim|.attr i n,b,h,x,hx=>by
  rw[zK.1 hx];have h1:0<=n/\n<6:=h;show(decide (((0:Nat):Int)=Ci 6)&&Px ⟨6,n,⟨#[]⟩,[],[]⟩)=jG;have e1:Px ⟨6,n,⟨#[]⟩,[],[]⟩=jG:=by show(decide (0<=n/\n<6)&&jG&&jG)=jG;grind
  rw[e1];rfl|.lett i n,b,h,x,hx=>by rw[zK.1 hx];rfl
theorem AjD(h:DE op x y=Z z):Eu z<=Eu (.bin 0 op x y):=by
 have hy:=(FN y).1;have i:=Pd 0<|Eu x;have j:=Pd (mx 0<|Eu x)<|Eu y;have MB:∀{z:Ex},z=x\/z=y->Eu z<=Eu (.bin 0 op x y):=λq=>by grind[Eu]
 have k:∀{z:Ex},(∃c,z=.bool 0 c)->Eu z<=Eu (.bin 0 op x y):=λ⟨c,e⟩=>by rw[e];show(1:Int)<=mx (mx 0<|Eu x) (Eu y)+1;omega
 by_cases a:op=25
 .subst a;exact MB<|Ei h
 by_cases b:op=26
 .subst b;exact MB<|Ei h
 by_cases d:op=16
 .subst d;exact MB<|Fw h
 by_cases f:op=17
 .subst f;exact MB<|H7 h
 by_cases g:op=18
 .subst g;obtain e|e:=Gw h;all_goals grind[Eu,mx]
 by_cases h11:op=11
 .subst h11;exact MB<|Ko h
 by_cases h12:op=12;all_goals grind[DE,Ja,DF,H9,EJ,Bn]
theorem AcI{e:Ex}(h:e.aL=1):Eu e=1:=G7<|FN e
theorem Ij(e:Ex):Eu (NN ls e)<=Eu e:=by have h1:=(FN e).1;unfold NN;cases hf:AM e with|some c=>grind[Eu,AcI,UK]|none=>cases a:AS ls e with|none=>grind|some c=>show Eu c<=Eu e;cases e with
     |lett i n=>grind[AS,AcI,AcE]|un i op k=>
       rw[AS]at a;split at a
       .cases k<;>grind[Eu,LS,mx,Pd]
       cases a|bin i op x y=>rw[AS]at a;exact AjD a|ite i x y z=>grind[AS,Eu,mx,Pd]|_=>cases a
theorem Ej{a b c d:Int}(h1:a<=c)(h2:b<=d):mx a b<=mx c d:=by grind[mx]
theorem LU{ls:M8}:∀(e:Ex),Eu (Cw ls e)<=Eu e|.un i op k=>by rw[Cw];refine Int.le_trans (Ij _) ?_;rw[Eu,Eu];have:=Ej (zr 0)<|LU (ls:=ls) k;omega|.bin i op x y=>by rw[Cw];refine Int.le_trans (Ij _) ?_;rw[Eu,Eu];have:=Ej (Ej (zr 0)<|LU (ls:=ls) x)<|LU (ls:=ls) y;omega|.ite i x y z=>by rw[Cw];refine Int.le_trans (Ij _) ?_;rw[Eu,Eu];have:=Ej (Ej (Ej (zr 0)<|LU (ls:=ls) x)<|LU (ls:=ls) y)<|LU (ls:=ls) z;omega|.int i n=>G0|.text i n=>G0|.bool i n=>G0|.set i a n c ss=>G0|.name i n=>G0|.attr i n=>G0|.lett i n=>G0
theorem AmO(l:M4):∀(e:Ex),Eu (BV l e)=Eu e:=by intro e;induction e<;>intros<;>grind[Eu,BV]
def gdO(o:N5):Prop:=∀e,o=Z e->FH e/\Ln e/\Eu e<=64
def UF(X:M9):Prop:=∀x∈X,gdO x.cond/\gdO x.aD
theorem Ag0(h1:∀c∈ls,FH c)(h2:∀c∈ls,Ln c)(h:gdO o):gdO<|o.map<|Cw ls:=λe he=>by cases o with|none=>cases he|some a=>obtain⟨g1,g2,g3⟩:=h a rfl;cases he;exact⟨Ks h1 a g1,Alm h2 a g2,Int.le_trans (LU a) g3⟩
theorem AcJ:∀(b:M9)(ls:M8),(∀c∈ls,FH c)->(∀c∈ls,Ln c)->UF b->UF (CY ls b)
 |[],_,_,_,_,x,hx=>Q4|x::b,ls,h1,h2,h,y,hy=>by
  rw[CY]at hy;have hx:=h x zR;have c1:=Ag0 h1 h2 hx.1;obtain e|e:=zS.1 hy
  .rw[e];exact⟨c1,Ag0 h1 h2 hx.2⟩
  have d:∀c∈KQ ls (Ia ls x),FH c/\Ln c:=λc hc=>by
   rw[KQ]at hc;split at hc
   .obtain q|q:=zJ.1 hc
    .grind
    rw[zK.1 q];cases f:(Ia ls x).cond with|none=>exact⟨trivial,trivial⟩|some a=>exact⟨(c1 a f).1,(c1 a f).2.1⟩
   grind
  exact AcJ b _ (λc hc=>(d c hc).1) (λc hc=>(d c hc).2) (λz hz=>h z<|zV _ hz) y e
theorem AcK:∀(a:M9),UF a->UF (Bp a)
 |[],_,x,hx=>Q4|x::a,h,y,hy=>by
  have b:=AcK a λz hz=>h z<|zV _ hz;rw[Bp]at hy;split at hy
  .exact b y hy
  split at hy
  .rw[zK.1 hy];exact⟨λe he=>(by cases he),(h x zR).2⟩
  obtain e|e:=zS.1 hy
  .rw[e];exact h x zR
  exact b y e
theorem RL(l:M4):∀(e:Ex),Ln e->Ln (BV l e)|.un _ _ k,h=>RL l k h|.bin _ _ x y,h=>⟨RL l x h.1,RL l y h.2⟩|.ite _ x y z,h=>⟨RL l x h.1,RL l y h.2.1,RL l z h.2.2⟩|.int ..,h=>h|.text ..,h=>h|.bool ..,h=>h|.set ..,h=>h|.name ..,h=>h|.attr ..,h=>h|.lett ..,h=>h
theorem Ag1(l:M4)(h:gdO o):gdO<|o.map<|BV l:=λe he=>by cases o with|none=>cases he|some a=>obtain⟨g1,g2,g3⟩:=h a rfl;cases he;exact⟨RK l a g1,RL l a g2,by rw[AmO];exact g3⟩
theorem Nf:∀(X:M9)(n:Int),((Cj n X).map Prod.fst).Sublist X:=by intro X;induction X<;>intros<;>grind[Cj]
theorem Ng(X:M9):Tu X=((Cj 0 X).map Prod.fst).map (FJ<|GH<|Cj 0 X):=by rw[Tu,z6];rfl
theorem AcA{X:M9}(h:UF X):UF<|BU X:=by have h1:=AcK _<|AcJ X [] (λc hc=>by cases hc) (λc hc=>by cases hc) h;intro y hy;rw[BU,Ng]at hy;obtain⟨z,hz,rfl⟩:=zU.1 hy;have:=h1 z<|(Nf _ 0).subset hz;exact⟨Ag1 _ this.1,Ag1 _ this.2⟩
def Ku:M9->Prop|[]=>False|x::Xx=>(x.aF=3/\Xx=[])\/(x.aF≠3/\Ku Xx)
def nmX(X:M9):Prop:=∀x∈X,(x.aF=1->CG x.name=jG)/\(x.aF≠1->x.name=⟨#[]⟩)
def Mj(X:M9):M6:=(X.filter λx=>decide (x.aF=1)).map Sx.name
theorem RQ:∀(a:M9)(ls:M8),Ku a->Ku (CY ls a)
 |x::a,ls,h=>by
  rw[CY];obtain⟨h1,h2⟩|⟨h1,h2⟩:=h
  .exact .inl ⟨h1,by rw[h2];rfl⟩
  exact .inr ⟨h1,RQ a _ h2⟩
theorem AcL:∀(a:M9)(ls:M8),nmX a->nmX (CY ls a)/\Mj (CY ls a)=Mj a
 |[],_,_=>⟨λx hx=>Q4,rfl⟩|x::a,ls,h=>by
  rw[CY];obtain⟨b,i2⟩:=AcL a (KQ ls<|Ia ls x) λz hz=>h z<|zV _ hz;refine⟨λy hy=>?_,?_⟩
  .obtain e|e:=zS.1 hy
   .rw[e];exact h x zR
   exact b y e
  unfold Mj at i2|-;by_cases c:x.aF=1;all_goals simp_all[List.filter_cons_of_pos,List.map_cons,Ia,List.filter_cons_of_neg]
theorem RY:∀(a:M9),Ku a->Ku (Bp a)
 |x::a,h=>by
  rw[Bp];obtain⟨h1,h2⟩|⟨h1,h2⟩:=h
  .rw[K0 Oa,K0 Oa,h2];exact .inl ⟨h1,rfl⟩
  have b:=RY a h2;split
  .exact b
  split
  .exact .inl ⟨rfl,rfl⟩
  exact .inr ⟨h1,b⟩
theorem AjE{B:M9}(h:A.Sublist B):(Mj A).Sublist<|Mj B:=(h.filter _).map _
theorem AcM:∀(a:M9),nmX a->nmX (Bp a)/\(Mj<|Bp a).Sublist (Mj a)
 |[],_=>⟨λx hx=>Q4,List.Sublist.slnil⟩|x::a,h=>by
  obtain⟨b,i2⟩:=AcM a λz hz=>h z<|zV _ hz;have ec:∀(Y:M9),Mj (x::Y)=if x.aF=1 then x.name::Mj Y else Mj Y:=λY=>by unfold Mj;grind
  rw[Bp];split
  .grind
  split
  .refine⟨λy hy=>?_,?_⟩
   .grind
   exact List.nil_sublist _
  refine⟨λy hy=>?_,?_⟩
  .obtain e|e:=zS.1 hy
   .rw[e];exact h x zR
   exact b y e
  grind
theorem Nh:∀(a:M9)(n:Int)(l:M4),Ku a->Ku (((Cj n a).map Prod.fst).map<|FJ l)
 |x::a,n,l,h=>by
  rw[Cj];obtain⟨h1,h2⟩|⟨h1,h2⟩:=h
  .rw[K0 Oa,h2];exact .inl ⟨h1,rfl⟩
  split
  .split
   .exact Nh a (n+1) l h2
   exact .inr ⟨h1,Nh a (n+1) l h2⟩
  exact .inr ⟨h1,Nh a n l h2⟩
theorem Ag2(l:M4)(X:M9):Mj (X.map<|FJ l)=Mj X:=by unfold Mj;rw[List.filter_map,z6];rfl
theorem VT{X:M9}(h1:Ku X)(h2:nmX X):Ku (BU X)/\nmX (BU X)/\(Mj<|BU X).Sublist (Mj X):=by
 have a1:=RY _<|RQ X [] h1;obtain⟨b1,b2⟩:=AcL X [] h2;obtain⟨c1,c2⟩:=AcM _ b1;rw[BU,Ng];refine⟨Nh _ 0 _ a1,λy hy=>?_,?_⟩
 .obtain⟨z,hz,rfl⟩:=zU.1 hy;exact c1 z<|(Nf _ 0).subset hz
 rw[Ag2,<-b2];exact(AjE<|Nf _ 0).trans c2
theorem Rv(X:M9):Y (BU X)<=Y X:=by
 have l1:∀(X:M9) (ls:M8),Y (CY ls X)=Y X:=λX=>by induction X<;>grind[CY]
 have l2:∀(X:M9),Y (Bp X)<=Y X:=λX=>by induction X<;>grind[Bp]
 grind[BU,Nf,Bp,CY,Ng]
theorem AcN:∀(a:M9)(b:Nat)(ts:M4),JD ts a->Ku a->nmX a->Br (CC b a)=jG
 |x::a,b,ts,h,he,hn=>by
  have hx:=hn x zR;have hs:DY ⟨x.aF,x.name,Jx x.cond b,Jx x.aD<|b+AQ x.cond⟩=jG:=by
   obtain⟨k,e,t,h1,h2,h3,h4⟩|⟨k,h1,h3,h4⟩|⟨k,h1,h3,h4⟩:=h
   .grind[DY,Jx]
   .rw[DY,K0 (Oa:¬ x.aF=1),K1<|show x.aF=2 from k];show decide (x.name.size=0)=jG;rw[hx.2 Oa];rfl
   rw[DY,K0 (Oa:¬ x.aF=1),K0 (Oa:¬ x.aF=2),K1<|show x.aF=3 from k];show(decide (x.name.size=0)&&decide (Jx x.cond b=-1))=jG;rw[hx.2 Oa,h1];rfl
  rw[CC,Br,hs];obtain⟨h1,h2⟩|⟨h1,h2⟩:=he
  .grind[CC,Br]
  have ht:∃ts',JD ts' a:=by obtain⟨_,_,t,_,_,_,h4⟩|⟨_,_,_,h4⟩|⟨_,_,_,h4⟩:=h;all_goals grind
  obtain⟨ts',ht⟩:=ht;rw[AcN a _ ts' ht h2 λz hz=>hn z<|zV _ hz];cases a with|nil=>exact h2.elim|cons y c=>simp[CC,h1]
theorem LQ:∀(a:M9)(b:Nat),UF a->∀x∈AV b a,AR x=jG
 |[],_,_,x,hx=>Q4|y::a,b,h,x,hx=>by
  have hy:=h y zR;have f:∀(o:N5) (c:Nat),gdO o->x∈PL o c->AR x=jG:=λo c d hq=>by cases o with|none=>cases hq|some e=>exact Fd e c (d e rfl).1 x hq
  rw[AV]at hx;obtain q|q:=zJ.1 hx
  .grind
  exact LQ a _ (λz hz=>h z<|zV _ hz) x q
theorem AgE{a:M9}(h1:JD [] a)(h2:UF a)(h3:Ku a)(h4:nmX a)(hc:CB a<=4000)(g:Y a<=600):Bt (AV 0 a) (CC 0 a)=jG:=by
 have d:∀(a:M9) (ts:M4),JD ts a->∀x∈a,(x.aF=3↔x.cond=V):=λa=>by induction a with|nil=>grind|cons y a i=>
    intro ts h x hx;obtain e|e:=zS.1 hx
    .subst e;obtain⟨k,e,t,b,_⟩|⟨k,⟨e,b,_⟩,_⟩|⟨k,b,_⟩:=h;all_goals grind
    obtain⟨_,_,t,_,_,_,h4⟩|⟨_,_,_,h4⟩|⟨_,_,_,h4⟩:=h;all_goals grind
 have c:∀{o:N5},gdO o->dpO o<=64:=λ{o}h=>by cases o with|none=>exact(by decide:(0:Int)<=64)|some e=>exact(h e rfl).2.2
 obtain⟨l,g1,g2,g3⟩:=QL (AV 0 a) a 0 (λj y hy=>by rw[zT];exact hy) λy hy=>⟨c (h2 y hy).1,c (h2 y hy).2,d a [] h1 y hy⟩;have f:=Pm g1 [] g3;rw[zT,Nat.sub_zero,List.nil_append,<-Gv a 0]at f;have m:1<=Y a:=by cases a with|nil=>exact h3.elim|cons=>simp
 grind[LQ,Gv,AcN,Dy,Ke,Bt]
section
variable{aS aO aZ aW:jH}{G:Nat->Prop}
theorem Bo:∀{e:Ex},FH e->e.bA|.un ..,h=>⟨h.1,Bo h.2⟩|.bin ..,h=>⟨h.1,Bo h.2.1,Bo h.2.2⟩|.ite ..,h=>⟨Bo h.1,Bo h.2.1,Bo h.2.2⟩|.int ..,h=>trivial|.text ..,h=>trivial|.bool ..,h=>trivial|.set ..,h=>trivial|.name ..,h=>h|.attr ..,h=>h|.lett ..,h=>trivial
theorem Po:∀(e:Ex),FH e.st↔FH e|.un _ _ k=>by simp only[Ex.st,FH,Po k]|.bin _ _ k l=>by simp only[Ex.st,FH,Po k,Po l]|.ite _ k l m=>by simp only[Ex.st,FH,Po k,Po l,Po m]|.int ..=>Iff.rfl|.text ..=>Iff.rfl|.bool ..=>Iff.rfl|.set ..=>Iff.rfl|.name ..=>Iff.rfl|.attr ..=>Iff.rfl|.lett ..=>Iff.rfl
theorem FU{e f:Ex}(h:e.st=f.st)(hf:FH f):FH e:=(Po e).1<|h ▸ (Po f).2 hf
theorem Fl{ts:M4}{e f:Ex}(h:e.st=f.st):An ts e=An ts f:=by rw[<-Kq ts e,h,Kq]
theorem Sn{e f:Ex}(h:e.st=f.st):(NN ls e).st=(NN ls f).st:=by rw[<-FE,h,FE]
def OzS(G:Nat->Prop)(w:jD)(zb:Nat)(ls:M8):Prop:=∃rb la lc,(∃f2 f3 f6 f7 f8 f9 f10 f11 f12 f13 f14 f15 f16 c2 c3 c13 c14,OzM w zb rb f2 f3 f6 f7 f8 f9 f10 f11 f12 f13 f14 f15 f16 c2 c3 c13 c14)/\LtM G w zb (X (Z<|jB rb 0 V) 17 17) la lc ls
theorem OzS.below{w w':jD}{zb:Nat}{ls:M8}(h:OzS G w zb ls)(a:Ak w w'):OzS G w' zb ls:=by obtain⟨b,c,d,⟨f,g,i,j,k,l,m,n,o,p,q,r,s,c2,c3,t,u,h1⟩,h2⟩:=h;exact⟨b,c,d,⟨f,g,i,j,k,l,m,n,o,p,q,r,s,c2,c3,t,u,h1.below a⟩,h2.below a⟩
theorem Aht{zb d:Nat}{l o p q r s t u v z A B C:jF}{c3:Nat}(h:OzM w zb d l o p q r s t u v z A B C hi c3 b1 c1){H:M3}{I:Nat}{J:jF}(L:LtM G w zb J H I ls)(F:∀b,R (Q w)<=b->G b)(hS:Cx w aS aO aZ aW)(ts:M4)(K:Y ts=Y ls):Ahm G w (Z<|jB d 0 V) (UQ ts)<|Sm ls:=by
 have f:=h.row.lt;have hc:=λ(j:Nat)=>h.row.cell j;have N:IJ G w l (UQ ts)<|Fj [25]<|GL jG:=by obtain⟨i,k,a,M⟩:=h.x2.m Ob;rw[a];exact Nq M (λargs w=>BL func142 Ok Ok args w) _ _ λx y c g mx my=>YB jG hi _ x y c (h.r2.aB g NLN) mx my
 have O:IJ G w o (UQ ts)<|Fj [26]<|GL jI:=by obtain⟨i,k,a,M⟩:=h.x3.m Ob;rw[a];exact Nq M (λargs w=>BL func142 Ok Ok args w) _ _ λx y c g mx my=>YB jI c3 _ x y c (h.r3.aB g NLN) mx my
 have P:IJ G w p (UQ ts)<|Fj [16]<|EI:=by obtain⟨i,k,a,M⟩:=h.x6.m Ob;rw[a];exact EM M (λargs w=>BL func88 Ok Ok args w) _ _ λx y c g mx my=>Aei x y c mx my
 have S:IJ G w q (UQ ts)<|Fj [17]<|Hy:=by obtain⟨i,k,a,M⟩:=h.x7.m Ob;rw[a];exact EM M (λargs w=>BL func89 Ok Ok args w) _ _ λx y c g mx my=>Ahc x y c mx my
 have W:IJ G w r (UQ ts)<|Fj [18]<|Fc:=by obtain⟨i,k,a,M⟩:=h.x8.m Ob;rw[a];exact EM M (λargs w=>BL func90 Ok Ok args w) _ _ λx y c g mx my=>Aej x y c mx my
 have aa:IJ G w s (UQ ts)<|Fj [11]<|Nb:=by obtain⟨i,k,a,M⟩:=h.x9.m Ob;rw[a];exact EM M (λargs w=>BL func91 Ok Ok args w) _ _ λx y c g mx my=>AjU x y c mx my
 have ab:IJ G w t (UQ ts)<|Fj [12]<|DD 0:=by obtain⟨i,k,a,M⟩:=h.x10.m Ob;rw[a];exact EM M (λargs w=>BL func92 Ok Ok args w) _ _ λx y c g mx my=>Ahd x y c mx my
 have ac:IJ G w u (UQ ts)<|Fj [13]<|Hz:=by obtain⟨i,k,a,M⟩:=h.x11.m Ob;rw[a];exact EM M (λargs w=>BL func93 Ok Ok args w) _ _ λx y c g mx my=>Ahe x y c mx my
 have ad:IJ G w v (UQ ts)<|Fj [14]<|DD 1:=by obtain⟨i,k,a,M⟩:=h.x12.m Ob;rw[a];exact EM M (λargs w=>BL func94 Ok Ok args w) _ _ λx y c g mx my=>AjV x y c mx my
 have ae:IJ G w z (UQ ts)<|Fj [19,22,24]<|Dt jG:=by obtain⟨i,k,a,M⟩:=h.x13.m Ob;rw[a];exact Nq M (λargs w=>BL func147 Ok Ok args w) _ _ λx y c g mx my=>YC jG b1 _ x y c (h.r13.aB g NLN) mx my
 have af:IJ G w A (UQ ts)<|Fj [20,21]<|Dt jI:=by obtain⟨i,k,a,M⟩:=h.x14.m Ob;rw[a];exact Nq M (λargs w=>BL func147 Ok Ok args w) _ _ λx y c g mx my=>YC jI c1 _ x y c (h.r14.aB g NLN) mx my
 have ag:IJ G w B (UQ ts)<|Fj [24]<|UP:=by obtain⟨i,k,a,M⟩:=h.x15.m Ob;rw[a];exact EM M (λargs w=>BL func96 Ok Ok args w) _ _ λx y c g mx my=>Aa3 x y c mx my
 have ah:IJ G w C (UQ ts)<|Fj [23]<|inE:=by obtain⟨i,k,a,M⟩:=h.x16.m Ob;rw[a];exact EM M (λargs w=>BL func97 Ok Ok args w) _ _ λx y c g mx my=>AlB x y c mx my
 intro j ai;match j,ai with|0,_=>exact⟨d,0,_,rfl,f,hc 0,Ahr L ts K⟩|1,_=>exact⟨d,0,_,rfl,f,hc 1,Aeq F hS ts⟩|2,_=>exact⟨d,0,_,rfl,f,hc 2,N⟩|3,_=>exact⟨d,0,_,rfl,f,hc 3,O⟩|4,_=>exact⟨d,0,_,rfl,f,hc 4,Ahq F hS ts⟩|5,_=>exact⟨d,0,_,rfl,f,hc 5,Aj6 _⟩|6,_=>exact⟨d,0,_,rfl,f,hc 6,P⟩|7,_=>exact⟨d,0,_,rfl,f,hc 7,S⟩|8,_=>exact⟨d,0,_,rfl,f,hc 8,W⟩|9,_=>exact⟨d,0,_,rfl,f,hc 9,aa⟩|10,_=>exact⟨d,0,_,rfl,f,hc 10,ab⟩|11,_=>exact⟨d,0,_,rfl,f,hc 11,ac⟩|12,_=>exact⟨d,0,_,rfl,f,hc 12,ad⟩|13,_=>exact⟨d,0,_,rfl,f,hc 13,ae⟩|14,_=>exact⟨d,0,_,rfl,f,hc 14,af⟩|15,_=>exact⟨d,0,_,rfl,f,hc 15,ag⟩|16,_=>exact⟨d,0,_,rfl,f,hc 16,ah⟩|n+17,hn=>exact K4 hn (by simp[Sm])
theorem Nr{c:jD}{zb:Nat}(h:OzS G c zb ls)(f:∀b,R (Q c)<=b->G b)(hS:Cx c aS aO aZ aW)(ts:M4)(g:Y ts=Y ls)(e:Ex)(a:jD)(d:Ak c a)(i:UQ ts e)(m:e.mem G a):Calls jZ 43 #[jQ<|Z<|jB zb 0 V,e.val] a<|FK G (NN ls e) a:=by obtain⟨j,k,l,⟨n,o,p,q,r,s,t,u,v,w,x,y,z,c2,c3,A,B,h1⟩,h2⟩:=h;have L:=h2.below d;rw[<-YH];exact Tx zb 17 17 (Z<|jB j 0 V) _ (UQ ts) (Sm ls) a rfl Ob L.row (Aht (h1.below d) L (λb h=>f b<|zB d.size h) (hS.below d NLN) ts g) e i m
theorem DU(args:Array jF)(w:jD):(callFunc 43 args).run jZ w=.ok (.enter 43 args) w:=BL func43 Ok Ok args w
theorem FK.dH(h:x.st=y.st){w':jD}{b:Ending}(a:FK G x w b w'):FK G y w b w':=by obtain⟨e,h1,h2⟩:=a;exact⟨e,h1.trans h,h2⟩
theorem L5{s:jD}{zb:Nat}{ls:M8}(h:OzS G s zb ls)(p:∀b,R (Q s)<=b->G b)(hS:Cx s aS aO aZ aW)(ts:M4)(q:Y ts=Y ls)(hy:FI ts ls)(hg:∀c∈ls,FH c):∀(e:Ex),FH e->(∃t,An ts e=Z t)->e.mem G s->RbX G 43 #[jQ<|Z<|jB zb 0 V] #[] s e.val (Cw ls e)
 |.un i op k,g,t,m=>by
  obtain⟨t,ht⟩:=t;have r:∃a,An ts k=Z a:=by rw[An]at ht;cases r:An ts k with|none=>rw[r]at ht;cases ht|some a=>exact⟨a,rfl⟩
  have K:=L5 h p hS ts q hy hg k g.2 r m;obtain⟨a,u⟩:=r;obtain⟨y,z,v⟩:=k.form;rw[v]at K;simp only[Ex.val,v];refine Ahn _ _ _ (Ab DU) s i op y z _ (Ab K) _<|Ab λe1 f s1 d A=>?_;refine(Nr h p hS ts q (.un i op e1) f d ⟨⟨g.1,Bo<|FU s1<|Ks hg k g.2⟩,t,?_⟩ A).mono λw w' j=>j.dH ?_
  .rw[An]at ht|-;rw[Fl s1,DG hy k a u];rw[u]at ht;exact ht
  rw[Cw];exact Sn (by simp only[Ex.st,s1])|.bin i op k l,g,t,m=>by
  obtain⟨t,ht⟩:=t;have r:∃a b,An ts k=Z a/\An ts l=Z b:=by rw[An]at ht;cases r:An ts k with|none=>rw[r]at ht;cases ht|some a=>cases E:An ts l with|none=>rw[r,E]at ht;cases ht|some b=>exact⟨a,b,rfl,rfl⟩
  obtain⟨a,b,u,x⟩:=r;have B:=L5 h p hS ts q hy hg k g.2.1 ⟨a,u⟩ m.1;have C:=L5 h p hS ts q hy hg l g.2.2 ⟨b,x⟩ m.2;obtain⟨y,z,v⟩:=k.form;obtain⟨F,H,D⟩:=l.form;rw[v]at B;rw[D]at C;simp only[Ex.val,v,D];refine AcW _ _ _ (Ab DU) s i op y z _ (Ab B) F H _ (Ab C) _<|Ab λe1 e2 f s1 s2 d A I=>?_;refine(Nr h p hS ts q (.bin i op e1 e2) f d ⟨⟨g.1,Bo<|FU s1<|Ks hg k g.2.1,Bo<|FU s2<|Ks hg l g.2.2⟩,t,?_⟩ ⟨A,I⟩).mono λw w' j=>j.dH ?_
  .rw[An]at ht|-;rw[Fl s1,DG hy k a u,Fl s2,DG hy l b x];rw[u,x]at ht;exact ht
  rw[Cw];exact Sn (by simp only[Ex.st,s1,s2])|.ite i k l o,g,t,m=>by
  obtain⟨t,ht⟩:=t;have r:∃a b c,An ts k=Z a/\An ts l=Z b/\An ts o=Z c:=by rw[An]at ht;cases r:An ts k with|none=>rw[r]at ht;cases ht|some a=>cases E:An ts l with|none=>rw[r,E]at ht;cases ht|some b=>cases N:An ts o with|none=>rw[r,E,N]at ht;cases ht|some c=>exact⟨a,b,c,rfl,rfl,rfl⟩
  obtain⟨a,b,c,u,x,hc⟩:=r;have B:=L5 h p hS ts q hy hg k g.1 ⟨a,u⟩ m.1;have C:=L5 h p hS ts q hy hg l g.2.1 ⟨b,x⟩ m.2.1;have L:=L5 h p hS ts q hy hg o g.2.2 ⟨c,hc⟩ m.2.2;obtain⟨y,z,v⟩:=k.form;obtain⟨F,H,D⟩:=l.form;obtain⟨O,P,M⟩:=o.form;rw[v]at B;rw[D]at C;rw[M]at L;simp only[Ex.val,v,D,M];refine AcX _ _ _ (Ab DU) s i y z _ (Ab B) F H _ (Ab C) O P _ (Ab L) _<|Ab λe1 e2 e3 f s1 s2 J d A I S=>?_;refine(Nr h p hS ts q (.ite i e1 e2 e3) f d ⟨⟨Bo<|FU s1<|Ks hg k g.1,Bo<|FU s2<|Ks hg l g.2.1,Bo<|FU J<|Ks hg o g.2.2⟩,t,?_⟩ ⟨A,I,S⟩).mono λw w' j=>j.dH ?_
  .rw[An]at ht|-;rw[Fl s1,DG hy k a u,Fl s2,DG hy l b x,Fl J,DG hy o c hc];rw[u,x,hc]at ht;exact ht
  rw[Cw];exact Sn (by simp only[Ex.st,s1,s2,J])|.int i n,g,t,m=>CR _ _ _ (Ab DU) s _ _ _ Ob Ob Ob<|Ab λf d=>(Nr h p hS ts q (.int i n) f d ⟨Bo g,t⟩<|Ex.aG d NLN (.int i n) m).mono λw w' j=>j.dH D0|.text i n,g,t,m=>CR _ _ _ (Ab DU) s _ _ _ Ob Ob Ob<|Ab λf d=>(Nr h p hS ts q (.text i n) f d ⟨Bo g,t⟩<|Ex.aG d NLN (.text i n) m).mono λw w' j=>j.dH D0|.bool i n,g,t,m=>CR _ _ _ (Ab DU) s _ _ _ Ob Ob Ob<|Ab λf d=>(Nr h p hS ts q (.bool i n) f d ⟨Bo g,t⟩<|Ex.aG d NLN (.bool i n) m).mono λw w' j=>j.dH D0|.set i a n c ss,g,t,m=>CR _ _ _ (Ab DU) s _ _ _ Ob Ob Ob<|Ab λf d=>(Nr h p hS ts q (.set i a n c ss) f d ⟨Bo g,t⟩<|Ex.aG d NLN (.set i a n c ss) m).mono λw w' j=>j.dH D0|.attr i n,g,t,m=>CR _ _ _ (Ab DU) s _ _ _ Ob Ob Ob<|Ab λf d=>(Nr h p hS ts q (.attr i n) f d ⟨Bo g,t⟩<|Ex.aG d NLN (.attr i n) m).mono λw w' j=>j.dH D0|.lett i n,g,t,m=>CR _ _ _ (Ab DU) s _ _ _ Ob Ob Ob<|Ab λf d=>(Nr h p hS ts q (.lett i n) f d ⟨Bo g,t⟩<|Ex.aG d NLN (.lett i n) m).mono λw w' j=>j.dH D0|.name ..,g,t,m=>K4 g id
end
section
variable{aS aO aZ aW:jH}
def Ix(d:Dr):Int×Int×M6:=match d with|.out k sc=>(k,0,sc)|.err c=>(3,c,[])
def Pw(N:M7)(L:Nz)(T:M4)(R:Rq)(o:Int×Int×M6):Prop:=(∃v,KW N L T v/\(v&&JN R.cl R.us R.s1 R.s2)=jI/\o=(4,0,[]))\/(KW N L T jG/\JN R.cl R.us R.s1 R.s2=jG/\∃Es:M8,Y Es=Y N/\(∀j,(h:j<Y Es)->Be N j Es[j])/\o=Ix (CV R Es [] L))
theorem Be.ev_one{i:Nat}{e:Ex}(t:Be N i e):∀{f:Ex},Be N i f->∀R ls,At R ls e=At R ls f:=by induction t with
 |int h j d=>intro f u R ls;obtain⟨o,b⟩|⟨o,b⟩|⟨o,b⟩|⟨o,b⟩|⟨o,b⟩|⟨o,b⟩|⟨o,b⟩|⟨o,b⟩|⟨o,b⟩|⟨o,b⟩:=u.cI h<;>first|omega|(subst b;rfl)
 |text h j d=>intro f u R ls;obtain⟨o,b⟩|⟨o,b⟩|⟨o,b⟩|⟨o,b⟩|⟨o,b⟩|⟨o,b⟩|⟨o,b⟩|⟨o,b⟩|⟨o,b⟩|⟨o,b⟩:=u.cI h<;>first|omega|(subst b;rfl)
 |bool h j d=>intro f u R ls;obtain⟨o,b⟩|⟨o,b⟩|⟨o,b⟩|⟨o,b⟩|⟨o,b⟩|⟨o,b⟩|⟨o,b⟩|⟨o,b⟩|⟨o,b⟩|⟨o,b⟩:=u.cI h<;>first|omega|(subst b;rfl)
 |name h j d=>intro f u R ls;obtain⟨o,b⟩|⟨o,b⟩|⟨o,b⟩|⟨o,b⟩|⟨o,b⟩|⟨o,b⟩|⟨o,b⟩|⟨o,b⟩|⟨o,b⟩|⟨o,b⟩:=u.cI h<;>first|omega|(subst b;rfl)
 |attr h j d=>intro f u R ls;obtain⟨o,b⟩|⟨o,b⟩|⟨o,b⟩|⟨o,b⟩|⟨o,b⟩|⟨o,b⟩|⟨o,b⟩|⟨o,b⟩|⟨o,b⟩|⟨o,b⟩:=u.cI h<;>first|omega|(subst b;rfl)
 |lett h j d=>intro f u R ls;obtain⟨o,b⟩|⟨o,b⟩|⟨o,b⟩|⟨o,b⟩|⟨o,b⟩|⟨o,b⟩|⟨o,b⟩|⟨o,b⟩|⟨o,b⟩|⟨o,b⟩:=u.cI h<;>first|omega|(subst b;rfl)
 |set h j d a n c=>intro f u R ls;obtain⟨o,b⟩|⟨o,b⟩|⟨o,b⟩|⟨o,b⟩|⟨o,b⟩|⟨o,b⟩|⟨o,b⟩|⟨o,b⟩|⟨o,b⟩|⟨o,b⟩:=u.cI h<;>first|omega|(obtain⟨_,_,_,b⟩:=b;subst b;rfl)
 |un h j d hi t s=>
  intro f u R ls;obtain⟨o,b⟩|⟨o,b⟩|⟨o,b⟩|⟨o,b⟩|⟨o,b⟩|⟨o,b⟩|⟨o,b⟩|⟨o,q,r,g,k,b⟩|⟨o,b⟩|⟨o,b⟩:=u.cI h<;>first|omega|skip
  subst b;rw[d]at g;obtain rfl:=Int.ofNat.inj (List.cons.inj g).1;rw[At,At,s k R ls]|bin h j d hi t u l m=>
  intro f v R ls;obtain⟨o,b⟩|⟨o,b⟩|⟨o,b⟩|⟨o,b⟩|⟨o,b⟩|⟨o,b⟩|⟨o,b⟩|⟨o,b⟩|⟨o,q,w,r,x,g,k,p,b⟩|⟨o,b⟩:=v.cI h<;>first|omega|skip
  subst b;rw[d]at g;simp only[List.cons.injEq,and_true,Int.natCast_inj]at g;obtain⟨rfl,rfl⟩:=g;rw[At,At,l k R ls,m p R ls]|ite h j d hi t u v l m y=>
  intro f z R ls;obtain⟨o,b⟩|⟨o,b⟩|⟨o,b⟩|⟨o,b⟩|⟨o,b⟩|⟨o,b⟩|⟨o,b⟩|⟨o,b⟩|⟨o,b⟩|⟨o,q,w,A,r,x,B,g,k,p,v',b⟩:=z.cI h<;>first|omega|skip
  subst b;rw[d]at g;simp only[List.cons.injEq,and_true,Int.natCast_inj]at g;obtain⟨rfl,rfl,rfl⟩:=g;rw[JL,JL,l k R ls,m p R ls,y v' R ls]
theorem Xf{N:M7}{Es c:M8}(h1:Y Es=Y N)(h2:Y c=Y N)(d:∀j,(h:j<Y Es)->Be N j Es[j])(g:∀j,(h:j<Y c)->Be N j c[j])(R:Rq):∀(L:Nz)(ls:N6),CV R Es ls L=CV R c ls L
 |[],ls=>rfl|s::L,ls=>by
  have i:∀k:Nat,(Es[k]?=V/\c[k]?=V)\/∃e f,Es[k]?=Z e/\c[k]?=Z f/\∀ls,At R ls e=At R ls f:=λk=>by
   by_cases m:k<Y N
   .exact .inr ⟨Es[k],c[k],zE _,zE _,λls=>(d k Oa).ev_one (g k Oa) R ls⟩
   exact .inl ⟨zw Oa,zw Oa⟩
  have hg:∀ls,Ju R ls Es s.aD=Ju R ls c s.aD:=λls=>by
   rw[Ju,Ju];obtain⟨a,b⟩|⟨e,f,a,b,k⟩:=i s.aD.toNat
   .rw[a,b]
   rw[a,b];dsimp only;rw[k ls]
  have l:=Xf h1 h2 d g R L;rw[CV,CV,hg ls];obtain⟨a,b⟩|⟨e,f,a,b,k⟩:=i s.cond.toNat
  .rw[a,b]
  rw[a,b];dsimp only;rw[k ls];simp only[l]
theorem NS:∀{L:Nz},Br L=jG->1<=Y L->∃j,∃h:j<Y L,L[j].cond=-1
 |[s],h,_=>by
  simp only[Br,zF,List.isEmpty_nil]at h;have a:s.aF=3:=by simpa using h.1.2
  have:=h.1.1;rw[DY,K0 Oa,K0 Oa,K1 a]at this;simp only[zF,zO]at this;exact⟨0,Oz,this.2⟩|s::t::L,h,_=>by simp only[Br,zF]at h;obtain⟨j,b,e⟩:=NS (L:=t::L) (by simp only[Br,zF];exact h.2) Oz;exact⟨j+1,G6,by simpa using e⟩
theorem T8{L:Nz}(h:Bt N L=jG):Br L=jG:=by simp only[Bt,zF,zO]at h;exact h.1.1.2.2
theorem Ua{c:jD}{L:Nz}(h:Gh N L)(i:∀x∈N,Y x.aE<=1048576/\Cf x.num):AbZ c N λe=>e.bA/\e.mem (λb=>b<R (Q c)) c:=by intro k x an nn cn Es hx j l hf hS;obtain⟨e,d,n,o⟩:=Vo hx (h.bX _<|zX hx) (h.aC k _ hx) j l (λe he=>(hf e he).1) (an:=an) (nn:=nn) (cn:=cn);refine⟨e,d,n,o,?_⟩;have f:=i x<|zX hx;have a:∀{m:Nat}{e:Ex},Es[m]?=Z e->e.mem (λb=>b<R (Q c)) c:=λh=>(hf _<|zX h).2;cases d with|int=>exact f.2|text=>trivial|bool=>trivial|set=>refine⟨hS,f.1,λr e h0=>?_⟩;obtain⟨b,s,g,p,_⟩:=hS.cells 0 h0;rw[e]at g;cases g;exact p|name=>trivial|attr=>trivial|lett=>trivial|un _ _ g1=>have q:=a g1;exact q|bin _ _ g1 g2=>exact⟨a g1,a g2⟩|ite _ _ g1 g2 g3=>exact⟨a g1,a g2,a g3⟩
def Ab0(B:Nat)(o:Int×Int×M6)(w:jD)(r:Ending)(w':jD):Prop:=(∃x cx,r=jN (jL #[T U o.1,T U o.2.1,X x (Y o.2.2) cx])/\jP w' B 9 1 (X x (Y o.2.2) cx) (Y o.2.2) (o.2.2.map Value.string))/\Below B w w'
theorem Xg(a b e:M3)(n c m d k f:Nat)(N:M7)(L:Nz)(T:M4)(R:Rq)(a1:M3)(s c1:Nat)(a2:M3)(n2 c2:Nat)(aT bf bg:jH)(w:jD)(h1:GN w a n c N)(h2:Lr w b m d L)(h3:BN w e k f T)(bh:Mu w)(bi:OQ w aT)(E:SP w bf bg)(hs:Cx w aS aO aZ aW)(bj:Am w a1 s c1 R.s1)(bk:Am w a2 n2 c2 R.s2)(bV:Y R.s1<=1048576)(bW:Y R.s2<=1048576)(bX:R.cl.size<=maxLen)(bY:R.us.size<=maxLen)(bl:Cf R.lv)(bm:Cf R.nw)(bn:∀x∈N,Y x.aE<=1048576/\Cf x.num):Calls jZ 8 #[jL #[X a n c,X b m d,X e k f],jL #[jA R.cl,jA R.us,ja U R.lv,ja U R.nw,X a1 s c1,X a2 n2 c2]] w λt w'=>∃o,Pw N L T R o/\Ab0 (jh<|Q w) o w t w':=by have bZ:=Ab<|IQ w;have ax:=Ar w<|Lu a n c b m d e k f;have ay:=ax.alloc ax.size<|jC #[jA R.cl,jA R.us,ja U R.lv,ja U R.nw,X a1 s c1,X a2 n2 c2] 36;have y:=ay.alloc ay.size<|jC #[ja U 0,ja U 0,X V 0 0] 33;have ae:=((Ah.new w #[X a n c,X b m d,X e k f] 27).alloc<|jC #[jA R.cl,jA R.us,ja U R.lv,ja U R.nw,X a1 s c1,X a2 n2 c2] 36).alloc<|jC #[ja U 0,ja U 0,X V 0 0] 33;have ab:=(Ah.new (jK w<|Lu a n c b m d e k f) #[jA R.cl,jA R.us,ja U R.lv,ja U R.nw,X a1 s c1,X a2 n2 c2] 36).alloc<|jC #[ja U 0,ja U 0,X V 0 0] 33;have H:=Ah.new (jK (jK w<|Lu a n c b m d e k f)<|jC #[jA R.cl,jA R.us,ja U R.lv,ja U R.nw,X a1 s c1,X a2 n2 c2] 36) #[ja U 0,ja U 0,X V 0 0] 33;simp only[K6]at ab H;have ai:=h1.below y NLN;have aj:=h2.below y NLN;have az:=h3.below y NLN;have aA:=bh.below y NLN;have aC:=bi.below y NLN;have aD:=E.below y NLN;have aF:=hs.below y NLN;have aG:=bj.below y NLN;have aH:=bk.below y NLN;have bo:=Ab h1.len;have bp:=Ab h2.len;have b0:=Ab bn;have bq:=Ab<|L7 bl bm;clear h1 h2 h3 bh bi E hs bj bk bn bl bm ax ay bZ;go_enter func8,ntmps8;go_wp2_with fail;generalize (jK (jK (jK w (Lu a n c b m d e k f)) (jC #[jA R.cl,jA R.us,ja U R.lv,ja U R.nw,X a1 s c1,X a2 n2 c2] 36)) (jC #[ja U 0,ja U 0,X V 0 0] 33))=co at y ae ab H ai aj az aA aC aD aF aG aH|-;generalize br:jh (Q w)=ak at y ae ab H|-;have af:=Ab br;generalize b4:ak+1=r at ab H|-;generalize b5:r+1=i at H|-;have z:ak<=i:=Oa;have cp:r≠i/\ak≠i/\ak≠r:=Oa;clear br b4 b5;refine(Gi _ _ _ _ _ _ _ _ _ N L T aT bf bg _ ai aj az aA aC aD).mono ?_;rintro t I ⟨⟨v,rfl,al⟩,C⟩;have bs:=y.trans<|C.mono<|zB (G7 ae.lt) NLN;have aI:=ae.aB C NLN;have F:=ab.aB C NLN;have J:=H.aB C NLN;have bt:=ai.below C NLN;have bu:=aj.below C NLN;have bv:=aF.below C NLN;have aJ:=aG.below C NLN;have aK:=aH.below C NLN;clear ai aj az aA aC aD aF aG aH ae ab H;cases v with|false=>have aL:=Ab<|show Pw N L T R (4,0,[])from .inl ⟨jI,al,rfl,rfl⟩;clear al;obtain⟨aM,aN,x2⟩:=Co J;have aP:=λj=>J.frozen j;have aQ:=λj=>(J.set 0<|ja U 4).frozen j;have aR:=λj=>((J.set 0<|ja U 4).set 1<|ja U 0).frozen j;obtain⟨K,M,O⟩:=Co<|((J.set 0<|ja U 4).set 1<|ja U 0).set 2<|X V 0 0;have P:=((bs.setCell (p:=(jB i 0 V)) z<|ja U 4).setCell (p:=(jB i 1 V)) z<|ja U 0).setCell (p:=(jB i 2 V)) z<|X V 0 0;dsimp only;go_wp2_with fail;refine K8 (v:=jL #[ja U 4,ja U 0,X V 0 0]) He rfl ⟨(4,0,[]),Aa aL,⟨V,0,rfl,G8⟩,?_⟩;rw[Aa af];exact P|true=>have ao:=Ab al;clear al;obtain⟨g0,g1,g2,g3,bw,bx⟩:jE I (jB r 0 V)=Z (jA R.cl)/\jE I (jB r 1 V)=Z (jA R.us)/\jE I (jB r 2 V)=Z (ja U R.lv)/\jE I (jB r 3 V)=Z (ja U R.nw)/\jE I (jB r 4 V)=Z (X a1 s c1)/\jE I (jB r 5 V)=Z (X a2 n2 c2):=⟨F.cell 0,F.cell 1,F.cell 2,F.cell 3,F.cell 4,F.cell 5⟩;have aU:=Ab<|Mv R.cl R.us R.lv R.nw a1 s c1 R.s1 a2 n2 c2 R.s2 I bX bY aJ aK;generalize bz:JN R.cl R.us R.s1 R.s2=b6 at aU;have bB:=Ab bz;clear bz;dsimp only;go_wp2_with fail;refine(Aa aU).mono ?_;rintro t l ⟨rfl,D⟩;have bC:=bs.trans<|D.mono<|G7 aI.lt;have aV:=aI.aB D NLN;have ac:=F.aB D NLN;have S:=J.aB D NLN;have bD:=bt.below D NLN;have bE:=bu.below D NLN;have ap:=bv.below D NLN;have bF:=aJ.below D NLN;have bG:=aK.below D NLN;clear bt bu bv aJ aK aI F J aU g0 g1 g2 g3 bw bx;cases b6 with|false=>have aL:=Ab<|show Pw N L T R (4,0,[])from .inl ⟨jG,Aa ao,by rw[Aa bB];rfl,rfl⟩;obtain⟨aM,aN,x2⟩:=Co S;have aP:=λj=>S.frozen j;have aQ:=λj=>(S.set 0<|ja U 4).frozen j;have aR:=λj=>((S.set 0<|ja U 4).set 1<|ja U 0).frozen j;obtain⟨K,M,O⟩:=Co<|((S.set 0<|ja U 4).set 1<|ja U 0).set 2<|X V 0 0;have P:=((bC.setCell (p:=(jB i 0 V)) z<|ja U 4).setCell (p:=(jB i 1 V)) z<|ja U 0).setCell (p:=(jB i 2 V)) z<|X V 0 0;dsimp only;go_wp2_with fail;refine K8 (v:=jL #[ja U 4,ja U 0,X V 0 0]) He rfl ⟨(4,0,[]),Aa aL,⟨V,0,rfl,G8⟩,?_⟩;rw[Aa af];exact P|true=>
   obtain⟨g0,g1,g2,g3,bw,bx⟩:jE l (jB r 0 V)=Z (jA R.cl)/\jE l (jB r 1 V)=Z (jA R.us)/\jE l (jB r 2 V)=Z (ja U R.lv)/\jE l (jB r 3 V)=Z (ja U R.nw)/\jE l (jB r 4 V)=Z (X a1 s c1)/\jE l (jB r 5 V)=Z (X a2 n2 c2):=⟨ac.cell 0,ac.cell 1,ac.cell 2,ac.cell 3,ac.cell 4,ac.cell 5⟩;obtain⟨cq,cr,cs⟩:=Co aV;have aq:=Ar l<|jC #[jA R.cl,jA R.us,ja U R.lv,ja U R.nw,X a1 s c1,X a2 n2 c2,X V 0 0] 68;have b7:=aV.aB aq NLN;obtain⟨ct,cu,cv⟩:=Co b7;dsimp only;go_wp2_with fail;have aX:Bt N L=jG:=by
    obtain⟨_,h⟩|⟨h,_⟩:=Aa ao
    .cases h
    exact h
   have ad:=Ab<|BR aX;have b8:=Ab aX;have b9:=aV.lt;have S5:=ap;have bH:=Ab (λ(ar:jD) (W:Ak l ar)=>EY a b n c m d N L l ar bD W (bE.below W NLN) (λe=>e.bA/\e.mem (λb=>b<jh (Q l)) l) (Ua (Aa ad)<|Aa b0)<|by rw[<-Aa bo];exact(Aa ad).cQ);have bI:=Ah.new l #[jA R.cl,jA R.us,ja U R.lv,ja U R.nw,X a1 s c1,X a2 n2 c2,X V 0 0] 68;clear aX bD bE;refine(GP _ _ _ _ _ _ _ _ _ _).mono ?_;rintro t ar ⟨rfl,aY⟩;have W:=aq.trans<|aY.mono aq.size;have a0:=bI.aB aY NLN;dsimp only;go_wp2_with fail;refine(Aa bH ar W).mono ?_;rintro t bJ ⟨⟨v,Es,rfl,bK,E,hf,a3⟩,a4⟩;have ag:=W.trans<|a4.mono W.size;have a5:=a0.aB a4 NLN;have bL:=Ab (show 1<=m/\m<=600 by rw[<-Aa bp];exact⟨(Aa ad).m0,(Aa ad).m⟩);have a6:=Ab (show Y Es=Y N by rw[bK,Aa bo]);have cw:=Ab E;obtain⟨cx,ca,rfl,hx⟩:=Af a3;obtain⟨g,rfl,hg,bM⟩:=hx<|G7<|Aa bL;obtain⟨bN,a7,_⟩:=JO a3;have cb:=Ab (show ∀(t:Nat) (u:jF),(Vn Es 0 L)[t]?=Z u->bN[t]?=Z u from λt u hu=>(a7.cell t).symm.trans<|bM t u hu);have cd:g≠jh (Q l):=G7 a0.lt;have a8:∀{x:M3}{p q:Nat}{ss:M6},Am l x p q ss->∀ah,x=Z ah->0<p->EP (jh<|Q l) V (jW ah):=λhS ah e h0=>by obtain⟨ce,cy,h9,cz,_⟩:=hS.cells 0 h0;rw[e]at h9;cases h9;exact⟨(Oa:ce≠jh (Q l)),λah e=>by cases e⟩
   have bO:EvO aS aO aZ aW (jh<|Q l) (jh<|Q l) R a1 s c1 a2 n2 c2 V 0 [] [] bJ:=⟨⟨a5,bF.below ag NLN,bG.below ag NLN,bV,bW,a8 bF,a8 bG,λb cA=>⟨G7 a5.lt,λah e=>by cases e⟩,(Aa bq).1,(Aa bq).2,Ob,λj cf=>K4 cf Oz,ap.below ag NLN⟩,G8,NLN⟩;obtain⟨st,bP⟩:∃st,AC Es (AE,[],[]) L=Z st:=by
    obtain⟨_,h⟩|⟨au,cg,b1,b2,b3⟩:=Aa ao
    .cases h
    rw[KH (no5 au) (Aa a6) b1 E b2];cases hq:AC cg (AE,[],[]) L with|none=>rw[hq]at b3;cases b3|some st=>exact⟨st,rfl⟩
   have a9:=Ab<|ZU l ap (jh<|Q l) (jh<|Q l) NLN R a1 s c1 a2 n2 c2 Es L m g ca bN bJ (Aa bp) (Aa bL).2 (NS (T8<|Aa b8) (Aa ad).m0) (λe he=>(hf e he).2) st bP (Aft (Aa ad) (Aa a6) E λe he=>(hf e he).1) ag bO a7 (Aa cb) cd;have ba:=Ab (show ∀q,CV R Es [] L=q->Pw N L T R (Ix q)from λq hq=>.inr ⟨Aa ao,Aa bB,Es,Aa a6,E,by rw[hq]⟩);generalize CV R Es [] L=bQ at a9 ba;have bR:=Ab<|Aa ba bQ rfl;clear ba bP hf E bK hx bM a3 a8 bO bH aY a4 aq bI a0 a5 W a7;dsimp only;go_wp2_with fail;refine(Aa a9).mono ?_;rintro t bb ⟨bS,ch⟩;have bc:=ag.trans ch;have av:=S.aB bc NLN;have ci:=ap.below bc NLN;have bT:=bC.trans<|bc.mono<|Nat.le_of_lt b9;clear a9;cases bQ with
   |out B sc=>
    obtain⟨x,G,rfl,cj⟩:=bS;have aa:=Ar bb<|jC #[ja U B,ja U 0,X x (Y sc) G] 33;have A:=av.aB aa NLN;have bd:=bT.trans<|aa.mono<|G7 av.lt;have aw:=K7 cj<|jC #[ja U B,ja U 0,X x (Y sc) G] 33;have cB:i<jh (Q l):=S.lt;obtain⟨aM,aN,x2⟩:=Co A;have aP:=λj=>A.frozen j;have aQ:=λj=>(A.set 0<|ja U B).frozen j;have aR:=λj=>((A.set 0<|ja U B).set 1<|ja U 0).frozen j;obtain⟨K,M,O⟩:=Co<|((A.set 0<|ja U B).set 1<|ja U 0).set 2<|X x (Y sc) G;have P:=((bd.setCell (p:=(jB i 0 V)) z<|ja U B).setCell (p:=(jB i 1 V)) z<|ja U 0).setCell (p:=(jB i 2 V)) z<|X x (Y sc) G;have ck:=Ag (Ag (Ag aw (jB i 0 V) (ja U B) λq hq=>by have:=(aw.lt q hq).1;show q≠i;omega) (jB i 1 V) (ja U 0) λq hq=>by have:=(aw.lt q hq).1;show q≠i;omega) (jB i 2 V) (X x (Y sc) G) (λq hq=>by have:=(aw.lt q hq).1;show q≠i;omega);obtain⟨m0,cC,cD⟩:=Co<|Ah.new bb #[ja U B,ja U 0,X x (Y sc) G] 33;dsimp only;go_wp2_with fail;refine K8 (v:=jL #[ja U B,ja U 0,X x (Y sc) G]) He rfl ⟨(B,0,sc),Aa bR,⟨x,G,rfl,?_⟩,?_⟩
    .rw[Aa af];exact Iv ck Oa
    rw[Aa af];exact P|err cc=>obtain⟨cE,rfl,bU⟩:=bS;obtain⟨cF,cm⟩:=bU.form;subst cm;have aa:=Ar bb<|jC #[ja U 0,ja U 0,X V 0 0] 33;have A:=av.aB aa NLN;have bd:=bT.trans<|aa.mono<|G7 av.lt;have cn:=Ab<|Adm (ci.below aa NLN)<|bU.below aa NLN;obtain⟨aM,aN,x2⟩:=Co A;have aP:=λj=>A.frozen j;have aQ:=λj=>(A.set 0<|ja U 3).frozen j;have aR:=λj=>((A.set 0<|ja U 3).set 1<|ja U cc).frozen j;obtain⟨K,M,O⟩:=Co<|((A.set 0<|ja U 3).set 1<|ja U cc).set 2<|X V 0 0;have P:=((bd.setCell (p:=(jB i 0 V)) z<|ja U 3).setCell (p:=(jB i 1 V)) z<|ja U cc).setCell (p:=(jB i 2 V)) z<|X V 0 0;dsimp only;go_wp2_with fail;refine(Aa cn).mono ?_;rintro t cG ⟨rfl,au⟩;rw[au];clear au;dsimp only;go_wp2_with fail;refine K8 (v:=jL #[ja U 3,ja U cc,X V 0 0]) He rfl ⟨(3,cc,[]),Aa bR,⟨V,0,rfl,G8⟩,?_⟩;rw[Aa af];exact P
end
def NmF(w:jD)(a:M3)(N:M7):Prop:=∀j,j<Y N->∀b off,a=Z (jB b off V)->∀an nn cn,jE w ⟨b,off+j*5+3,V⟩=Z (X an nn cn)->ZS w an cn
def AfA(w:jD)(la:M3)(ln lc:Nat)(ls:N6):Prop:=Y ls=ln/\ln<=1048576/\∀j,(h:j<Y ls)->∃g o num text av nv cv,la=Z (jB g o V)/\g<R (Q w)/\jE w ⟨g,o+j*4,V⟩=Z (T U 0)/\jE w ⟨g,o+j*4+1,V⟩=Z (T U num)/\jE w ⟨g,o+j*4+2,V⟩=Z (jA text)/\jE w ⟨g,o+j*4+3,V⟩=Z (X av nv cv)/\PI w num text av nv cv ls[j]
theorem NmF.below{w w':jD}{B:Nat}{a:M3}{n c:Nat}{N:M7}(h:NmF w a N)(l:GN w a n c N)(d:Below B w w')(hB:R (Q w)<=B):NmF w' a N:=by intro j f b g i an nn cn hc;refine ZS.below ?_ d hB;obtain⟨b2,m,k,o,_⟩:=l.cells j f;rw[i]at k;have e:b=b2:=congrArg jW<|Mk k;exact h j f b g i an nn cn<|(d.cell (p:=⟨b,g+j*5+3,V⟩) (Oa:b<B)).symm.trans hc
theorem AfA.below{w w':jD}{B:Nat}{c:M3}{d f:Nat}{ls:N6}(h:AfA w c d f ls)(a:Below B w w')(hB:R (Q w)<=B):AfA w' c d f ls:=by refine⟨h.1,h.2.1,λj i=>?_⟩;obtain⟨g,o,num,text,k,l,m,n,q,r,e1,e2,e3,s⟩:=h.2.2 j i;have b:g<B:=Oa;exact⟨g,o,num,text,k,l,m,n,zG q a.size,(a.cell (p:=⟨g,o+j*4,V⟩) b).trans r,(a.cell (p:=⟨g,o+j*4+1,V⟩) b).trans e1,(a.cell (p:=⟨g,o+j*4+2,V⟩) b).trans e2,(a.cell (p:=⟨g,o+j*4+3,V⟩) b).trans e3,s.below a hB⟩
structure EvS(w:jD)(a:M3)(n c:Nat)(N:M7)(R:Rq)(a1:M3)(n1 c1:Nat)(a2:M3)(n2 c2:Nat):Prop where
 bR:GN w a n c N
 nmf:NmF w a N
 s1:Am w a1 n1 c1 R.s1
 s2:Am w a2 n2 c2 R.s2
 z1:ZS w a1 c1
 z2:ZS w a2 c2
theorem EvS.below{w w':jD}{B:Nat}{a:M3}{n c:Nat}{N:M7}{R:Rq}{a1:M3}{d c1:Nat}{a2:M3}{n2 c2:Nat}(h:EvS w a n c N R a1 d c1 a2 n2 c2)(b:Below B w w')(hB:jh (Q w)<=B):EvS w' a n c N R a1 d c1 a2 n2 c2:=⟨h.bR.below b hB,h.nmf.below h.bR b hB,h.s1.below b hB,h.s2.below b hB,h.z1.below b hB,h.z2.below b hB⟩
structure EvP(N:M7)(R:Rq):Prop where
 l1:Y R.s1<=1048576
 l2:Y R.s2<=1048576
 lv:Cf R.lv
 nw:Cf R.nw
 nm:∀x∈N,Y x.aE<=1048576/\Cf x.num
 fu:∀x∈N,Bu x=jG
theorem Vs{x:Nd}(h:Bu x=jG)(a:x.op=3):x.num=0\/x.num=1:=by rw[Bu,a]at h;simp at h;exact h.2.1.1
theorem Vt{x:Nd}(h:Bu x=jG)(a:x.op=6):0<=x.num/\x.num<=5:=by rw[Bu,a]at h;simp at h;exact h.2.1.1
theorem AiG{v:Vv}(h:v.ty=1):(v=.bool jI/\GJ 25 v=jG)\/(v=.bool jG/\GJ 25 v=jI):=by
 obtain⟨b,rfl⟩:=Vv.bC h;cases b
 .exact .inl ⟨rfl,rfl⟩
 exact .inr ⟨rfl,rfl⟩
theorem AiH{v:Vv}(h:v.ty=1):(v=.bool jG/\GJ 26 v=jG)\/(v=.bool jI/\GJ 26 v=jI):=by
 obtain⟨b,rfl⟩:=Vv.bC h;cases b
 .exact .inr ⟨rfl,rfl⟩
 exact .inl ⟨rfl,rfl⟩
theorem Adv{v:Vv}(h:op≠25)(a:op≠26):GJ op v=jI:=by
 unfold GJ;split
 .rw[K0 h,K0 a]
 rfl
theorem Qo{n c:Nat}{k:Int}{d:M4}(h:BN w a n c<|k::d):∃b o,a=Z (jB b o V)/\b<R (Q w)/\∀j,(f:j<Y (k::d))->jE w ⟨b,o+j,V⟩=Z (T U (k::d)[j]):=by
 obtain⟨b,o,g,l,_⟩:=h.cells 0 Oz;refine⟨b,o,g,l,λj f=>?_⟩;obtain⟨b2,o2,i,_,hc⟩:=h.cells j f;rw[g]at i;have e:=Mk i;have e1:b=b2:=congrArg jW e;have e2:o=o2:=by cases e;rfl
 subst e1;subst e2;exact hc
theorem Aaj{a b d t:Int}(h:nz (Ba 27 [a,b,d])=Z t):a=1:=by
 obtain⟨h1,h0⟩:=DO h;simp only[Ba]at h1;by_cases c:a=1/\b=d
 .exact c.1
 rw[K0 c]at h1;exact K4 h1.symm h0
theorem Aak{R:Rq}(P:EvP N R){i:Nat}{e:Ex}(t:Be N i e):∀(ts:M4)(ty:Int),An ts e=Z ty->∀(ls:N6),ls.map Vv.ty=ts->∀(a:M3)(n c:Nat)(a1:M3)(j c1:Nat)(a2:M3)(n2 c2:Nat)(y:M3)(p r:Nat)(w:jD),EvS w a n c N R a1 j c1 a2 n2 c2->AfA w y p r ls->Calls jZ 77 #[X a n c,T U i,jL #[jA R.cl,jA R.us,T U R.lv,T U R.nw,X a1 j c1,X a2 n2 c2],X y p r] w (BY (At R ls e) w):=by induction t with
 |int h F ac=>intro ts ty d ls J a n c a1 j c1 a2 n2 c2 y p r w M L;obtain⟨hi,hx⟩:=zL.1 h;obtain⟨b,A,rfl,B,an,nn,cn,K,G,C,s,e1,e2,e3,e4,hS,E⟩:=M.bR.cells _ hi;rw[hx]at s e1 e2 hS E;have D:=M.bR.len ▸ hi;have hm:=zX h;exact Afx _ F (P.nm _ hm).2 b A n c _ D M.bR.aH an nn cn K G C R a1 j c1 a2 n2 c2 y p r w B ⟨s,e1,e2,e3,e4⟩|text h F ac=>intro ts ty d ls J a n c a1 j c1 a2 n2 c2 y p r w M L;obtain⟨hi,hx⟩:=zL.1 h;obtain⟨b,A,rfl,B,an,nn,cn,K,G,C,s,e1,e2,e3,e4,hS,E⟩:=M.bR.cells _ hi;rw[hx]at s e1 e2 hS E;have D:=M.bR.len ▸ hi;exact Adu _ F b A n c _ D M.bR.aH an nn cn K G C R a1 j c1 a2 n2 c2 y p r w B ⟨s,e1,e2,e3,e4⟩|bool h F ac=>intro ts ty d ls J a n c a1 j c1 a2 n2 c2 y p r w M L;obtain⟨hi,hx⟩:=zL.1 h;obtain⟨b,A,rfl,B,an,nn,cn,K,G,C,s,e1,e2,e3,e4,hS,E⟩:=M.bR.cells _ hi;rw[hx]at s e1 e2 hS E;have D:=M.bR.len ▸ hi;have hm:=zX h;exact Adt _ F (Vs (P.fu _ hm) F) b A n c _ D M.bR.aH an nn cn K G C R a1 j c1 a2 n2 c2 y p r w B ⟨s,e1,e2,e3,e4⟩|set h F ac aJ n0 c0=>intro ts ty d ls J a n c a1 j c1 a2 n2 c2 y p r w M L;obtain⟨hi,hx⟩:=zL.1 h;obtain⟨b,A,rfl,B,an,nn,cn,K,G,C,s,e1,e2,e3,e4,hS,E⟩:=M.bR.cells _ hi;rw[hx]at s e1 e2 hS E;have D:=M.bR.len ▸ hi;have hm:=zX h;exact Afy _ F (P.nm _ hm).1 b A n c _ D M.bR.aH an nn cn K G C R a1 j c1 a2 n2 c2 y p r w B ⟨s,e1,e2,e3,e4⟩ hS<|M.nmf _ hi b A rfl an nn cn e3|name h F ac=>intro ts ty d;cases d|@attr i x h F ac=>
  intro ts ty d ls J a n c a1 j c1 a2 n2 c2 y p r w M L;obtain⟨hi,hx⟩:=zL.1 h;obtain⟨b,A,rfl,B,an,nn,cn,K,G,C,s,e1,e2,e3,e4,hS,E⟩:=M.bR.cells _ hi;rw[hx]at s e1 e2 hS E;have D:=M.bR.len ▸ hi;have hm:=zX h;have aK:=Vt (P.fu _ hm) F;rcases(Oa:x.num=0\/x.num=1\/x.num=2\/x.num=3\/x.num=4\/x.num=5)with hz|hz|hz|hz|hz|hz
  .have:=Aac _ F hz b A n c _ D M.bR.aH an nn cn K G C R a1 j c1 a2 n2 c2 y p r w B ⟨s,e1,e2,e3,e4⟩;rw[At,hz];exact this
  .have:=Aad _ F hz b A n c _ D M.bR.aH an nn cn K G C R a1 j c1 a2 n2 c2 y p r w B ⟨s,e1,e2,e3,e4⟩;rw[At,hz];exact this
  .have:=Aae _ F hz b A n c _ D M.bR.aH an nn cn K G C R a1 j c1 a2 n2 c2 y p r w B ⟨s,e1,e2,e3,e4⟩ P.lv;rw[At,hz];exact this
  .have:=Aaf _ F hz b A n c _ D M.bR.aH an nn cn K G C R a1 j c1 a2 n2 c2 y p r w B ⟨s,e1,e2,e3,e4⟩ P.nw;rw[At,hz];exact this
  .have:=Aag _ F hz b A n c _ D M.bR.aH an nn cn K G C R a1 j c1 a2 n2 c2 y p r w B ⟨s,e1,e2,e3,e4⟩ P.l1 M.s1 M.z1;rw[At,hz];exact this
  have:=Aah _ F hz b A n c _ D M.bR.aH an nn cn K G C R a1 j c1 a2 n2 c2 y p r w B ⟨s,e1,e2,e3,e4⟩ P.l2 M.s2 M.z2;rw[At,hz];exact this|@lett i x h F ac=>
  intro ts ty d ls J a n c a1 j c1 a2 n2 c2 y p r w M L;obtain⟨hi,hx⟩:=zL.1 h;obtain⟨b,A,rfl,B,an,nn,cn,K,G,C,s,e1,e2,e3,e4,hS,E⟩:=M.bR.cells _ hi;rw[hx]at s e1 e2 hS E;have D:=M.bR.len ▸ hi;rw[An]at d;by_cases h0:0<=x.num
  .rw[K1 h0,<-J,zi]at d;cases hq:ls[x.num.toNat]?with|none=>rw[hq]at d;cases d|some v=>obtain⟨ar,ab⟩:=zL.1 hq;obtain⟨g,o,num,text,au,av,aw,ax,hg,ay,az,aA,aB,hm⟩:=L.2.2 _ ar;rw[ab]at hm;have:=Afz x F x.num.toNat Oa b A n c _ D M.bR.aH an nn cn K G C R a1 j c1 a2 n2 c2 (Z<|jB g o V) p r w B ⟨s,e1,e2,e3,e4⟩ (G7 L.1) L.2.1 g o hg num text au av aw v ay az aA aB hm;rw[At,hq,ax];exact this
  rw[K0 h0]at d;cases d|@un i k x e h F ac aq t aC=>intro ts ty d ls J a n c a1 j c1 a2 n2 c2 y p r w M L;obtain⟨hi,hx⟩:=zL.1 h;obtain⟨b,A,rfl,B,an,nn,cn,K,G,C,s,e1,e2,e3,e4,hS,E⟩:=M.bR.cells _ hi;rw[hx]at s e1 e2 hS E;have D:=M.bR.len ▸ hi;rw[ac]at E;obtain rfl:1=G:=E.len;obtain⟨O,S,rfl,W,kc⟩:=Qo E;have c0:=kc 0 Oz;rw[An]at d;cases hq:An ts e with|none=>rw[hq]at d;cases d|some af=>rw[hq]at d;have H:∀w2,Ak w w2->_:=λw2 I=>aC ts af hq ls J _ n c a1 j c1 a2 n2 c2 y p r w2 (M.below I NLN)<|L.below I NLN;rw[At];cases ab:At R ls e with|err z=>rw[ab]at H;exact Lv x Oa k b A n c i D M.bR.aH an nn cn O S 1 C R a1 j c1 a2 n2 c2 y p r w B W ⟨s,e1,e2,e3,e4⟩ Oa c0 z H|ok v=>rw[ab]at H;have ah:=AZ J e af hq v ab;exact AiF x F k b A n c i D M.bR.aH an nn cn O S C R a1 j c1 a2 n2 c2 y p r w B W ⟨s,e1,e2,e3,e4⟩ c0 v ty (by rw[ah];exact d) H
 |@bin i k l x e f h F ac aq t u al ao=>intro ts ty d ls J a n c a1 j c1 a2 n2 c2 y p r w M L;obtain⟨hi,hx⟩:=zL.1 h;obtain⟨b,A,rfl,B,an,nn,cn,K,G,C,s,e1,e2,e3,e4,hS,E⟩:=M.bR.cells _ hi;rw[hx]at s e1 e2 hS E;have D:=M.bR.len ▸ hi;rw[ac]at E;obtain rfl:2=G:=E.len;obtain⟨O,S,rfl,W,kc⟩:=Qo E;have c0:=kc 0 Oz;have ad:=kc 1 Oz;rw[An]at d;cases hq:An ts e with|none=>rw[hq]at d;cases d|some af=>rw[hq]at d;dsimp only at d;cases ag:An ts f with|none=>rw[ag]at d;cases d|some ak=>rw[ag]at d;dsimp only at d;have H:∀w2,Ak w w2->_:=λw2 I=>al ts af hq ls J _ n c a1 j c1 a2 n2 c2 y p r w2 (M.below I NLN)<|L.below I NLN;have aa:∀w2,Ak w w2->_:=λw2 I=>ao ts ak ag ls J _ n c a1 j c1 a2 n2 c2 y p r w2 (M.below I NLN)<|L.below I NLN;rw[At];cases ab:At R ls e with|err z=>rw[ab]at H;exact Lv x Oa k b A n c i D M.bR.aH an nn cn O S 2 C R a1 j c1 a2 n2 c2 y p r w B W ⟨s,e1,e2,e3,e4⟩ Oa c0 z H|ok v=>
     rw[ab]at H;have ah:=AZ J e af hq v ab;dsimp only;by_cases ai:x.op=25
     .have I:v.ty=1:=by rw[ah];obtain q|q|q|q|q|q|q:=BP d;all_goals first|exact q.2.1|omega
      rw[ai];obtain⟨rfl,hd⟩|⟨rfl,hd⟩:=AiG I
      .rw[hd,K1 rfl];exact Qn x 25 ai jI (.inl ⟨rfl,rfl⟩) k l b A n c i D M.bR.aH an nn cn O S C R a1 j c1 a2 n2 c2 y p r w B W ⟨s,e1,e2,e3,e4⟩ c0 ad H
      rw[hd,K0 Oz];cases ae:At R ls f with|err z=>rw[ae]at aa;exact Iz x 25 ai (.bool jG) (.err z) Oa (.inl ⟨rfl,rfl⟩) k l b A n c i D M.bR.aH an nn cn O S C R a1 j c1 a2 n2 c2 y p r w B W ⟨s,e1,e2,e3,e4⟩ c0 ad H aa|ok u=>rw[ae]at aa;dsimp only;rw[K1<|.inl rfl];exact Iz x 25 ai (.bool jG) (.ok u) Oa (.inl ⟨rfl,rfl⟩) k l b A n c i D M.bR.aH an nn cn O S C R a1 j c1 a2 n2 c2 y p r w B W ⟨s,e1,e2,e3,e4⟩ c0 ad H aa
     by_cases aj:x.op=26
     .have I:v.ty=1:=by rw[ah];obtain q|q|q|q|q|q|q:=BP d;all_goals first|exact q.2.1|omega
      rw[aj];obtain⟨rfl,hd⟩|⟨rfl,hd⟩:=AiH I
      .rw[hd,K1 rfl];exact Qn x 26 aj jG (.inr ⟨rfl,rfl⟩) k l b A n c i D M.bR.aH an nn cn O S C R a1 j c1 a2 n2 c2 y p r w B W ⟨s,e1,e2,e3,e4⟩ c0 ad H
      rw[hd,K0 Oz];cases ae:At R ls f with|err z=>rw[ae]at aa;exact Iz x 26 aj (.bool jI) (.err z) Oa (.inr<|.inl ⟨rfl,rfl⟩) k l b A n c i D M.bR.aH an nn cn O S C R a1 j c1 a2 n2 c2 y p r w B W ⟨s,e1,e2,e3,e4⟩ c0 ad H aa|ok u=>rw[ae]at aa;dsimp only;rw[K1<|.inr rfl];exact Iz x 26 aj (.bool jI) (.ok u) Oa (.inr<|.inl ⟨rfl,rfl⟩) k l b A n c i D M.bR.aH an nn cn O S C R a1 j c1 a2 n2 c2 y p r w B W ⟨s,e1,e2,e3,e4⟩ c0 ad H aa
     rw[Adv ai aj,K0 Oz];cases ae:At R ls f with|err z=>rw[ae]at aa;exact Iz x _ rfl v (.err z) Oa (.inr<|.inr ⟨Oa,Oa,z,rfl⟩) k l b A n c i D M.bR.aH an nn cn O S C R a1 j c1 a2 n2 c2 y p r w B W ⟨s,e1,e2,e3,e4⟩ c0 ad H aa|ok u=>rw[ae]at aa;have aD:=AZ J f ak ag u ae;dsimp only;rw[K0 Oa];exact Aai x Oa v u ty (by rw[ah,aD];exact d) k l b A n c i D M.bR.aH an nn cn O S C R a1 j c1 a2 n2 c2 y p r w B W ⟨s,e1,e2,e3,e4⟩ c0 ad H aa
 |@ite i k l m x e f g h F ac aq t u v al ao aE=>intro ts ty d ls J a n c a1 j c1 a2 n2 c2 y p r w M L;obtain⟨hi,hx⟩:=zL.1 h;obtain⟨b,A,rfl,B,an,nn,cn,K,G,C,s,e1,e2,e3,e4,hS,E⟩:=M.bR.cells _ hi;rw[hx]at s e1 e2 hS E;have D:=M.bR.len ▸ hi;rw[ac]at E;obtain rfl:3=G:=E.len;obtain⟨O,S,rfl,W,kc⟩:=Qo E;have c0:=kc 0 Oz;have ad:=kc 1 Oz;have g0:=kc 2 Oz;rw[An]at d;cases hq:An ts e with|none=>rw[hq]at d;cases d|some af=>rw[hq]at d;dsimp only at d;cases ag:An ts f with|none=>rw[ag]at d;cases d|some ak=>rw[ag]at d;dsimp only at d;cases ap:An ts g with|none=>rw[ap]at d;cases d|some aF=>rw[ap]at d;dsimp only at d;have H:∀w2,Ak w w2->_:=λw2 I=>al ts af hq ls J _ n c a1 j c1 a2 n2 c2 y p r w2 (M.below I NLN)<|L.below I NLN;have aa:∀w2,Ak w w2->_:=λw2 I=>ao ts ak ag ls J _ n c a1 j c1 a2 n2 c2 y p r w2 (M.below I NLN)<|L.below I NLN;have aG:∀w2,Ak w w2->_:=λw2 I=>aE ts aF ap ls J _ n c a1 j c1 a2 n2 c2 y p r w2 (M.below I NLN)<|L.below I NLN;rw[JL];cases ab:At R ls e with|err z=>rw[ab]at H;exact Lv x Oa k b A n c i D M.bR.aH an nn cn O S 3 C R a1 j c1 a2 n2 c2 y p r w B W ⟨s,e1,e2,e3,e4⟩ Oa c0 z H|ok v=>rw[ab]at H;have ah:=AZ J e af hq v ab;obtain⟨aI,rfl⟩:=Vv.bC (v:=v) (by rw[ah];exact Aaj d);cases aI with|true=>exact Xq jG 1 rfl x F k l b A n c i D M.bR.aH an nn cn O S C R a1 j c1 a2 n2 c2 y p r w B W ⟨s,e1,e2,e3,e4⟩ c0 ad _ H aa|false=>exact Xq jI 2 rfl x F k m b A n c i D M.bR.aH an nn cn O S C R a1 j c1 a2 n2 c2 y p r w B W ⟨s,e1,e2,e3,e4⟩ c0 g0 _ H aG
end Go.Proofs.YtlcfoihgfcmfeaaGreatDoor
