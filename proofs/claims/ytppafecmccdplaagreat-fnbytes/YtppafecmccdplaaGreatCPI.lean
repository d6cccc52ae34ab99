import Derived.Test.YtppafecmccdplaaGreatMXAM
open Go.Proofs.Tryz
open Option renaming none->T,some->Y
open Go.Value renaming int->U,slice->X,string->Q,agg->jE
open Go.IntKind renaming i64->V
open Go.Obj renaming cells->jC
open Go.Proofs.Tryz renaming prog->jL
namespace Go.Proofs.YtppafecmccdplaaGreat
set_option maxRecDepth 100000
set_option maxHeartbeats 12800000
open Go.RowKit
set_option linter.unusedVariables false
set_option linter.unusedSimpArgs false
structure CmS (w3:World) (tb ob sb:Nat) (vT vS:Array Value) (kN:Nat) (wx:World):Prop where
 RT:Ah wx tb vT 69
 RO:Ah wx ob #[X T 0 0,U V 0,X T 0 0] 26
 RC:Ah wx w3.heap.size #[X T 0 0,U V (kN:Int),X T 0 0] 26
 RS:Ah wx sb vS 93
 E:An w3 wx
section
variable {w3 wx wy : World} {tb ob sb : Nat} {vT vS : Array Value} {kN : Nat}
theorem CmS.step (h:CmS w3 tb ob sb vT vS kN wx)(F:KJ wx wy)(M:Below (w3.heap.size+1) wx wy):CmS w3 tb ob sb vT vS kN wy:=
 ⟨F _ _ _ h.RT (by decide),F _ _ _ h.RO (by decide),F _ _ _ h.RC (by decide),F _ _ _ h.RS (by decide),h.E.trans (M.mono (zh _))⟩
theorem CmS.below (h:CmS w3 tb ob sb vT vS kN wx)(a:An wx wy):CmS w3 tb ob sb vT vS kN wy:=h.step (KJ.of_below a) (a.mono h.RC.lt)
end
def Jv (Es:List Ex) (cd:Int) (a:Nat):List I5:=if cd= -1 then []else Ar (Dh Es cd) a
theorem Aga (Es:List Ex)(k a:Nat)(b:Int)(nm:ByteArray)(cd c:Int)(h:b=2/\cd≠-1\/b=3/\cd= -1):
  KO Es k a ⟨b,nm,cd,c⟩=Jv Es cd a++(if b=2 then [⟨23,((a+(Jv Es cd a).length+1+(hD Es c (a+(Jv Es cd a).length+1)).length:Nat):Int),Ax⟩]else [])++hD Es c (a+(Jv Es cd a).length+(if b=2 then 1 else 0)):=by
 rcases h with⟨rfl,h⟩|⟨rfl,rfl⟩
 ·simp[KO,Jv,h]
 ·simp[KO,Jv]
theorem Um (a b e:Option Addr)(n c m d k f:Nat)(N:List Nd)(L:List St)(T:List Int)(w:World)(h1:IY w a n c N)(aw:Ss w b m d L)(c9:Em w e k f T)(dX:NmZ w a N):
  Calls jL 28 #[jE #[X a n c,X b m d,X e k f]] w fun r w'=>∃o,Lu N L T o/\CpA o w r w':=by
 have da:=AN w (Nr a n c b m d e k f);have aZ:=da.alloc da.size (jC #[X none 0 0,U V 0,X none 0 0] 26);have RT:=(Ah.new w #[X a n c,X b m d,X e k f] 69).alloc (jC #[X none 0 0,U V 0,X none 0 0] 26);have RO:=Ah.new (w.alloc (Nr a n c b m d e k f)) #[X none 0 0,U V 0,X none 0 0] 26;simp only[World.size_alloc]at RO;have bN:=h1.below aZ NLN;have cr:=aw.below aZ NLN;have db:=c9.below aZ NLN;have bk:=Ab h1.len;have dc:=Ab aw.len;have gF:=aw.small;have dY:=Ab (dX.below h1 aZ);clear h1 aw c9 dX da;go_enter func28,ntmps28
 go_wp2_with fail
 generalize (w.alloc (Nr a n c b m d e k f)).alloc (jC #[X none 0 0,U V 0,X none 0 0] 26)=e8 at aZ RT RO bN cr db dY|-;generalize dZ:w.heap.size=ax at aZ RT RO|-;have cs:=Ab dZ;generalize ct:ax+1=J at RO|-;have bl:ax<=J:=by omega
 have gG:ax≠J:=by omega
 clear dZ ct;refine(JO _ _ _ _ _ _ _ _ _ N L T _ bN cr db).mono ?_;rintro r l ⟨⟨v,rfl,hv⟩,bm⟩;have bO:ax<=e8.heap.size:=by have:=RT.lt;omega
 have dd:=aZ.trans (bm.mono bO);have de:=RT.after bm NLN;have bn:=RO.after bm NLN;have e9:=Ab ((Aa dY).below bN bm);have d0:=bN.below bm NLN;have d3:=cr.below bm NLN;clear bN cr db RT RO;cases v with
 |false=>
  have df:=Ab (show Lu N L T ⟨[],0,[]⟩from .inl ⟨hv,rfl⟩);clear hv;obtain⟨fa,fb,fc⟩:=Ao bn;have fd:=fun j=>bn.frozen j;obtain⟨bo,bp,br⟩:=Ao (((bn.set 0 (X none 0 0)).set 1 (U V 0)).set 2 (X none 0 0));have fe:=((dd.setCell (p:=⟨J,0,none⟩) bl (X none 0 0)).setCell (p:=⟨J,1,none⟩) bl (U V 0)).setCell (p:=⟨J,2,none⟩) bl (X none 0 0);dsimp only;go_wp2_with fail
  refine bodyPost_ret (v:= jE #[X none 0 0,U V 0,X none 0 0]) (by simp[results,results28,go_sem,bo,bp,br]) rfl ⟨⟨[],0,[]⟩,Aa df,none,0,none,0,[],rfl,BU.nil _ _,World.ownsRow_nil _ _ _ _,?_⟩
  show Below _ _ _;rw[Aa cs];exact fe
 |true=>
  have dg:=Ab hv;clear hv;have cu:=AN l (jC #[X none 0 0,U V 0,X none 0 0] 26);have dh:=de.after cu NLN;have d4:=bn.after cu NLN;have d5:=Ah.new l #[X none 0 0,U V 0,X none 0 0] 26;obtain⟨u0,u1,u2⟩:=Ao dh;have di:CR N L=true:=by
   rcases Aa dg with⟨_,h⟩|⟨h,_⟩
   ·cases h
   ·exact h
  have aO:=Ab (BP di);have d6:=Ab di;clear di;dsimp only;go_wp2_with fail
  have d7:=Ab (Aa aO).fields;obtain⟨Es,bP,bQ⟩:=Gu (Aa aO);have df:=Ab (show Lu N L T (Lh Es L)from .inr ⟨Aa dg,Es,bP,bQ,rfl⟩);have ff:=Ab bP;have fg:=Ab bQ;have d8:=Ab (Zi (Aa d6) bP bQ);have cv:=Ab (show ∀s∈L,(s.cond= -1\/(0<=s.cond/\s.cond<Es.length))/\(s.grant= -1\/(0<=s.grant/\s.grant<Es.length)) by rw[bP];exact(Aa aO).roots);have dj:=Ab (show U6 Es L<=13200 by have:=XR Es L (Aa cv);have:=Aa d8;have:=(Aa aO).m;omega);have cw:=Ab (show ∀t∈L,t.kind=3\/t.cond≠-1 from fun t dk=>by have:=(Aa aO).stm t dk;omega);have dl:=Ab (show ∀q:Nat,q<Es.length->∀aR,An l aR->Calls jL 53 #[X a n c,U V q] aR (L4C l (Dh Es q) aR)from fun q ab aR cx=>by
   have e:Dh Es (q:Int)=Es[q]:=by rw[Dh,zb,zo,zL ab];rfl
   rw[e];exact Acf l a n c N d0 (Aa e9) (Aa d7) (bQ q ab) aR cx)
  have gH:J<l.heap.size:=bn.lt;have gI:ax<l.heap.size:=de.lt;have gJ:m<=600:=by have:=(Aa aO).m;rw[Aa dc]at this;exact this
  have d9:=Ab d3;clear bQ bP d8 d7 d0 d3 de bn u0 u1 u2;go_loopw [3,24] (fun v i wr=>∃j:Nat,j<=m/\i=U V j/\BY l (l.heap.size+1) v (CC Es 0 0 (L.take j)) wr/\Ah wr ax #[X a n c,X b m d,X e k f] 69/\Ah wr J #[X none 0 0,U V 0,X none 0 0] 26/\Ah wr l.heap.size #[X none 0 0,U V (Db (L.take j):Nat),X none 0 0] 26/\An l wr/\l.heap.size+1<=wr.heap.size) (fun _ i _=>m-(intOf i).toNat)
  case atStart=>exact⟨0,zE _,rfl,BY.nil _ _ _,dh,d4,d5,cu,by simp⟩
  case round=>
   clear dh d4 d5 cu;obtain⟨j,cy,rfl,H,RT,RO,RC,bR,dm⟩:=hrel;by_cases dn:j<m
   ·have gK:(j:Int)<(m:Int):=by omega
    have a0:j<L.length:=by rw[Aa dc];exact dn
    obtain⟨cz,so,fh,gL,c0,c1,c2,c3⟩:=((Aa d9).below bR NLN).cells j a0;subst fh;obtain⟨bS,bT⟩:=Aa cv L[j] (zH a0);have bU:=(Aa aO).stm L[j] (zH a0);have fi:=Tc Es (L.take j) (fun t dk=>Aa cw t (List.mem_of_mem_take dk));have room:=Ab7 Es L j a0;have bV:(CC Es 0 0 (L.take j)).length+(Er Es L[j].cond+Er Es L[j].grant+2)<=13200:=by have:=Aa dj;omega
    have bW:=Ab (show CC Es 0 0 (L.take (j+1))=CC Es 0 0 (L.take j)++KO Es (Db (L.take j)) (CC Es 0 0 (L.take j)).length L[j] by rw[zc a0,Qk,zP,zP]);have cA:=Ab (show Db (L.take (j+1))=Db (L.take j)+KR L[j] by rw[zc a0,XU]);have fj:(Db (L.take j):Int)<=600:=by have:=Vq (L.take j);have:=List.length_take_le j L;omega
    have cB:=Ab dn;clear fi room dn;generalize L[j]=s at c0 c1 c2 c3 bS bT bU bV bW cA;clear a0;generalize CC Es 0 0 (L.take j)=F at H bV bW;generalize Db (L.take j)=I at RC bW cA fj;obtain⟨M,nm,cd,O⟩:=s;dsimp only at c0 c1 c2 c3 bS bT bU bV;obtain⟨ea,ca,rfl,_⟩:=H.form;have gM:l.heap.size<wr.heap.size:=dm;go_upto_region 8 with fail
    refine Gh (P:=Code.wp _ _ _ _) fun fk aD RS=>?_;have x:CmS l ax J wr.heap.size #[X a n c,X (Y ⟨cz,so,none⟩) m d,X e k f] #[U V M,Q nm,U V cd,U V O] I fk:=⟨RT.after aD NLN,RO.after aD NLN,RC.after aD NLN,RS,bR.trans (aD.mono bR.size)⟩
    replace H:=H.below aD;have dp:(Jv Es cd F.length).length<=Er Es cd:=by
     unfold Jv Er;split
     ·exact zE _
     ·rw[AM];exact NLN
    have fl:∀z,(hD Es O z).length<=Er Es O+1:=fun z=>by
     unfold hD Er;split
     ·simp
     ·simp[AM]
    obtain⟨ac,dq⟩:∃ac,ac=Jv Es cd F.length:=⟨_,rfl⟩
    rw[<-dq]at dp;have cC:=Ab dq;obtain⟨bX,ct⟩:∃bX,bX=wr.heap.size:=⟨_,rfl⟩
    rw[<-ct]at x|-;clear RT RO RC RS bR aD c0 c1 c2 c3 dq ct dm;obtain⟨ao,ap,aq⟩:=Ao x.RT;obtain⟨af,ag,ah⟩:=Ao x.RC;obtain⟨ar,s1,s2,au⟩:=AC x.RS;go_upto_if 32 with fail
    go_cut [3] (fun v az=>Hid (BY l (l.heap.size+1) v (F++ac) az/\CmS l ax J bX #[X a n c,X (Y ⟨cz,so,none⟩) m d,X e k f] #[U V M,Q nm,U V cd,U V O] I az))
    case first=>
     by_cases hc:cd= -1
     ·have ad: ¬ ((0 :Int)<=cd):=by omega
      have e:ac=[]:=by rw[Aa cC,Jv,if_pos hc]
      subst e;clear hc;go_wp2
      go_meet
      exact Ab ⟨by rw[zd];exact H,x⟩
     ·obtain⟨q,rfl⟩:∃q:Nat,cd=q:=⟨cd.toNat,by omega⟩
      have ad:(0 :Int)<=(q:Int):=by omega
      have aA:=Ab (Aa dl q (by omega));have bY:Er Es (q:Int)=Am (Dh Es q):=by rw[Er,if_neg hc]
      have bs:=Ab (show ac=Ar (Dh Es q) F.length by rw[Aa cC,Jv,if_neg hc]);rw[bY]at bV dp;generalize Dh Es (q:Int)=e1 at aA bV dp bs;clear hc bY bS bT bU;go_wp2_with fail
      refine(Aa aA _ x.E).mono ?_;rintro r wz ⟨⟨fm,fn,fo,fp,fq,fr,fs,ft,fu⟩,rfl,hs,ai⟩;have cD:=Ab ((hs wz ⟨NLN,fun _ _ _=>rfl⟩ (by omega)).2 F.length (by omega));replace x:=x.below ai;replace H:=H.below ai;clear hs ai ao ap aq af ag ah ar s1 s2 au;obtain⟨ao,ap,aq⟩:=Ao x.RT;obtain⟨af,ag,ah⟩:=Ao x.RC;obtain⟨ar,s1,s2,au⟩:=AC x.RS;dsimp only;go_wp2_with fail
      refine(Aa cD).mono ?_;rintro r bZ ⟨⟨u,rfl,G⟩,ai⟩;replace x:=x.below ai;replace H:=H.below ai;obtain⟨fv,c3,dr,-⟩:=G.form;subst dr;rw[<-Aa bs]at G;have fw:ac.length=Am e1:=by rw[Aa bs,AM]
      have eb:=Dx e1;obtain⟨ds,dt,du,cE,cF,cG,cH⟩:=G.src (by omega);subst du;have gN:=x.E.size;have gO:=x.RC.lt;clear ao ap aq af ag ah ar s1 s2 au;dsimp only;rw[AM,<-fw];go_wp2_with (at_builtin;refine FV rfl _ _ rfl l (l.heap.size+1) _ F rfl H ⟨ds,0,none⟩ ac.length c3 dt rfl cE cG cH (by omega) (by omega) ?_)
      intro fx fy c4 fz bt bu b0 _ gP
      try rw[cF]at bt
      have a1:=Ab (And.intro bt (x.step b0 bu));clear bt bu b0 x H;go_wp2
      go_meet
      exact a1
    case rest=>
     obtain⟨a2,W⟩:=Aa hcut;clear hcut x H ao ap aq af ag ah ar s1 s2 au;obtain⟨fA,cc,rfl,_⟩:=a2.form;obtain⟨y,hy⟩:∃y,(F++ac).length=y:=⟨_,rfl⟩
     have ec:y=F.length+ac.length:=by rw[<-hy,zB]
     rw[hy]at a2|-;obtain⟨ao,ap,aq⟩:=Ao W.RT;obtain⟨af,ag,ah⟩:=Ao W.RC;have dv:=W.RC.frozen;obtain⟨ar,s1,s2,au⟩:=AC W.RS;have gQ:=W.E.size;have gR:=W.RC.lt;have cI:=Ab ec;have ed:y+Er Es O+2<=13200:=by omega
     clear hy ec;by_cases h1:M=1
     ·subst h1;have a3:=Ab (show KO Es I F.length ⟨1,nm,cd,O⟩=ac++[⟨4,(I:Int),Ax⟩] by
       have:cd≠-1:=by omega
       rw[Aa cC];simp[KO,Jv,this])
      clear bU bS bT;have bv:=AN wc (jC #[U V 4,U V (I:Int),U V 0,U V 0,Q ⟨#[]⟩,X none 0 0] 113);go_wp2_with (at_builtin;refine FV rfl _ _ rfl l (l.heap.size+1) _ (F++ac) rfl (a2.below bv) ⟨wc.heap.size,0,none⟩ 1 1 [AQ 4 (I:Int)] rfl rfl (OG.plain _ _ _) (DH wc (AQ 4 (I:Int)) _ (by simp)) (by have:=Aa cI;simp only[zB];omega) (by simp;omega) ?_)
      intro fB fC c5 dw bw b1 b2 _ gS;have aS:=(W.below bv).step b2 b1;clear ao ap aq af ag ah dv ar s1 s2 au;obtain⟨af,ag,ah⟩:=Ao aS.RC;have dv:=aS.RC.frozen;have gT:=aS.E.size;have gU:=aS.RC.lt;have ee:=aS.RC.set 1 (U V ((I:Int)+1));simp only[zV,zX,zQ]at ee;have fD:=aS.RT.setFar (p:=⟨l.heap.size,1,none⟩) (by show ax≠l.heap.size;omega) (U V ((I:Int)+1));have fE:=aS.RO.setFar (p:=⟨l.heap.size,1,none⟩) (by show J≠l.heap.size;omega) (U V ((I:Int)+1));have fF:=Ab (bw.keepB (w':=dw.setCell ⟨l.heap.size,1,none⟩ (U V ((I:Int)+1))) (fun z b3=>heap_setCell_other dw _ z _ (by have:=(bw.lt z b3).1;show z≠l.heap.size;omega)));have fG:=aS.E.setCell (p:=⟨l.heap.size,1,none⟩) NLN (U V ((I:Int)+1));clear bw b1 b2 bv a2 W;go_wp2
      go_roundw
      case rel=>
       refine⟨j+1,Aa cB,by go_num,?_,fD,fE,?_,fG,by simp;omega⟩
       ·rw[Aa bW,Aa a3];have:=Aa fF;simpa[List.append_assoc,AQ]using this
       ·have e:((I+KR ⟨1,nm,cd,O⟩:Nat):Int)=(I:Int)+1:=by simp[KR]
        rw[Aa cA,e];exact ee
      case measure=>have:=Aa cB;simp[intOf];omega
     have gV:(M==1)=false:=zA.2 h1;have a4:M=2/\cd≠-1\/M=3/\cd= -1:=by omega
     have a3:=Ab (Aga Es I F.length M nm cd O a4);rw[<-Aa cC,<-Aa cI]at a3;obtain⟨aa,hat⟩:∃aa:Nat,aa=y+(if M=2 then 1 else 0):=⟨_,rfl⟩
     have b4:M=2/\aa=y+1\/M=3/\aa=y:=by rcases a4 with h|h<;>simp[h.1,hat]
     rw[<-hat]at a3;clear hat bU h1;obtain⟨aJ,rfl⟩:∃aJ,aJ=wc:=⟨_,rfl⟩
     go_upto_if 59 with fail
     go_cut [9] (fun v az=>v=U V (aa:Int)/\az=aJ)
     case first=>
      rcases b4 with⟨h,rfl⟩|⟨h,rfl⟩
      ·have cJ:(M==2)=true:=zF.2 h;clear h a4;go_wp2
       go_meet
       exact⟨by simp,rfl⟩
      ·have cJ:(M==2)=false:=zA.2 (by omega);clear h a4;go_wp2
       go_meet
       exact⟨rfl,rfl⟩
     case rest=>
      obtain⟨rfl,ef⟩:=hcut;rw[ef];clear ef;have gW:aa<=y+1:=by omega
      obtain⟨ae,dx⟩:∃ae,ae=hD Es O aa:=⟨_,rfl⟩
      have fH:=fl aa;rw[<-dx]at a3 fH;have cK:=Ab dx;clear dx;go_upto_region 19 with fail
      have b5:=AN aJ (jC #[U V 24,U V 0,U V 0,U V 0,Q ⟨#[]⟩,X none 0 0] 113);have bx:=BY.lit l aJ aJ.heap.size (AQ 24 0) (Qh.none0 l) NLN;have dy:=fun q ab=>(a2.lt q ab).2;have x:=W.below b5;have H:=a2.below b5;have eg:l.heap.size+1<=aJ.heap.size:=W.RC.lt;dsimp only[AQ,Ax]at bx;generalize aJ.alloc (jC #[U V 24,U V 0,U V 0,U V 0,Q ⟨#[]⟩,X none 0 0] 113)=fI at bx x H b5|-;have eh:aJ.heap.size<=fI.heap.size:=b5.size;clear b5;generalize aJ.heap.size=b6 at bx dy eg eh|-;clear ao ap aq af ag ah dv ar s1 s2 au W a2;obtain⟨ao,ap,aq⟩:=Ao x.RT;obtain⟨af,ag,ah⟩:=Ao x.RC;obtain⟨ar,s1,s2,au⟩:=AC x.RS;go_upto_if 66 with fail
      go_cut [7] (fun v az=>Hid (BY l b6 v ae az/\BY l (l.heap.size+1) (X fA y cc) (F++ac) az/\CmS l ax J bX #[X a n c,X (Y ⟨cz,so,none⟩) m d,X e k f] #[U V M,Q nm,U V cd,U V O] I az))
      case first=>
       by_cases hg:O= -1
       ·have ad: ¬ ((0 :Int)<=O):=by omega
        have e:ae=[⟨24,0,Ax⟩]:=by rw[Aa cK,hD,if_pos hg]
        subst e;clear hg;go_wp2
        go_meet
        exact Ab ⟨bx,H,x⟩
       ·obtain⟨q,rfl⟩:∃q:Nat,O=q:=⟨O.toNat,by omega⟩
        have ad:(0 :Int)<=(q:Int):=by omega
        have aA:=Ab (Aa dl q (by omega));have bY:Er Es (q:Int)=Am (Dh Es q):=by rw[Er,if_neg hg]
        have bs:=Ab (show ae=Ar (Dh Es q) aa++[⟨25,0,Ax⟩] by rw[Aa cK,hD,if_neg hg]);rw[bY]at ed;generalize Dh Es (q:Int)=e1 at aA ed bs;clear hg bY bS bT bx b4 a4;go_wp2_with fail
        refine(Aa aA _ x.E).mono ?_;rintro r wz ⟨⟨fm,fn,fo,fp,fq,fr,fs,ft,fu⟩,rfl,hs,ai⟩;have cD:=Ab ((hs wz ⟨NLN,fun _ _ _=>rfl⟩ (by omega)).2 aa (by omega));replace x:=x.below ai;replace H:=H.below ai;have ei:b6<=wz.heap.size:=zC eh ai.size;clear hs ai ao ap aq af ag ah ar s1 s2 au;obtain⟨ao,ap,aq⟩:=Ao x.RT;obtain⟨af,ag,ah⟩:=Ao x.RC;obtain⟨ar,s1,s2,au⟩:=AC x.RS;dsimp only;go_wp2_with fail
        refine(Aa cD).mono ?_;rintro r bZ ⟨⟨u,rfl,G⟩,ai⟩;replace x:=x.below ai;replace H:=H.below ai;obtain⟨fv,c3,dr,-⟩:=G.form;subst dr;replace G:=G.low ei;have gY:b6<=bZ.heap.size:=zC ei ai.size;have cL:=AN bZ (jC #[U V 25,U V 0,U V 0,U V 0,Q ⟨#[]⟩,X none 0 0] 113);clear ao ap aq af ag ah ar s1 s2 au cD;dsimp only;go_wp2_with (at_builtin;refine FV rfl _ _ rfl l b6 _ (Ar e1 aa) rfl (G.below cL) ⟨bZ.heap.size,0,none⟩ 1 1 [AQ 25 0] rfl rfl (OG.plain _ _ _) (DH bZ (AQ 25 0) _ (by simp)) (by rw[AM];omega) (by simp;omega) ?_)
        intro fx fy c4 fz bt bu b0 _ _;have a1:=Ab (And.intro bt (And.intro ((H.below cL).keepB fun q ab=>bu.block q (dy q ab)) ((x.below cL).step b0 (bu.mono eg))));clear bt bu b0 x H cL G;go_wp2
        go_meet
        exact Ab ⟨by rw[Aa bs];exact(Aa a1).1,(Aa a1).2⟩
      case rest=>
       obtain⟨aT,H,x⟩:=Aa hcut;clear hcut bx ao ap aq af ag ah ar s1 s2 au;have fJ: 0<ae.length:=by rw[Aa cK,hD];split<;>simp
       obtain⟨fK,ej,rfl,_⟩:=aT.form;obtain⟨aU,cM⟩:∃aU:List I5,aU=if M=2 then [⟨23,((aa+ae.length:Nat):Int),Ax⟩]else []:=⟨_,rfl⟩
       have fL:=Ab (show KO Es I F.length ⟨M,nm,cd,O⟩=ac++aU++ae by
        rw[Aa a3,cM];rcases b4 with⟨h,h'⟩|⟨h,h'⟩
        ·rw[if_pos h,if_pos h,Aa cK,h']
        ·rw[if_neg (by omega),if_neg (by omega)])
       have ek:=Ab cM;have gZ:aU.length<=1:=by rw[cM];split<;>simp
       clear cM a3;have g0:=x.E.size;have g1:=x.RC.lt;obtain⟨ao,ap,aq⟩:=Ao x.RT;obtain⟨ar,s1,s2,au⟩:=AC x.RS;go_upto_if 79 with fail
       go_cut [3] (fun v az=>Hid (BY l (l.heap.size+1) v (F++ac++aU) az/\BY l b6 (X fK ae.length ej) ae az/\CmS l ax J bX #[X a n c,X (Y ⟨cz,so,none⟩) m d,X e k f] #[U V M,Q nm,U V cd,U V O] I az))
       case first=>
        by_cases aw:M=2
        ·have cJ:(M==2)=true:=zF.2 aw;have fM:=Ab (show aU=[(AQ 23 ((aa:Int)+(ae.length:Int))).i] by rw[Aa ek,if_pos aw];rfl);have fN:(aa:Int)+(ae.length:Int)<=13300:=by omega
         have C8:=AN wc (jC #[U V 23,U V ((aa:Int)+(ae.length:Int)),U V 0,U V 0,Q ⟨#[]⟩,X none 0 0] 113);clear aw b4 a4;go_wp2_with (at_builtin;refine FV rfl _ _ rfl l (l.heap.size+1) _ (F++ac) rfl (H.below C8) ⟨wc.heap.size,0,none⟩ 1 1 [AQ 23 ((aa:Int)+(ae.length:Int))] rfl rfl (OG.plain _ _ _) (DH wc (AQ 23 ((aa:Int)+(ae.length:Int))) _ (by simp)) (by have:=Aa cI;simp only[zB];omega) (by simp;omega) ?_)
         intro fB fC c5 dw bw b1 b2 el _;have a1:=Ab (And.intro bw (And.intro ((aT.below C8).keepB fun q ab=>el q (by have:=((aT.below C8).lt q ab).2;simpa using this) fun e=>by have:=dy q e;have:=(aT.lt q ab).1;omega) ((x.below C8).step b2 b1)));clear bw b1 b2 el C8;go_wp2
         go_meet
         exact Ab ⟨by rw[Aa fM];simpa[List.append_assoc]using (Aa a1).1,(Aa a1).2⟩
        ·have cJ:(M==2)=false:=zA.2 aw;have e:aU=[]:=by rw[Aa ek,if_neg aw]
         subst e;clear aw b4 a4;go_wp2
         go_meet
         exact Ab ⟨by rw[zd];exact H,aT,x⟩
       case rest=>
        obtain⟨dz,aT,x⟩:=Aa hcut;clear hcut H ao ap aq ar s1 s2 au;obtain⟨g2,g3,rfl,_⟩:=dz.form;obtain⟨ds,dt,du,cE,cF,cG,cH⟩:=aT.src fJ;subst du;have g4:=x.E.size;have g5:=x.RC.lt;go_wp2_with (at_builtin;refine FV rfl _ _ rfl l (l.heap.size+1) _ (F++ac++aU) rfl dz ⟨ds,0,none⟩ ae.length ej dt rfl cE cG cH (by have:=Aa cI;simp only[zB];omega) (by omega) ?_)
        intro g6 g8 g9 ha dA em en _ _
        try rw[cF]at dA
        have fO:=Ab dA;have b7:=x.step en em;have fP:=b7.RC.lt;clear dA em en x dz aT cE cF cG cH;go_wp2
        go_roundw
        case rel=>
         refine⟨j+1,Aa cB,by go_num,?_,b7.RT,b7.RO,?_,b7.E,fP⟩
         ·rw[Aa bW,Aa fL];simpa[List.append_assoc]using Aa fO
         ·have e:I+KR ⟨M,nm,cd,O⟩=I:=by rw[KR,if_neg (by show ¬ M=1;omega)];rfl
          rw[Aa cA,e];exact b7.RC
        case measure=>have:=Aa cB;simp[intOf];omega
   ·have fQ:j=m:=by omega
    subst fQ;rw[show L.take j=L by rw[<-Aa dc,yA]]at H RC;have cN:=Ab (show(AY ⟨[],0,[]⟩ (CC Es 0 0 L)).withS (Db L)=Lh Es L from(PX Es L).symm);have fR:(CC Es 0 0 L).length<=13200:=zC (Tc Es L (Aa cw)) (Aa dj);have dB:=Ql (Aa aO).fields (Aa ff) (Aa fg) L (Aa cv) (Aa cw) 0 0;generalize CC Es 0 0 L=F at H cN fR dB;generalize Db L=I at RC cN;obtain⟨ea,ca,rfl,fS⟩:=H.form;have dC:=Ab (show ∀z∈F,KU z.val from dB);clear dl d9 cv cw dj aO d6 dg;obtain⟨dD,dE,dF,dG,bO⟩:=info_parts IZ;obtain⟨b8,fT⟩:∃b8,b8=wr:=⟨_,rfl⟩
    subst fT;obtain⟨aK,dH,eo,cO⟩:=H;have dI:aK.length=F.length:=by rw[<-dH,zU]
    rw[dI]at cO;obtain⟨dJ,b9⟩:∃dJ,F.length=0\/∃ga,ea=Y ⟨ga,0,none⟩/\Ah b8 ga dJ 113/\ga≠l.heap.size/\∀r u,(aK.flatMap J5.cs)[r]? =Y u->dJ[r]? =Y u:=by
     rcases Nat.eq_zero_or_pos F.length with q|q
     ·exact⟨#[],.inl q⟩
     ·obtain⟨hb,c',e',fU⟩:=Ae cO;cases e';obtain⟨g,rfl,_,fV⟩:=fU q;obtain⟨fW,dK,_⟩:=Vr cO;exact⟨fW,.inr ⟨g,rfl,dK,dK.ne_type RC (by decide),fun r u hu=>(dK.cell r).symm.trans (fV r u hu)⟩⟩
    have ep:=Ab eo;have er:=Ab dH;have es:=Ab dI;have et:S2 b8 (l.heap.size+1) l.heap.size I (AY ⟨[],0,[]⟩ (F.take 0)) (X none 0 0) (X none 0 0) []:=⟨RC,BU.nil _ _,World.ownsRow_nil _ _ _ _,z5 _⟩
    have eu:=Ab b9;clear dH eo cO dI fS dB b9 RC RT cy dm;go_wp2_with fail
    go_loopw [94] (fun i dL=>∃ (q:Nat) (ev ew:Value) (bz:List Value),q<=F.length/\i=U V q/\S2 dL (l.heap.size+1) l.heap.size I (AY ⟨[],0,[]⟩ (F.take q)) ev ew bz/\K2 l.heap.size b8 dL/\An l dL) (fun i _=>F.length-(intOf i).toNat)
    case atStart=>exact⟨0,_,_,_,zE _,rfl,et,fun _ _ _ R _ _ _=>R,bR⟩
    case round=>
     clear et;obtain⟨q,ev,ew,bz,ab,rfl,S,K,cb⟩:=hrel;by_cases ce:q<F.length
     ·have hd:(q:Int)<(F.length:Int):=by omega
      rcases Aa eu with h0|⟨ga,rfl,b9,fX,ex⟩
      ·omega
      have ey:=K _ _ _ b9 fX (by decide) (by decide);have dM:q<aK.length:=by rw[Aa es];exact ce
      have dN:F[q]=aK[q].i:=by have:=Aa er;simp only[<-this,List.getElem_map]
      have aV:∀r,r<6->∀u,(aK[q].cs)[r]? =Y u->wr.cell? ⟨ga,q*6+r,none⟩=Y u:=fun r fY u hu=>(ey.cell (q*6+r)).trans (ex _ _ (by rw[Ab8 aK q dM r fY];exact hu));have c0:=aV 0 (by decide) _ rfl;have c1:=aV 1 (by decide) _ rfl;have c2:=aV 2 (by decide) _ rfl;have c3:=aV 3 (by decide) _ rfl;have c4:=aV 4 (by decide) _ rfl;have c5:=aV 5 (by decide) _ rfl;rw[ze]at c0;have a5:=Aa ep aK[q] (zH dM);have cf:KU aK[q].i.val:=by rw[<-dN];exact Aa dC _ (zH ce)
      have cg:=Ab (show AY ⟨[],0,[]⟩ (F.take (q+1))=A6 (AY ⟨[],0,[]⟩ (F.take q)) aK[q].i by rw[zc ce,DZ,dN];rfl);have ch:=Ab (show(AY ⟨[],0,[]⟩ (F.take q)).pool.length<=13200/\(AY ⟨[],0,[]⟩ (F.take q)).ins.length<=13200 by
       have h1:=Qm (F.take q) ⟨[],0,[]⟩;have aw:=Cf (F.take q) ⟨[],0,[]⟩;have c9:=List.length_take_le q F;simp only[List.length_nil,zP]at h1 aw;omega)
      have bA:=Ab (Mk (F.take q) ⟨[],0,[]⟩ (fun z b3=>Aa dC z (List.mem_of_mem_take b3)) (fun v hv=>absurd hv (by simp)));have bB:=Ab ce;generalize AY ⟨[],0,[]⟩ (F.take q)=s at S cg ch bA;generalize aK[q]=fZ at c0 c1 c2 c3 c4 c5 a5 cf cg;obtain⟨⟨op,arg,⟨B,C,D,A⟩⟩,aB,a6,ad⟩:=fZ;dsimp only at c0 c1 c2 c3 c4 c5 a5 cf;clear aV dN dM ce ey ex b9;have aD:=AN wr (jC #[U V op,U V arg,U V B,U V C,Q D,X aB a6 ad] 113);have aP:=Ah.new wr #[U V op,U V arg,U V B,U V C,Q D,X aB a6 ad] 113;have av:=S.below aD;have cj:=K.trans (K2.of_below aD);have aW:=cb.trans (aD.mono cb.size);by_cases cP:op=1
      ·subst cP;obtain rfl:=a5.1.len;obtain⟨xp,cp,rfl,_⟩:=Ae av.pool.own;obtain⟨bC,bD,bE⟩:=Ao av.row;have hf:s.pool.length<=13200:=(Aa ch).1;have hh:A.length<=255:=cf.2.1;have cQ:=av.pool.vls rfl (by omega) (Aa bA);obtain⟨a7,a8,a9,ba,bb,bc⟩:=Lk aP;have ck:=Ab (a5.1.below aW NLN);have f0:=a5.2;have dO:=Ab (XV ⟨B,C,D,A⟩ s.pool);clear a5 cf bA K S cb aD;go_wp2_with fail
       clear c0 c1 c2 c3 c4 c5 a7 a8 a9 ba bb bc bC bD bE;generalize f1:wr.heap.size=fN at aP|-;generalize wr.alloc (jC #[U V 1,U V arg,U V B,U V C,Q D,X aB A.length ad] 113)=f2 at av cj aW aP cQ ck|-;clear f1;go_loopw [12,106] (fun v i f3=>∃k:Nat,k<=s.pool.length/\i=U V k/\v=U V (Cl ⟨B,C,D,A⟩ s.pool k)/\An f2 f3) (fun _ i _=>s.pool.length-(intOf i).toNat)
       case atStart=>exact⟨0,zE _,rfl,by rw[Aa dO],BRN⟩
       case round=>
        obtain⟨k,hk,rfl,rfl,aE⟩:=hrel;by_cases bF:k<s.pool.length
        ·have hi:(k:Int)<(s.pool.length:Int):=by omega
         obtain⟨hj,hl,f4,hm,an,nn,cn,bo,bp,br,ez,eA⟩:=(cQ.below aE NLN).cells k bF;subst f4;have bd:=aP.after aE NLN;have cS:=OJ ⟨B,C,D,A⟩ s.pool k;have aA:=Ab (fun aR (cx:An wr aR)=>XT s.pool[k] ⟨B,C,D,A⟩ an nn cn aB A.length ad aR (eA.below cx NLN) (((Aa ck).below aE NLN).below cx NLN));have W:=Ab (show 0<=Cl ⟨B,C,D,A⟩ s.pool k->Cl ⟨B,C,D,A⟩ s.pool (k+1)=Cl ⟨B,C,D,A⟩ s.pool k from Aax bF);have bG:=Ab (show Cl ⟨B,C,D,A⟩ s.pool k<0->s.pool[k]=⟨B,C,D,A⟩->Cl ⟨B,C,D,A⟩ s.pool (k+1)=k from XW bF);have bH:=Ab (show Cl ⟨B,C,D,A⟩ s.pool k<0->s.pool[k]≠⟨B,C,D,A⟩->Cl ⟨B,C,D,A⟩ s.pool (k+1)=Cl ⟨B,C,D,A⟩ s.pool k from Vs bF);have bI:=Ab bF;generalize s.pool[k]=z at bo bp br ez aA bG bH;generalize Cl ⟨B,C,D,A⟩ s.pool k=aQ at cS W bG bH|-;obtain⟨bJ,bK,bL,zs⟩:=z;dsimp only at bo bp br ez aA;clear eA bF;have eB:=AN wr (jC #[U V bJ,U V bK,Q bL,X an nn cn] 44);obtain⟨eC,eD,eE,eF⟩:=AC (Ah.new wr #[U V bJ,U V bK,Q bL,X an nn cn] 44);have cT:=aE.trans (eB.mono aE.size);obtain⟨a7,a8,a9,ba,bb,bc⟩:=Lk (aP.after cT NLN);by_cases f5:aQ<0
         ·have eG:=Ab f5;go_wp2_with fail
          refine(Aa aA _ eB).mono ?_;rintro r hn ⟨rfl,f6⟩;have eH:=cT.trans (f6.mono cT.size);have dP:=Ab (show ∀bf,Ik ⟨bJ,bK,bL,zs⟩ ⟨B,C,D,A⟩=bf->(bf=true->(⟨bJ,bK,bL,zs⟩:Vl)=⟨B,C,D,A⟩)/\(bf=false->(⟨bJ,bK,bL,zs⟩:Vl)≠⟨B,C,D,A⟩)from fun bf e=>by
           subst e;exact XX _ _)
          generalize f7:Ik ⟨bJ,bK,bL,zs⟩ ⟨B,C,D,A⟩=bf at dP;have cU:=Ab (Aa dP bf rfl);clear dP f7;dsimp only;cases bf with
          |true=>
           have bk:=Ab (Aa bG (Aa eG) ((Aa cU).1 rfl));clear aA W bG bH cU;go_wp2
           go_roundw
           case rel=>exact⟨k+1,Aa bI,by go_num,by rw[Aa bk],eH⟩
           case measure=>have:=Aa bI;simp[intOf];omega
          |false=>
           have bk:=Ab (Aa bH (Aa eG) ((Aa cU).2 rfl));clear aA W bG bH cU;go_wp2
           go_roundw
           case rel=>exact⟨k+1,Aa bI,by go_num,by rw[Aa bk],eH⟩
           case measure=>have:=Aa bI;simp[intOf];omega
         ·have bk:=Ab (Aa W (by omega));clear aA W bG bH;go_wp2
          go_roundw
          case rel=>exact⟨k+1,Aa bI,by go_num,by rw[Aa bk],cT⟩
          case measure=>have:=Aa bI;simp[intOf];omega
        ·have f8:k=s.pool.length:=by omega
         subst f8;have ay:=av.below aE;have dQ:=cj.trans (K2.of_below aE);have bg:=aW.trans (aE.mono aW.size);have bd:=aP.after aE NLN;have cS:=OJ ⟨B,C,D,A⟩ s.pool s.pool.length;have eI:=XY ⟨B,C,D,A⟩ s.pool;generalize Cl ⟨B,C,D,A⟩ s.pool s.pool.length=aQ at cS eI|-;rcases eI with⟨ho,cl,cm⟩|⟨eb,cl,cm⟩
         ·have co:=Ab (show A6 s ⟨1,arg,⟨B,C,D,A⟩⟩=⟨s.pool++[⟨B,C,D,A⟩],s.slots,s.ins++[⟨1,(s.pool.length:Nat)⟩]⟩ by rw[A6,if_pos rfl];dsimp only;rw[cm,cl]);obtain⟨eJ,eK,eL,eM,eN⟩:=info_parts XQ;have hp:=ay.row.lt;have eO:=(Aa ck).below aE NLN;have bv:=AN wr (jC #[U V B,U V C,Q D,X aB A.length ad] 44);have dR:=Ah.new wr #[U V B,U V C,Q D,X aB A.length ad] 44;have cV:=AN wr (jC #[U V B,U V C,Q D,X none 0 0] 44);have cW:=Ah.new wr #[U V B,U V C,Q D,X none 0 0] 44;have eP:=eO.below cV NLN;have eQ:=bd.after bv NLN;have eR:=bd.after cV NLN;obtain⟨bC,bD,bE⟩:=Ao ay.row;obtain⟨a7,a8,a9,ba,bb,bc⟩:=Lk bd;obtain⟨f9,gb,gc,gd,ge,gf⟩:=Lk eQ;obtain⟨gg,l1,gh,gi,gj,gl⟩:=Lk eR;obtain⟨eC,eD,eE,eF⟩:=AC dR;have gm:=fun j=>dR.frozen j;obtain⟨u0,u1,u2,u3⟩:=AC cW;have gn:=fun j=>cW.frozen j;clear cl cm cS av cj aW cQ dO ck aP eO;go_wp2_with (at_builtin;refine EH rfl _ _ rfl (wr.heap.size+1) _ 0 [] rfl (World.ownsRow_nil _ _ _ _) aB A.length ad A rfl eP f0 (by omega) (by simp) ?_)
          intro gp bh aX cX;replace aX:bh.ownsRow (wr.heap.size+1) 9 1 gp A.length (A.map Value.string):=by first|exact aX|simpa using aX
          obtain⟨aL,aM,rfl,_⟩:=Ae aX;have cY:=cW.after cX (by simp);have eS:=cV.trans (cX.mono (zh _));have dS:=cY.set 3 (X aL A.length aM);simp only[zV,zX,zQ]at dS;have bM:=eS.setCell (p:=⟨wr.heap.size,3,none⟩) NLN (X aL A.length aM);have aj:=ay.below bM;have dT:=bd.after bM NLN;have gq:wr.heap.size+1<=bh.heap.size:=by have:=cX.size;simpa using this
          have aF:=Ai aX ⟨wr.heap.size,3,none⟩ (X aL A.length aM) (fun q ab=>by have:=(aX.lt q ab).1;show q≠wr.heap.size;omega);have eT:∀q,(Value.slice aL A.length aM).ownBlock=Y q->(Value.slice xp s.pool.length cp).ownBlock≠Y q/\∀j,(cy:j<bz.length)->bz[j].ownBlock≠Y q:=fun q ab=>by
           have hq:=(aX.lt q ab).1;exact⟨fun e=>by have:=(ay.pool.lts.1 q e).2;omega,fun j cy e=>by have:=(ay.pool.lts.2 j cy q e).2;omega⟩
          have dU:=World.news_of_block (heap_alloc_new (bh.setCell ⟨wr.heap.size,3,none⟩ (X aL A.length aM)) (jC #[U V B,U V C,Q D,X aL A.length aM] 44));rw[show(bh.setCell ⟨wr.heap.size,3,none⟩ (X aL A.length aM)).heap.size=bh.heap.size by simp]at dU;have dV:=World.ownsRow.alloc aj.pool.own (jC #[U V B,U V C,Q D,X aL A.length aM] 44);have dW:=aj.row.alloc (jC #[U V B,U V C,Q D,X aL A.length aM] 44);obtain⟨gr,gs,gt,gu⟩:=AC cY;have gv:=fun j=>cY.frozen j;obtain⟨gw,gx,gy,gz⟩:=AC dS;obtain⟨af,ag,ah⟩:=Ao aj.row;clear bv cV dR cW cY eP eQ eR bC bD bE a7 a8 a9 ba bb bc f9 gb gc gd ge gf gg l1 gh gi gj gl eC eD eE eF gm u0 u1 u2 u3 gn;go_wp2_with (at_builtin;refine wpList_append_lies _ rfl _ _ 23 rfl (l.heap.size+1) 44 eJ (jE #[U V 0,U V 0,Q ByteArray.empty,X none 0 0]) 4 56 underlying23 eK eL eM eN rfl (by decide) (X xp s.pool.length cp) s.pool.length (Iz s.pool bz) rfl dV ⟨bh.heap.size,0,none⟩ 1 1 [U V B,U V C,Q D,X aL A.length aM] rfl rfl dU ?e2 (by decide) ?e3 ?e4 ?e5 (bh.heap.size+1) (by simp) ?_)
          case e2=>first|exact⟨rfl,rfl,rfl,rfl⟩|(intro u hu;simp at hu;rcases hu with rfl|rfl|rfl|rfl<;>rfl)
          case e3=>unfold maxLen;omega
          case e4=>omega
          case e5=>first|omega|(simp;omega)
          intro g7 c7 aC eU ak hat bi;have cq:=aj.newV (v:=⟨B,C,D,A⟩) _ (Aj aF (by omega)) eT ak eU (hat.imp id (fun e=>by rw[e];simp));have al:=Cr dW ak (fun e=>Ac dW dV (by decide) e.symm);obtain⟨m0,hr,ht⟩:=Ao al;have hw:=fun j=>al.frozen j;have gA:=cq.2.1 _ _ _ dT (by have:=dT.ne_type aj.row (by decide);exact this) (by decide) (by decide);have gB:=(dQ.trans (K2.of_below bM)).trans cq.2.1;have eV:=(bg.trans (bM.mono bg.size)).trans (cq.2.2 _ NLN (bg.trans (bM.mono bg.size)).size);have bj:=cq.1;clear gr gs gt gu gv gw gx gy gz af ag ah dS gq eJ eK eL eM eN;clear cq eU ak hat bi al dW dV dU aX aF eT aj eS bM cX dT bd ay dQ bg aE;obtain⟨xi,ci,rfl,_⟩:=Ae bj.ins;obtain⟨bC,bD,bE⟩:=Ao bj.row;have eW:=fun j=>bj.row.frozen j;obtain⟨a7,a8,a9,ba,bb,bc⟩:=Lk gA;have aY:=(Below.refl (aC.setCell ⟨l.heap.size,0,none⟩ (X (Y ⟨g7,0,none⟩) (s.pool.length+1) c7)).heap.size (aC.setCell ⟨l.heap.size,0,none⟩ (X (Y ⟨g7,0,none⟩) (s.pool.length+1) c7))).alloc NLN (jC #[U V 1,U V ((s.pool.length:Int))] 49);have aG:=bj.row.after aY NLN;have aH:=World.ownsRow.alloc bj.ins (jC #[U V 1,U V ((s.pool.length:Int))] 49);have aN:=World.news_of_block (heap_alloc_new (aC.setCell ⟨l.heap.size,0,none⟩ (X (Y ⟨g7,0,none⟩) (s.pool.length+1) c7)) (jC #[U V 1,U V ((s.pool.length:Int))] 49));rw[show(aC.setCell ⟨l.heap.size,0,none⟩ (X (Y ⟨g7,0,none⟩) (s.pool.length+1) c7)).heap.size=aC.heap.size by simp]at aN;have cZ:=bj.row.lt;rw[show(aC.setCell ⟨l.heap.size,0,none⟩ (X (Y ⟨g7,0,none⟩) (s.pool.length+1) c7)).heap.size=aC.heap.size by simp]at cZ;have eX:=(Aa ch).2;go_wp2_with (at_builtin;refine wpList_append_lies _ rfl _ _ 24 rfl (l.heap.size+1) 49 dD (jE #[U V 0,U V 0]) 2 16 underlying24 dE dF dG bO rfl (by decide) (X xi s.ins.length ci) s.ins.length (Cm s.ins) rfl aH ⟨aC.heap.size,0,none⟩ 1 1 [U V 1,U V ((s.pool.length:Int))] rfl rfl aN ?c2 (by decide) ?c3 ?c4 ?c5 (aC.heap.size+1) (by simp) ?_)
          case c2=>first|exact⟨rfl,rfl⟩|(intro u hu;simp at hu;rcases hu with rfl|rfl<;>rfl)
          case c3=>unfold maxLen;omega
          case c4=>omega
          case c5=>first|omega|(simp;omega)
          intro g7 eY aC aF ak hat bi;have aj:=bj.newI _ 1 ((s.pool.length:Int)) ak aF;have al:=Cr aG ak (fun e=>Ac aG aH (by decide) e.symm);obtain⟨eZ,d1,d2⟩:=Ao al;have e0:=fun j=>al.frozen j;have aI:=Ab aj;clear aj aF ak hat bi al aG aH aN aY;go_wp2
          go_roundw
          case rel=>
           refine⟨q+1,?_,?_,?_,Aa bB,by go_num,?_,gB.trans (Aa aI).2.1,eV.trans ((Aa aI).2.2 _ NLN eV.size)⟩
           rotate_left 3
           rw[Aa cg,Aa co];exact(Aa aI).1
          case measure=>have:=Aa bB;simp[intOf];omega
         ·have co:=Ab (show A6 s ⟨1,arg,⟨B,C,D,A⟩⟩=⟨s.pool,s.slots,s.ins++[⟨1,aQ⟩]⟩ by rw[A6,if_pos rfl];dsimp only;rw[cm,<-cl]);have hx: ¬ (aQ<0):=by omega
          clear cl cm;clear eb av cj aW cQ dO ck aP;obtain⟨xi,ci,rfl,_⟩:=Ae ay.ins;obtain⟨bC,bD,bE⟩:=Ao ay.row;have eW:=fun j=>ay.row.frozen j;obtain⟨a7,a8,a9,ba,bb,bc⟩:=Lk bd;have aY:=AN wr (jC #[U V 1,U V (aQ)] 49);have aG:=ay.row.after aY NLN;have aH:=World.ownsRow.alloc ay.ins (jC #[U V 1,U V (aQ)] 49);have aN:=World.news_of_block (heap_alloc_new wr (jC #[U V 1,U V (aQ)] 49));have cZ:=ay.row.lt;have eX:=(Aa ch).2;go_wp2_with (at_builtin;refine wpList_append_lies _ rfl _ _ 24 rfl (l.heap.size+1) 49 dD (jE #[U V 0,U V 0]) 2 16 underlying24 dE dF dG bO rfl (by decide) (X xi s.ins.length ci) s.ins.length (Cm s.ins) rfl aH ⟨wr.heap.size,0,none⟩ 1 1 [U V 1,U V (aQ)] rfl rfl aN ?c2 (by decide) ?c3 ?c4 ?c5 (wr.heap.size+1) (by simp) ?_)
          case c2=>first|exact⟨rfl,rfl⟩|(intro u hu;simp at hu;rcases hu with rfl|rfl<;>rfl)
          case c3=>unfold maxLen;omega
          case c4=>omega
          case c5=>first|omega|(simp;omega)
          intro g7 eY aC aF ak hat bi;have aj:=ay.newI _ 1 (aQ) ak aF;have al:=Cr aG ak (fun e=>Ac aG aH (by decide) e.symm);obtain⟨eZ,d1,d2⟩:=Ao al;have e0:=fun j=>al.frozen j;have aI:=Ab aj;clear aj aF ak hat bi al aG aH aN aY;go_wp2
          go_roundw
          case rel=>
           refine⟨q+1,?_,?_,?_,Aa bB,by go_num,?_,dQ.trans (Aa aI).2.1,bg.trans ((Aa aI).2.2 _ NLN bg.size)⟩
           rotate_left 3
           rw[Aa cg,Aa co];exact(Aa aI).1
          case measure=>have:=Aa bB;simp[intOf];omega
      ·have hz:(op==1)=false:=zA.2 cP;have co:=Ab (show A6 s ⟨op,arg,⟨B,C,D,A⟩⟩=⟨s.pool,s.slots,s.ins++[⟨op,arg⟩]⟩ by rw[A6,if_neg cP]);clear cP a5 cf bA;obtain⟨xi,ci,rfl,_⟩:=Ae av.ins;obtain⟨bC,bD,bE⟩:=Ao av.row;have eW:=fun j=>av.row.frozen j;obtain⟨a7,a8,a9,ba,bb,bc⟩:=Lk aP;have aY:=(Below.refl (wr.alloc (jC #[U V op,U V arg,U V B,U V C,Q D,X aB a6 ad] 113)).heap.size (wr.alloc (jC #[U V op,U V arg,U V B,U V C,Q D,X aB a6 ad] 113))).alloc NLN (jC #[U V op,U V (arg)] 49);have aG:=av.row.after aY NLN;have aH:=World.ownsRow.alloc av.ins (jC #[U V op,U V (arg)] 49);have aN:=World.news_of_block (heap_alloc_new (wr.alloc (jC #[U V op,U V arg,U V B,U V C,Q D,X aB a6 ad] 113)) (jC #[U V op,U V (arg)] 49));rw[show(wr.alloc (jC #[U V op,U V arg,U V B,U V C,Q D,X aB a6 ad] 113)).heap.size=wr.heap.size+1 by simp]at aN;have cZ:=av.row.lt;rw[show(wr.alloc (jC #[U V op,U V arg,U V B,U V C,Q D,X aB a6 ad] 113)).heap.size=wr.heap.size+1 by simp]at cZ;have eX:=(Aa ch).2;go_wp2_with (at_builtin;refine wpList_append_lies _ rfl _ _ 24 rfl (l.heap.size+1) 49 dD (jE #[U V 0,U V 0]) 2 16 underlying24 dE dF dG bO rfl (by decide) (X xi s.ins.length ci) s.ins.length (Cm s.ins) rfl aH ⟨wr.heap.size+1,0,none⟩ 1 1 [U V op,U V (arg)] rfl rfl aN ?c2 (by decide) ?c3 ?c4 ?c5 (wr.heap.size+1+1) (by simp) ?_)
       case c2=>first|exact⟨rfl,rfl⟩|(intro u hu;simp at hu;rcases hu with rfl|rfl<;>rfl)
       case c3=>unfold maxLen;omega
       case c4=>omega
       case c5=>first|omega|(simp;omega)
       intro g7 eY aC aF ak hat bi;have aj:=av.newI _ op (arg) ak aF;have al:=Cr aG ak (fun e=>Ac aG aH (by decide) e.symm);obtain⟨eZ,d1,d2⟩:=Ao al;have e0:=fun j=>al.frozen j;have aI:=Ab aj;clear aj aF ak hat bi al aG aH aN aY;go_wp2
       go_roundw
       case rel=>
        refine⟨q+1,?_,?_,?_,Aa bB,by go_num,?_,cj.trans (Aa aI).2.1,aW.trans ((Aa aI).2.2 _ NLN aW.size)⟩
        rotate_left 3
        rw[Aa cg,Aa co];exact(Aa aI).1
       case measure=>have:=Aa bB;simp[intOf];omega
     ·have eq:q=F.length:=by omega
      subst eq;have c6:=K _ _ _ RO (by omega) (by decide) (by decide);rw[yA]at S;have e6:=Ab (show ∀z,AY ⟨[],0,[]⟩ F=z->Lh Es L=⟨z.pool,I,z.ins⟩from fun z b3=>by rw[<-Aa cN,b3];rfl);generalize e7:AY ⟨[],0,[]⟩ F=cc at S;have gC:=Ab (Aa e6 cc e7);clear e7 e6 cN ep er es eu dC K;obtain⟨xp,cp,rfl,_⟩:=Ae S.pool.own;obtain⟨xi,ci,rfl,_⟩:=Ae S.ins;obtain⟨hA,hB,cJ⟩:=Ao S.row;obtain⟨fa,fb,fc⟩:=Ao c6;have fd:=fun j=>c6.frozen j;obtain⟨bo,bp,br⟩:=Ao (((c6.set 0 (X xp cc.pool.length cp)).set 1 (U V I)).set 2 (X xi cc.ins.length ci));have c8:∀q,(Value.slice xi cc.ins.length ci).ownBlock=Y q->q≠J:=fun q ab=>by have:=(S.ins.lt q ab).1;omega
      have bA:=Ab ((((S.pool.set ⟨J,0,none⟩ (X xp cc.pool.length cp) (by show J<_;omega)).set ⟨J,1,none⟩ (U V I) (by show J<_;omega)).set ⟨J,2,none⟩ (X xi cc.ins.length ci) (by show J<_;omega)).low (lo':=ax) (by omega));have gD:=Ab (Aj (base':=ax) (Ai (Ai (Ai S.ins ⟨J,0,none⟩ (X xp cc.pool.length cp) c8) ⟨J,1,none⟩ (U V I) c8) ⟨J,2,none⟩ (X xi cc.ins.length ci) c8) (by omega));have gE:=Ab ((((dd.trans (cb.mono (by omega))).setCell (p:=⟨J,0,none⟩) bl (X xp cc.pool.length cp)).setCell (p:=⟨J,1,none⟩) bl (U V I)).setCell (p:=⟨J,2,none⟩) bl (X xi cc.ins.length ci));clear S cb dd c6 c8 RO;go_wp2_with fail
      refine bodyPost_ret (v:= jE #[X xp cc.pool.length cp,U V I,X xi cc.ins.length ci]) (by simp[results,results28,go_sem,bo,bp,br]) rfl ⟨_,Aa df,?_⟩
      rw[Aa gC];refine⟨xp,cp,xi,ci,bz,rfl,?_,?_,?_⟩
      ·rw[Aa cs];exact Aa bA
      ·rw[Aa cs];exact Aa gD
      ·show Below _ _ _;rw[Aa cs];exact Aa gE
end Go.Proofs.YtppafecmccdplaaGreat
