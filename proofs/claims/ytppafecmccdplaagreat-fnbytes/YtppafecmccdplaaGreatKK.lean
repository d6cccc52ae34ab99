import Derived.Test.YtppafecmccdplaaGreatMXAQ
open Go.Proofs.Tryz
open Option renaming none->T,some->Y
open Go.Value renaming int->U,slice->X,string->Q
open Go.IntKind renaming i64->V
open Bool renaming true->R,false->jA
open Go.Obj renaming cells->jC
open Go.Proofs.Tryz renaming prog->jL
namespace Go.Proofs.YtppafecmccdplaaGreat
set_option maxRecDepth 100000
set_option maxHeartbeats 12800000
open Go.RowKit Go.Lib
set_option linter.unusedVariables false
variable {A B:List Int}
theorem Bh.bodyS:∀s:AI,s.2=R->(EC s).2.2=R:=fun s hs=>((NI s).1 hs).2
theorem AeV (L:List Int):Ju L=if (EC (BO 3 (L,jA)).2).2=([],jA)/\Eo (EC (BO 3 (L,jA)).2).1.pool (EC (BO 3 (L,jA)).2).1.slots (EC (BO 3 (L,jA)).2).1.ins≠ []/\Eo (EC (BO 3 (L,jA)).2).1.pool (EC (BO 3 (L,jA)).2).1.slots (EC (BO 3 (L,jA)).2).1.ins=L then Y (EC (BO 3 (L,jA)).2).1 else T:=by
 unfold Ju;by_cases a:L.length<3
 ·have e:BO 3 (L,jA)=([],[],R):=by unfold BO;rw[if_pos a]
  rw[e,if_neg (by omega),if_neg];rintro⟨h,_⟩;have:=Bh.bodyS ([],R) rfl;rw[h]at this;cases this
 ·have e:BO 3 (L,jA)=(L.take 3,L.drop 3,jA):=by unfold BO;rw[if_neg a]
  rw[e];have b: 3<=L.length:=by omega
  simp only[b,true_and]
theorem AB.append (h:AB A)(k:AB B):AB (A++B):=fun x hx=>by
 rcases zM.1 hx with h'|h'
 ·exact h x h'
 ·exact k x h'
theorem Fh (x:Int):∀w,AB (BS x w)
 |0=>fun y hy=>by cases hy
 |w+1=>fun y hy=>by
  rw[BS]at hy;rcases zT.1 hy with rfl|h
  ·exact Ml x w
  ·exact Fh x w y h
theorem QX {a:Type}{f:a->List Int}(h:∀x,AB (f x))(l:List a):AB (l.flatMap f):=fun y hy=>by
 obtain⟨x,_,hx⟩:=Z2.1 hy;exact h x y hx
theorem TH (s:ByteArray):AB (Bn s):=(Fh _ _).append (Za s)
theorem AcX (v:Vl):AB (Cw v):=by
 rw[Cw];refine(Fh _ _).append ?_;split
 ·exact Fh _ _
 split
 ·exact Fh _ _
 split
 ·exact TH _
 split
 ·exact(Fh _ _).append (QX TH _)
 ·exact fun x hx=>by cases hx
theorem Ag1 (P:List Vl)(s:Int)(I:List Cg):AB (Fb P s I):=by
 rw[Fb];have h0:AB [80,76,49]:=fun x hx=>by
  simp at hx;rcases hx with rfl|rfl|rfl<;>decide
 exact((((h0.append (Fh _ _)).append (QX AcX _)).append (Fh _ _)).append (Fh _ _)).append (QX (fun i=>(Fh _ _).append (Fh _ _)) _)
theorem AcY (a:AB A)(b:AB B)(h:Fr A=Fr B):A=B:=by
 rw[<-Kw A a,<-Kw B b,h]
theorem Agk {s t:ByteArray}(h:s.toList=t.toList):s=t:=by
 rw[zy,zy]at h;cases s;cases t;simp only[ByteArray.mk.injEq];exact Array.toList_inj.1 h
theorem GC {w:World}{base n c:Nat}{x:Option Addr}{R:List Int}(h:w.ownsRow base 5 1 (X x n c) n (AA R))(a:R.length=n):(convert 22 9 (X x n c)).run jL w= .ok (Q (Fr R)) w:=by
 subst a;rcases h.2 with⟨hv,h0⟩|⟨g,cap,d,hv,_⟩
 ·simp only[Value.slice.injEq]at hv;obtain⟨rfl,_,rfl⟩:=hv;have b:R=[]:=zj h0;subst b;have:=run_convert_bytes_nil (P:=jL) w 22 5 underlying22 underlying5 0 0 9 underlying9;exact this
 ·simp only[Value.slice.injEq]at hv;obtain⟨rfl,_,rfl⟩:=hv;refine run_convert_bytes_arg (P:=jL) w 22 5 underlying22 underlying5 g 0 R.length _ R rfl (fun i hi=>?_) 9 underlying9;rw[zP,h.cellAt i (by omega),AA,zk,zL hi,List.getD,zL hi];rfl
def VcC (wr:World) (R vb:Nat) (st:List Int) (wx:World):Prop:=∃ (v:Vl) (u:Value) (s6:AI),KZ (st,jA)=(v,s6)/\Ah wx vb #[U V v.kind,U V v.num,Q v.text,u] 44/\wx.ownsRow wr.heap.size 9 1 u v.names.length (v.names.map Value.string)/\J7 wx R s6/\Al R (R+1) wr wx
theorem OD (a:Option Addr)(n c:Nat)(L:List Int)(w:World)(h:KQ w w.heap.size a n c L):
  Calls jL 10 #[X a n c] w fun e w'=>Jy w (Ju L) e w':=by
 obtain⟨dE,dF,dG,dH,dI⟩:=info_parts XQ;obtain⟨dJ,dK,dL,dM,dN⟩:=info_parts IZ;obtain⟨is,dO,dP,dQ,dR⟩:=info_parts JH;have b2:=Ab (AeV L);have cJ:=AN w (jC #[X T 0 0,U V 0,X T 0 0] 26);have ba:=cJ.alloc (by simp) (jC #[X a n c,.bool jA] 60);have cK:=(Ah.new w #[X T 0 0,U V 0,X T 0 0] 26).alloc (jC #[X a n c,.bool jA] 60);have b3:=Ah.new (w.alloc (jC #[X T 0 0,U V 0,X T 0 0] 26)) #[X a n c,.bool jA] 60;simp only[World.size_alloc]at b3;have cL:J7 ((w.alloc (jC #[X T 0 0,U V 0,X T 0 0] 26)).alloc (jC #[X a n c,.bool jA] 60)) (w.heap.size+1) (L,jA):=⟨a,n,c,b3,(h.mono (by omega)).blocks (fun k hk dS=>ba.block k dS) ba.size⟩
 have bp:AB (BO 3 (L,jA)).2.1:=(Ch 3 (L,jA) h.ok).2;have b4:=Ab (NN (w.heap.size+1) (L,jA) 3 _ cL (by omega));generalize (BO 3 (L,jA))=r at b4 b2 bp;obtain⟨ep,s1⟩:=r;simp only at b2 bp;go_enter func10,ntmps10
 go_wp2_with fail
 refine(Aa b4).mono ?_;rintro e bb ⟨a1,n1,c1,rfl,_,b5,br⟩;simp only at b5;have cM:=cK.touch' br (.inl (by omega));have b6:=br.size;simp only[World.size_alloc]at b6;have b7:=AT ba br (by omega) ba.size;clear cK b3 cL cJ ba br b4;have bs:=Ah.new bb #[X T 0 0,U V 0,X T 0 0] 26;have b8:=cM.alloc (jC #[X T 0 0,U V 0,X T 0 0] 26);have S2:=b5.alloc (jC #[X T 0 0,U V 0,X T 0 0] 26);have bt:=b7.alloc b7.size (jC #[X T 0 0,U V 0,X T 0 0] 26);have bu:bb.heap.size<(bb.alloc (jC #[X T 0 0,U V 0,X T 0 0] 26)).heap.size:=by simp
 clear cM b5 b7;go_wp2_with fail
 generalize bb.alloc (jC #[X T 0 0,U V 0,X T 0 0] 26)=dT at bs b8 S2 bt bu|-;obtain⟨b,cN⟩:∃b,b=bb.heap.size:=⟨_,rfl⟩
 rw[<-cN]at bs bu b6|-;have eq:w.heap.size+1<b:=by omega
 clear cN b6;have aM:=Ab (UE (w.heap.size+1) s1 dT S2);have bv:=Ab (show EC s1=Bl (Av KZ (At 2 s1).1.toNat) (fun p=>Bl (At 2) fun sl=>Bl (At 2) fun m=>Bl (Av LJ m.toNat) fun i=>rt (⟨p,sl,i⟩:Cd)) (At 2 s1).2 from rfl);have ax:=J8 s1 bp;have b9:AB (At 2 s1).2.1:=(Ch 2 s1 bp).2;generalize At 2 s1=r at aM bv ax b9;obtain⟨N,s2⟩:=r;simp only at ax bv b9;obtain⟨K,rfl⟩:=Z5 ax.1;have er:K<=65535:=by omega
 simp only[zb]at bv;clear ax;refine(Aa aM).mono ?_;rintro e dU ⟨rfl,ca,bc⟩;simp only at ca;have cO:=bs.touch' bc (.inr (by omega));have cP:=b8.touch' bc (.inl (by omega));have cQ:=AT bt bc (by omega) bt.size;have cS:b<dU.heap.size:=zR bu bc.size;clear bs b8 S2 bt bc aM;go_wp2_with fail
 go_loopw [6] (fun nn wr=>∃ (x:Option Addr) (cx:Nat) (P:List Vl) (O:List Value) (st:AI) (k:Nat),nn=U V k/\Ah wr b #[X x P.length cx,U V 0,X T 0 0] 26/\Ah wr w.heap.size #[X T 0 0,U V 0,X T 0 0] 26/\BU wr (b+1) (X x P.length cx) P O/\P.length+k<=K/\J7 wr (w.heap.size+1) st/\Hid ((P++(Av KZ k st).1,(Av KZ k st).2)=Av KZ K s2)/\An w wr/\b<wr.heap.size) (fun nn wr=>(intOf nn).toNat)
 case atStart=>exact⟨T,0,[],[],s2,K,rfl,cO,cP,BU.nil _ _,by simp,ca,Ab (by simp),cQ,cS⟩
 case round=>
  clear cO cP ca cQ cS bu;obtain⟨x,cx,P,O,⟨st,v⟩,k,rfl,aj,S,ak,hk,F,bd,H,cb⟩:=hrel;have bw:=F.cells;simp only at bw;by_cases aD: 0<k/\v=jA
  ·obtain⟨cc,rfl⟩:=aD;obtain⟨k,rfl⟩:∃cd,k=cd+1:=⟨k-1,by omega⟩
   have bx:(0 :Int)<((k+1 :Nat):Int):=by omega
   have aN:=Aa bd;rw[GP _ _ _ rfl]at aN;have ay:=Ab aN;have ce:=Ab hk;have cT:P.length<=65534:=by omega
   have dV:k<=65535:=by omega
   clear aN bd hk cc;have aM:=Ab (QV (w.heap.size+1) (st,jA) wr F);have ax:=ET (st,jA) F.ok;have bz:AB (At 1 (st,jA)).2.1:=(Ch 1 (st,jA) F.ok).2;have aE:=Ab (show KZ (st,jA)=Jx (At 1 (st,jA)).1 (At 1 (st,jA)).2 from rfl);generalize At 1 (st,jA)=r at aM aE ax bz;obtain⟨N,l⟩:=r;simp only at ax aE bz;have es:=ax.1;have aX:=ax.2;clear ax;go_wp2_with fail
   refine(Aa aM).mono ?_;rintro e aa ⟨rfl,cf,cg⟩;simp only at cf;have az:=Ah.new aa #[U V N,U V 0,Q ⟨#[]⟩,X T 0 0] 44;have S5:=cf.alloc (jC #[U V N,U V 0,Q ⟨#[]⟩,X T 0 0] 44);have z:=cg.alloc (jC #[U V N,U V 0,Q ⟨#[]⟩,X T 0 0] 44);have cU:=cg.size;clear cf cg aM;have cV:w.heap.size+1<aa.heap.size:=by have:=F.lt;omega
   have dW:wr.heap.size<=aa.heap.size:=cU;obtain⟨u0,u1,u2,u3⟩:=AC az;dsimp only;go_upto_block 2 with fail
   clear u0 u1 u2 u3;generalize aa.alloc (jC #[U V N,U V 0,Q ⟨#[]⟩,X T 0 0] 44)=et at az S5 z|-;generalize aa.heap.size=g at az cU cV dW|-;go_cut [] (fun dX=>Hid (VcC wr (w.heap.size+1) g st dX))
   case first=>
    by_cases bA:N=1
    ·subst bA;have A:=Ab (QV (w.heap.size+1) l _ S5);have D:=Ab ((Aa aE).trans (show Jx 1 l=(⟨1,(At 1 l).1,⟨#[]⟩,[]⟩,(At 1 l).2)from rfl));generalize At 1 l=r at A D;obtain⟨a,ab⟩:=r;go_wp2_with fail
     refine(Aa A).mono ?_;rintro e aO ⟨rfl,C,ad⟩;have E:=az.touch' ad (.inr (by omega));obtain⟨c0,c1,c2,c3⟩:=AC E;have cW:=fun j=>E.frozen j;dsimp only;go_wp2
     go_meet
     exact Ab ⟨_,X T 0 0,ab,Aa D,E.set 1 _,World.ownsRow_nil _ _ _ _,C.setFar ⟨g,1,T⟩ _ (by show w.heap.size+1<g;omega),(z.trans ad).setNew ⟨g,1,T⟩ _ (by show wr.heap.size<=g;omega)⟩
    by_cases bB:N=2
    ·subst bB;have A:=Ab (Agj (w.heap.size+1) l _ S5);have D:=Ab ((Aa aE).trans (show Jx 2 l=(⟨2,(At 8 l).1,⟨#[]⟩,[]⟩,(At 8 l).2)from rfl));generalize At 8 l=r at A D;obtain⟨a,ab⟩:=r;go_wp2_with fail
     refine(Aa A).mono ?_;rintro e aO ⟨rfl,C,ad⟩;have E:=az.touch' ad (.inr (by omega));obtain⟨c0,c1,c2,c3⟩:=AC E;have cW:=fun j=>E.frozen j;dsimp only;go_wp2
     go_meet
     exact Ab ⟨_,X T 0 0,ab,Aa D,E.set 1 _,World.ownsRow_nil _ _ _ _,C.setFar ⟨g,1,T⟩ _ (by show w.heap.size+1<g;omega),(z.trans ad).setNew ⟨g,1,T⟩ _ (by show wr.heap.size<=g;omega)⟩
    by_cases bf:N=3
    ·subst bf;have A:=Ab (TF (w.heap.size+1) l _ S5);have D:=Ab ((Aa aE).trans (show Jx 3 l=(⟨3,0,(ES l).1,[]⟩,(ES l).2)from rfl));generalize ES l=r at A D;obtain⟨a,ab⟩:=r;go_wp2_with fail
     refine(Aa A).mono ?_;rintro e aO ⟨rfl,C,ad⟩;have E:=az.touch' ad (.inr (by omega));obtain⟨c0,c1,c2,c3⟩:=AC E;have cW:=fun j=>E.frozen j;dsimp only;go_wp2
     go_meet
     exact Ab ⟨_,X T 0 0,ab,Aa D,E.set 2 _,World.ownsRow_nil _ _ _ _,C.setFar ⟨g,2,T⟩ _ (by show w.heap.size+1<g;omega),(z.trans ad).setNew ⟨g,2,T⟩ _ (by show wr.heap.size<=g;omega)⟩
    by_cases bC:N=4
    ·subst bC;have D:=Ab (show Jx 4 l=(⟨4,0,⟨#[]⟩,(Bl (At 1) (fun n=>Dw ES n.toNat) l).1⟩,(Bl (At 1) (fun n=>Dw ES n.toNat) l).2)from rfl);have A:=Ab (QV (w.heap.size+1) l _ S5);have bD:=ET l bz;have cX:AB (At 1 l).2.1:=(Ch 1 l bz).2;have D:=Ab ((Aa D).trans (show _=((⟨4,0,⟨#[]⟩,(Dw ES (At 1 l).1.toNat (At 1 l).2).1⟩,(Dw ES (At 1 l).1.toNat (At 1 l).2).2):Vl×AI)from rfl));generalize At 1 l=r at A D bD cX;obtain⟨eu,cY⟩:=r;simp only at bD D cX;obtain⟨bE,rfl⟩:=Z5 bD.1;have ev:bE<=255:=by omega
     simp only[zb]at D;clear bD;go_wp2_with fail
     refine(Aa A).mono ?_;rintro e aO ⟨rfl,C,ad⟩;simp only at C;have E:=az.touch' ad (.inr (by omega));have ac:=z.trans ad;have bF:g<aO.heap.size:=E.lt;clear ad A az S5 z;go_wp2_with fail
     obtain⟨bG,rfl⟩:∃bG,bG=wr:=⟨_,rfl⟩
     go_loopw [8] (fun ch aY=>∃ (aP:Option Addr) (cn:Nat) (o:List ByteArray) (aF:AI) (j:Nat),ch=U V j/\Ah aY g #[U V 4,U V 0,Q ⟨#[]⟩,X aP o.length cn] 44/\aY.ownsRow (g+1) 9 1 (X aP o.length cn) o.length (o.map Value.string)/\J7 aY (w.heap.size+1) aF/\Hid ((o++(Dw ES j aF).1,(Dw ES j aF).2)=Dw ES bE cY)/\o.length+j=bE/\Al (w.heap.size+1) (w.heap.size+1+1) bG aY/\g<aY.heap.size) (fun ch aY=>(intOf ch).toNat)
     case atStart=>exact⟨T,0,[],cY,bE,rfl,E,World.ownsRow_nil _ _ _ _,C,Ab (by simp),by simp,ac,bF⟩
     case round=>
      clear E C ac bF;obtain⟨aP,cn,o,aF,j,rfl,bH,bI,ci,bJ,cj,Tq,ew⟩:=hrel;obtain⟨c0,c1,c2,c3⟩:=AC bH;cases j with
      |zero=>
       have aQ:=Aa bJ;rw[Dw,zd]at aQ;have ck:=Ab (((Aa aE).trans (Aa D)).trans (show _=((⟨4,0,⟨#[]⟩,o⟩,aF):Vl×AI) by rw[<-aQ]));clear aE D bJ aQ cj;go_wp2
       go_meet
       exact Ab ⟨_,_,aF,Aa ck,bH,Aj bI (by omega),ci,Tq⟩
      |succ j=>
       have bx:(0 :Int)<((j+1 :Nat):Int):=by omega
       have aQ:=Aa bJ;rw[Yu]at aQ;have cl:=Ab aQ;have dY:=Ab cj;have ex:o.length<=255:=by omega
       have ey:j<=255:=by omega
       clear aQ bJ cj;have cZ:=Ab (fun bg (cm:J7 bg (w.heap.size+1) aF)=>TF (w.heap.size+1) aF bg cm);generalize ES aF=r at cZ cl;obtain⟨ae,c4⟩:=r;simp only at cl;have bK:∀q,(Value.slice aP o.length cn).ownBlock=Y q->g+1<=q/\q<wr.heap.size:=fun q d=>bI.lt q d;have sd:wr.drew.cell? ⟨g,3,T⟩=Y (X aP o.length cn):=c3;have co:(Tryz.f23.name== "runtime.NumGoroutine")=jA:=by kernel_rfl
       have cp: Tryz.f23.body.isNone=jA:=by kernel_rfl
       have cq:=Ab (Fd (Aa cZ wr.drew (ci.blocks (w':=wr.drew) (fun _ _=>rfl) NLN)) (fun e w' ⟨h,_⟩=>⟨_,h⟩));go_wp2_with fail
       go_region_law (first
        |(refine EI rfl 23 _ func23 co cp _ _ rfl (.pointer (Y ⟨w.heap.size+1,0,T⟩)) rfl _ (Aa cq) ?_;rintro ez c5 ⟨dZ,aZ,c6⟩;obtain rfl:=AS dZ;have bh:=c6.undrew;have bL:=bH.touch' bh (.inr (by omega));obtain⟨e0,e1,e2,e3⟩:=AC bL;have cr:=fun j=>bL.frozen j;have c7:=World.ownsRow.alloc (FE bI bh (fun q d=> .inr (by have:=(bK q d).1;omega))) (jC #[Q ae] 9);have bM:=bL.alloc (jC #[Q ae] 9);obtain⟨d0,c8,c9,d3⟩:=AC bM;have aI:=World.news_of_block (heap_alloc_new c5 (jC #[Q ae] 9));have bN:=bh.size)
        |(refine step_append_lies _ rfl _ _ 42 rfl (g+1) 9 is (Q ByteArray.empty) 1 16 underlying42 dO dP dQ dR rfl (by decide) (X aP o.length cn) o.length (o.map Value.string) rfl c7 ⟨c5.heap.size,0,T⟩ 1 1 [Q ae] rfl rfl aI (by intro u hu;simp at hu;subst hu;rfl) (by decide) (by unfold maxLen;omega) (by omega) (by simp;omega) _ rfl ?_;intro s t W aR B hat d4;have bO:Ah W g _ _:=⟨(B.block g bM.lt (fun e=>by have:=(bK _ e.symm).1;omega)).trans bM.out⟩;have eA:W.cell? ⟨g,3,T⟩=Y (X aP o.length cn):=(AC bO).2.2.2;have d5:=bO.frozen 3))
       all_goals
        have d6:=((aZ.alloc (jC #[Q ae] 9)).grown B (fun q d=>by have:=(bK q d).1;omega)).setFar ⟨g,3,T⟩ (X (Y ⟨s,0,T⟩) (o.length+1) t) (by show w.heap.size+1<g;omega);have d7:=(((Tq.trans bh).alloc (jC #[Q ae] 9)).grown B (fun q d=>by have:=(bK q d).1;omega)).setNew ⟨g,3,T⟩ (X (Y ⟨s,0,T⟩) (o.length+1) t) (by show bG.heap.size<=g;omega);have da:=Ai aR ⟨g,3,T⟩ (X (Y ⟨s,0,T⟩) (o.length+1) t) (fun q d=>by have:=(aR.lt q d).1;show q≠g;omega);have cs:=bO.set 3 (X (Y ⟨s,0,T⟩) (o.length+1) t);simp only[zV,zX,zQ]at cs;have bi:=B.size;simp only[World.size_alloc]at bi;have d8:g<(W.setCell ⟨g,3,T⟩ (X (Y ⟨s,0,T⟩) (o.length+1) t)).heap.size:=by simp;omega
        have aJ:=Ab (show(o++[ae]).length=o.length+1 by simp);have aG:Hid (Ah (W.setCell ⟨g,3,T⟩ (X (Y ⟨s,0,T⟩) (o.length+1) t)) g #[U V 4,U V 0,Q ⟨#[]⟩,X (Y ⟨s,0,T⟩) (o++[ae]).length t] 44/\(W.setCell ⟨g,3,T⟩ (X (Y ⟨s,0,T⟩) (o.length+1) t)).ownsRow (g+1) 9 1 (X (Y ⟨s,0,T⟩) (o++[ae]).length t) (o++[ae]).length ((o++[ae]).map Value.string)):=Ab (by rw[Aa aJ,zl];exact⟨cs,da⟩);clear B hat aR da cs bO bM bL c7 aI c6 bh aZ bH bI ci Tq;go_wp2
        go_roundw
        case rel=>exact⟨Y ⟨s,0,T⟩,t,o++[ae],c4,j,by go_num,(Aa aG).1,(Aa aG).2,d6,cl,by rw[Aa aJ];have:=Aa dY;omega,d7,d8⟩
        case measure=>(simp[intOf];try omega)
    ·have D:=Ab ((Aa aE).trans (show Jx N l=(⟨N,0,⟨#[]⟩,[]⟩,l) by unfold Jx;rw[if_neg bA,if_neg bB,if_neg bf,if_neg bC];rfl));have c8:(N==1)=jA:=zA.2 bA;have c9:(N==2)=jA:=zA.2 bB;have d3:(N==3)=jA:=zA.2 bf;have eB:(N==4)=jA:=zA.2 bC;clear bA bB bf bC;go_wp2
     go_meet
     exact Ab ⟨_,_,l,Aa D,az,World.ownsRow_nil _ _ _ _,S5,z⟩
   case rest=>
    obtain⟨y,u,ab,ct,E,bP,C,ac⟩:=Aa hcut;have ck:=Ab ct;have cu:KU (KZ (st,jA)).1:=(ZA _ F.ok).1;rw[ct]at cu;obtain⟨af,ag,rfl⟩:=Au bP;obtain⟨d9,d1,d2⟩:=Ao (aj.touch' ac (.inr (by omega)));obtain⟨c0,c1,c2,c3⟩:=AC E;clear hcut ct aE az S5 z;have db:=ak.blocks (w':=wc) (fun k hk ea=>ac.block k ea (.inr (by omega)));have aH:=ak.lts;have aS:=aj.touch' ac (.inr (by omega));have eb:=S.touch' ac (.inl (by omega));have bj:=ac.size;have eC:b≠g:=by omega
    have eD:g≠b:=by omega
    have aA:=db.alloc (jC #[U V y.kind,U V y.num,Q y.text,X af y.names.length ag] 44);have dc:=World.ownsRow.alloc bP (jC #[U V y.kind,U V y.num,Q y.text,X af y.names.length ag] 44);have al:=aS.alloc (jC #[U V y.kind,U V y.num,Q y.text,X af y.names.length ag] 44);have aB:=eb.alloc (jC #[U V y.kind,U V y.num,Q y.text,X af y.names.length ag] 44);have a0:=C.alloc (jC #[U V y.kind,U V y.num,Q y.text,X af y.names.length ag] 44);have aI:=World.news_of_block (heap_alloc_new wc (jC #[U V y.kind,U V y.num,Q y.text,X af y.names.length ag] 44));have dd:∀q,(Value.slice af y.names.length ag).ownBlock=Y q->wr.heap.size<=q:=fun q d=>(bP.lt q d).1;have eE:=Ab cu;clear cu;go_wp2_with (at_builtin;refine wpList_append_lies _ rfl _ _ 23 rfl (b+1) 44 dE (.agg #[U V 0,U V 0,Q ByteArray.empty,X T 0 0]) 4 56 underlying23 dF dG dH dI rfl (by decide) (X x P.length cx) P.length (Iz P O) rfl aA.own ⟨wc.heap.size,0,T⟩ 1 1 (Uf y (X af y.names.length ag)) rfl rfl aI (by intro u hu;simp[Uf]at hu;rcases hu with rfl|rfl|rfl|rfl<;>rfl) (by decide) (by unfold maxLen;omega) (by omega) (by simp;omega) _ rfl ?_;intro g7 ah aK de B hat eF;have ao:Ah aK b _ _:=⟨(B.block b al.lt (fun e=>by have:=(aH.1 _ e.symm).1;omega)).trans al.out⟩;obtain⟨ec,ed,ee⟩:=Ao ao;have eG:=fun j=>ao.frozen j)
    have bQ:∀q,(Value.slice x P.length cx).ownBlock=Y q->b+1<=q/\q<wr.heap.size:=aH.1;have aT:BU aK (b+1) (X (Y ⟨g7,0,T⟩) (P.length+1) ah) (P++[y]) (O++[X af y.names.length ag]):=aA.snoc (Aj dc (by omega)) (fun j a2 q d e=>by have:=(aH.2 j a2 q d).2;have:=dd q e;omega) (fun q d e=>by have:=(bQ q e).2;have:=dd q d;omega) de B (fun q d=>by
     have e:g7=q:=by simpa[Value.ownBlock]using d
     subst e;rcases hat with e|e
     ·exact .inl e
     ·right;simp at e|-;omega)
    have bk:=a0.grown B (fun q d=>by have:=(bQ q d).1;omega);have ap:Ah aK w.heap.size _ _:=⟨(B.block w.heap.size aB.lt (fun e=>by have:=(bQ _ e.symm).1;omega)).trans aB.out⟩
    have bi:=B.size;simp only[World.size_alloc]at bi;have aq:=((AT H ac (by omega) H.size).alloc (by omega) (jC #[U V y.kind,U V y.num,Q y.text,X af y.names.length ag] 44)).grown B (by simp;omega) (fun q d=>by have:=(bQ q d).1;omega);have aU:=ao.set 0 (X (Y ⟨g7,0,T⟩) (P.length+1) ah);simp only[zV,zX]at aU;have cv:=ap.setFar (p:=⟨b,0,T⟩) (by show w.heap.size≠b;omega) (X (Y ⟨g7,0,T⟩) (P.length+1) ah);have aZ:=bk.setFar ⟨b,0,T⟩ (X (Y ⟨g7,0,T⟩) (P.length+1) ah) (by show w.heap.size+1<b;omega);have bR:=aT.set ⟨b,0,T⟩ (X (Y ⟨g7,0,T⟩) (P.length+1) ah) (by show b<b+1;omega);have cw:=aq.setCell (p:=⟨b,0,T⟩) (by show w.heap.size<=b;omega) (X (Y ⟨g7,0,T⟩) (P.length+1) ah);have bN:b<(aK.setCell ⟨b,0,T⟩ (X (Y ⟨g7,0,T⟩) (P.length+1) ah)).heap.size:=by simp;omega
    have aJ:=Ab (show(P++[y]).length=P.length+1 by simp);have aG:Hid (Ah (aK.setCell ⟨b,0,T⟩ (X (Y ⟨g7,0,T⟩) (P.length+1) ah)) b #[X (Y ⟨g7,0,T⟩) (P++[y]).length ah,U V 0,X T 0 0] 26/\BU (aK.setCell ⟨b,0,T⟩ (X (Y ⟨g7,0,T⟩) (P.length+1) ah)) (b+1) (X (Y ⟨g7,0,T⟩) (P++[y]).length ah) (P++[y]) (O++[X af y.names.length ag])):=Ab (by rw[Aa aJ];exact⟨aU,bR⟩);have cy:Hid ((P++[y]++(Av KZ k ab).1,(Av KZ k ab).2)=Av KZ K s2):=Ab (by have:=Aa ay;rw[Aa ck]at this;exact this);clear B hat de aA aT bR db ac aB ap aU ao al aS bP dc aI C a0 bk aq aH E aj S ak F H;go_wp2
    go_roundw
    case rel=>exact⟨Y ⟨g7,0,T⟩,ah,P++[y],O++[X af y.names.length ag],ab,k,by go_num,(Aa aG).1,cv,(Aa aG).2,by rw[Aa aJ];have:=Aa ce;omega,aZ,cy,cw,bN⟩
    case measure=>(simp[intOf];try omega)
  ·have ay:Hid ((P,(st,v))=Av KZ K s2):=Ab (by
    rw[<-Aa bd];by_cases h0:k=0
    ·subst h0;rw[Av,zd]
    ·have:v=true:=by
      cases v
      ·exact absurd ⟨yD h0,rfl⟩ aD
      ·rfl
     rw[GN _ _ _ this,zd])
   have cz:k=0\/(0 :Int)<(k:Int)/\v=true:=by
    by_cases h0:k=0
    ·left;omega
    ·right;refine⟨by omega,?_⟩;cases v
     ·exact absurd ⟨yD h0,rfl⟩ aD
     ·rfl
   have df:=Ab ((Aa bv).trans (show _=Bl (At 2) (fun sl=>Bl (At 2) fun m=>Bl (Av LJ m.toNat) fun i=>rt (⟨P,sl,i⟩:Cd)) (st,v) by show Bl _ _ _=_;rw[Bl,<-Aa ay]));have cT:P.length<=65535:=by omega
   have dg:∀x∈P,KU x:=by
    have:=(Gv (f:=KZ) (p:=KU) ZA K s2 b9).1;rw[<-Aa ay]at this;exact this
   have ef:=Ab dg;have A:=Ab (UE (w.heap.size+1) (st,v) wr F);have cA:AB (At 2 (st,v)).2.1:=(Ch 2 _ F.ok).2;have bS:=Ab ((Aa df).trans (show Bl (At 2) _ (st,v)=Bl (At 2) (fun m=>Bl (Av LJ m.toNat) fun i=>rt (⟨P,(At 2 (st,v)).1,i⟩:Cd)) (At 2 (st,v)).2 from rfl));generalize At 2 (st,v)=r at A bS cA;obtain⟨sl,aV⟩:=r;simp only at bS cA;clear bd aD hk ay dg df;rcases cz with rfl|⟨bx,rfl⟩
   all_goals
    go_wp2_with fail
    refine(Aa A).mono ?_;rintro e aa ⟨rfl,S5,z⟩;simp only at S5;have bT:=aj.touch' z (.inr (by omega));obtain⟨c0,c1,c2⟩:=Ao bT;have eg:=fun j=>bT.frozen j;have aL:=bT.set 1 (U V sl);simp only[zV,zX,zQ]at aL;have a4:=(S.touch' z (.inl (by omega))).setFar (p:=⟨b,1,T⟩) (by show w.heap.size≠b;omega) (U V sl);have a5:=(ak.touch z (by omega)).set ⟨b,1,T⟩ (U V sl) (by show b<b+1;omega);have C:=S5.setFar ⟨b,1,T⟩ (U V sl) (by show w.heap.size+1<b;omega);have bU:=(AT H z (by omega) H.size).setCell (p:=⟨b,1,T⟩) (by show w.heap.size<=b;omega) (U V sl);have bj:b<(aa.setCell ⟨b,1,T⟩ (U V sl)).heap.size:=by have:=z.size;simp;omega
    clear aj S ak H F z S5 A bT;go_wp2_with fail
    generalize aa.setCell ⟨b,1,T⟩ (U V sl)=eh at aL a4 a5 C bU bj|-;clear c0 c1 c2 eg;have A:=Ab (UE (w.heap.size+1) aV eh C);have aC:=J8 aV C.ok;have bV:=Ab ((Aa bS).trans (show Bl (At 2) _ aV=Bl (Av LJ (At 2 aV).1.toNat) (fun i=>rt (⟨P,sl,i⟩:Cd)) (At 2 aV).2 from rfl));have dh:AB (At 2 aV).2.1:=(Ch 2 _ cA).2;clear bS;generalize At 2 aV=r at A aC bV dh;obtain⟨eH,bl⟩:=r;simp only at aC bV dh;obtain⟨M,rfl⟩:=Z5 aC.1;have bd:M<=65535:=by omega
    have di:=Ab (show EC s1=Bl (Av LJ M) (fun i=>rt (⟨P,sl,i⟩:Cd)) bl by rw[Aa bV,zb]);clear bV aC;refine(Aa A).mono ?_;rintro e aK ⟨rfl,a0,a6⟩;simp only at a0;have al:=aL.touch' a6 (.inr (by omega));have aB:=a4.touch' a6 (.inl (by omega));have aA:=a5.touch a6 (by omega);have dj:=AT bU a6 (by omega) bU.size;have dk:b<aK.heap.size:=zR bj a6.size;clear aL a4 a5 C bU bj a6 A;go_wp2_with fail
    go_loopw [9] (fun nn wr=>∃ (y:Option Addr) (ai:Nat) (I:List Cg) (st:AI) (k:Nat),nn=U V k/\Ah wr b #[X x P.length cx,U V sl,X y I.length ai] 26/\Ah wr w.heap.size #[X T 0 0,U V 0,X T 0 0] 26/\BU wr (b+1) (X x P.length cx) P O/\wr.ownsRow (b+1) 49 2 (X y I.length ai) I.length (TD I)/\(∀q,(Value.slice y I.length ai).ownBlock=Y q->(Value.slice x P.length cx).ownBlock≠Y q/\∀j,(a2:j<O.length)->O[j].ownBlock≠Y q)/\I.length+k<=M/\J7 wr (w.heap.size+1) st/\Hid ((I++(Av LJ k st).1,(Av LJ k st).2)=Av LJ M bl)/\An w wr/\b<wr.heap.size) (fun nn wr=>(intOf nn).toNat)
    case atStart=>exact⟨T,0,[],bl,M,rfl,al,aB,aA,World.ownsRow_nil _ _ _ _,(fun q d=>by cases d),by simp,a0,Ab (by simp),dj,dk⟩
    case round=>
     clear al aB aA a0 dj dk;obtain⟨y,ai,I,⟨st,v⟩,k,rfl,aj,S,ak,a7,bW,hk,F,bX,H,cb⟩:=hrel;have bw:=F.cells;simp only at bw;by_cases aD: 0<k/\v=jA
     ·obtain⟨cc,rfl⟩:=aD;obtain⟨k,rfl⟩:∃cd,k=cd+1:=⟨k-1,by omega⟩
      have bx:(0 :Int)<((k+1 :Nat):Int):=by omega
      have aN:=Aa bX;rw[GP _ _ _ rfl]at aN;have ay:=Ab aN;have ce:=Ab hk;have eI:I.length<=65534:=by omega
      have dV:k<=65535:=by omega
      clear aN bX hk cc;have cB:=Ab (QV (w.heap.size+1) (st,jA) wr F);have bm:=Ab (show LJ (st,jA)=(⟨(At 1 (st,jA)).1,(At 2 (At 1 (st,jA)).2).1⟩,(At 2 (At 1 (st,jA)).2).2)from rfl);have aX:=ET _ F.ok;have cC:AB (At 1 (st,jA)).2.1:=(Ch 1 _ F.ok).2;generalize At 1 (st,jA)=r at cB bm aX cC;obtain⟨op,l⟩:=r;simp only at bm aX cC;have eJ:=aX.1;have eK:=aX.2;clear aX;go_wp2_with fail
      refine(Aa cB).mono ?_;rintro e aa ⟨rfl,S5,z⟩;simp only at S5;have aL:=aj.touch' z (.inr (by omega));have a4:=S.touch' z (.inl (by omega));have a5:=ak.touch z (by omega);have a8:∀q,(Value.slice y I.length ai).ownBlock=Y q->b+1<=q:=fun q d=>(a7.lt q d).1;have dl:=FE a7 z (fun q d=> .inr (by have:=a8 q d;omega));have cD:=AT H z (by omega) H.size;have cV:b<aa.heap.size:=zR cb z.size;obtain⟨d9,d1,d2⟩:=Ao aL;clear aj S ak a7 H cb cB z F;have A:=Ab (fun bg (cm:J7 bg (w.heap.size+1) l)=>UE (w.heap.size+1) l bg cm);have aC:=J8 l cC;generalize At 2 l=ei at A bm aC;obtain⟨J,ab⟩:=ei;simp only at bm aC;have eL:=aC.1;have eM:=aC.2;clear aC;go_wp2_with fail
      have sd:aa.drew.cell? ⟨b,2,T⟩=Y (X y I.length ai):=d2;have co:(Tryz.f22.name== "runtime.NumGoroutine")=jA:=by kernel_rfl
      have cp: Tryz.f22.body.isNone=jA:=by kernel_rfl
      have cq:=Ab (Fd (Aa A aa.drew (S5.blocks (w':=aa.drew) (fun _ _=>rfl) NLN)) (fun e w' ⟨h,_⟩=>⟨_,h⟩));go_region_law (first
       |(refine Bf rfl 22 _ func22 co cp _ _ _ rfl (.pointer (Y ⟨w.heap.size+1,0,T⟩)) (U V 2) rfl rfl _ (Aa cq) ?_;rintro eN aO ⟨bF,C,ac⟩;obtain rfl:=AS bF;have aW:=ac.undrew;have aS:=aL.touch' aW (.inr (by omega));obtain⟨e0,e1,e2⟩:=Ao aS;have cr:=fun j=>aS.frozen j;have dm:=World.ownsRow.alloc (FE dl aW (fun q d=> .inr (by have:=a8 q d;omega))) (jC #[U V op,U V J] 49);have al:=aS.alloc (jC #[U V op,U V J] 49);obtain⟨d0,c8,c9⟩:=Ao al;have aI:=World.news_of_block (heap_alloc_new aO (jC #[U V op,U V J] 49));have bj:=aW.size)
       |(refine step_append_lies _ rfl _ _ 24 rfl (b+1) 49 dJ (.agg #[U V 0,U V 0]) 2 16 underlying24 dK dL dM dN rfl (by decide) (X y I.length ai) I.length (TD I) rfl dm ⟨aO.heap.size,0,T⟩ 1 1 [U V op,U V J] rfl rfl aI (by intro u hu;simp at hu;rcases hu with rfl|rfl<;>rfl) (by decide) (by unfold maxLen;omega) (by omega) (by simp;omega) _ rfl ?_;intro s t W aR B hat d4;have ao:Ah W b _ _:=⟨(B.block b al.lt (fun e=>by have:=a8 _ e.symm;omega)).trans al.out⟩;have c4:W.cell? ⟨b,2,T⟩=Y (X y I.length ai):=(Ao ao).2.2;have d5:=ao.frozen 2))
      all_goals
       have aB:=(a4.touch' aW (.inl (by omega))).alloc (jC #[U V op,U V J] 49);have ap:Ah W w.heap.size _ _:=⟨(B.block w.heap.size aB.lt (fun e=>by have:=a8 _ e.symm;omega)).trans aB.out⟩
       have aA:=(a5.touch aW (by omega)).alloc (jC #[U V op,U V J] 49);have aH:=aA.lts;have aT:=aA.grown B (fun q d=>bW q d);have aq:=((AT cD aW (by omega) cD.size).alloc (by omega) (jC #[U V op,U V J] 49)).grown B (by simp;omega) (fun q d=>by have:=a8 q d;omega);have bk:=(C.alloc (jC #[U V op,U V J] 49)).grown B (fun q d=>by have:=a8 q d;omega);have bi:=B.size;simp only[World.size_alloc]at bi aH;have dn:∀q,(Value.slice (Y ⟨s,0,T⟩) (I.length+1) t).ownBlock=Y q->(Value.slice x P.length cx).ownBlock≠Y q/\∀j,(a2:j<O.length)->O[j].ownBlock≠Y q:=fun q d=>by
        have e:s=q:=by simpa[Value.ownBlock]using d
        subst e;rcases hat with e|e
        ·exact bW _ e
        ·simp at e;exact⟨fun h=>by have:=(aH.1 _ h).2;omega,fun j a2 h=>by have:=(aH.2 j a2 _ h).2;omega⟩
       have aU:=ao.set 2 (X (Y ⟨s,0,T⟩) (I.length+1) t);simp only[zV,zX,zQ]at aU;have cv:=ap.setFar (p:=⟨b,2,T⟩) (by show w.heap.size≠b;omega) (X (Y ⟨s,0,T⟩) (I.length+1) t);have aZ:=bk.setFar ⟨b,2,T⟩ (X (Y ⟨s,0,T⟩) (I.length+1) t) (by show w.heap.size+1<b;omega);have cw:=aq.setCell (p:=⟨b,2,T⟩) (by show w.heap.size<=b;omega) (X (Y ⟨s,0,T⟩) (I.length+1) t);have bR:=aT.set ⟨b,2,T⟩ (X (Y ⟨s,0,T⟩) (I.length+1) t) (by show b<b+1;omega);have dp:=Ai aR ⟨b,2,T⟩ (X (Y ⟨s,0,T⟩) (I.length+1) t) (fun q d=>by have:=(aR.lt q d).1;show q≠b;omega);have bN:b<(W.setCell ⟨b,2,T⟩ (X (Y ⟨s,0,T⟩) (I.length+1) t)).heap.size:=by simp;omega
       have aJ:=Ab (show(I++[Cg.mk op J]).length=I.length+1 by simp);have cy:Hid ((I++[Cg.mk op J]++(Av LJ k ab).1,(Av LJ k ab).2)=Av LJ M bl):=Ab (by have:=Aa ay;rw[Aa bm]at this;exact this);have aG:Hid (Ah (W.setCell ⟨b,2,T⟩ (X (Y ⟨s,0,T⟩) (I.length+1) t)) b #[X x P.length cx,U V sl,X (Y ⟨s,0,T⟩) (I++[Cg.mk op J]).length t] 26/\(W.setCell ⟨b,2,T⟩ (X (Y ⟨s,0,T⟩) (I.length+1) t)).ownsRow (b+1) 49 2 (X (Y ⟨s,0,T⟩) (I++[Cg.mk op J]).length t) (I++[Cg.mk op J]).length (TD (I++[Cg.mk op J]))/\(∀q,(Value.slice (Y ⟨s,0,T⟩) (I++[Cg.mk op J]).length t).ownBlock=Y q->(Value.slice x P.length cx).ownBlock≠Y q/\∀j,(a2:j<O.length)->O[j].ownBlock≠Y q)):=Ab (by rw[Aa aJ,Wl];exact⟨aU,dp,dn⟩);clear B hat aR dp aA aT bk aB ap aU ao al aS dm dl a5 aI ac aW C S5 aL a4 cD aq aH dn bW;go_wp2
       go_roundw
       case rel=>exact⟨Y ⟨s,0,T⟩,t,I++[Cg.mk op J],ab,k,by go_num,(Aa aG).1,cv,bR,(Aa aG).2.1,(Aa aG).2.2,by rw[Aa aJ];have:=Aa ce;omega,aZ,cy,cw,bN⟩
       case measure=>(simp[intOf];try omega)
     ·have ay:Hid ((I,(st,v))=Av LJ M bl):=Ab (by
       rw[<-Aa bX];by_cases h0:k=0
       ·subst h0;rw[Av,zd]
       ·have:v=true:=by
         cases v
         ·exact absurd ⟨yD h0,rfl⟩ aD
         ·rfl
        rw[GN _ _ _ this,zd])
      have cz:k=0\/(0 :Int)<(k:Int)/\v=true:=by
       by_cases h0:k=0
       ·left;omega
       ·right;refine⟨by omega,?_⟩;cases v
        ·exact absurd ⟨yD h0,rfl⟩ aD
        ·rfl
      have dq:=Ab (show EC s1=(⟨P,sl,I⟩,(st,v)) by rw[Aa di];show Bl _ _ _=_;rw[Bl,<-Aa ay];rfl);have ej:I.length<=65535:=by omega
      have bY:=Aa b2;rw[Aa dq]at bY;simp only at bY;have bZ:=Ab bY;clear bX aD hk ay di bY dq;obtain⟨a3,b0,bf,dr,b1⟩:=id F;obtain⟨ek,ds⟩:=CI dr;have cE:=Ab b1.len;have eO:=b1.small;have eP:=b1.cap;simp only at ds cE;obtain⟨c0,c1,c2⟩:=Ao aj;obtain⟨e0,e1,e2⟩:=Ao S;have cr:=fun j=>S.frozen j;have dt:=ak.vls rfl cT (Aa ef);have du:=Hu a7 rfl ej;have cF:=Ab (JJ x y P.length cx I.length ai sl P I wr dt du);have el:=Ab (Qa P sl I);have dv:=Ab (Uo P sl I);clear b1 dr dt du;have dw:v=true->Ju L=T:=fun e=>by
       rw[Aa bZ,if_neg];rintro⟨h,_⟩;injection h with _ h;rw[e]at h;cases h
      have dx:b0≠0->Ju L=T:=fun e=>by
       rw[Aa bZ,if_neg];rintro⟨h,_⟩;injection h with h1 _;apply e;rw[<-Aa cE,h1];rfl
      have dy:v=jA->b0=0->Ju L=if Eo P sl I≠ []/\Eo P sl I=L then Y ⟨P,sl,I⟩else T:=fun e1 e2=>by
       have:st=[]:=zj (by rw[Aa cE,e2]);rw[Aa bZ,this,e1];simp only[true_and]
      have dz:=Ab dw;have em:=Ab dx;have dA:=Ab dy;clear dw dx dy bZ;generalize Eo P sl I=R at cF el dv dA;rcases cz with rfl|⟨bx,rfl⟩
      ·cases v with
       |true=>
        have ar:=Ab (Aa dz rfl);go_wp2_with fail
        have G:=((S.set 0 (X T 0 0)).set 1 (U V 0)).set 2 (X T 0 0);simp only[zV,zX,zQ]at G;obtain⟨au,av,aw⟩:=Ao G;refine bodyPost_ret (Io results10 rfl au av aw) rfl ?_;rw[Aa ar];exact Jy.no (((H.setCell (p:=⟨w.heap.size,0,T⟩) NLN _).setCell (p:=⟨w.heap.size,1,T⟩) NLN _).setCell (p:=⟨w.heap.size,2,T⟩) NLN _)
       |false=>
        by_cases dB:b0=0
        ·subst dB;have cG:=Ab (Aa dA rfl rfl);go_wp2_with fail
         refine(Aa cF).mono ?_;rintro e W ⟨eQ,rfl,dC,a9⟩;obtain⟨eR,eS,rfl⟩:=Au dC;have ao:=aj.after a9 NLN;have ap:=S.after a9 NLN;have aT:=ak.blocks (w':=W) (fun k _ hk=>a9.block k hk);have dD:=Af a7 a9 NLN;have aq:=H.trans (a9.mono H.size);have en:=GC dC rfl;have eT:=MC (h.blocks (fun k hk _=>aq.block k hk) aq.size);obtain⟨eU,f1,f2⟩:=Ao ap;obtain⟨ec,ed,ee⟩:=Ao ao;have eV:=fun j=>ap.frozen j;clear e0 e1 e2 cr c0 c1 c2 ek ds bw aj S ak a7 H a9 cF;by_cases cH:R=[]
         ·subst cH;have ar:=Ab (show Ju L=T by rw[Aa cG,if_neg (fun h=>h.1 rfl)]);go_wp2_with fail
          have G:=((ap.set 0 (X T 0 0)).set 1 (U V 0)).set 2 (X T 0 0);simp only[zV,zX,zQ]at G;obtain⟨au,av,aw⟩:=Ao G;refine bodyPost_ret (Io results10 rfl au av aw) rfl ?_;rw[Aa ar];exact Jy.no (((aq.setCell (p:=⟨w.heap.size,0,T⟩) NLN _).setCell (p:=⟨w.heap.size,1,T⟩) NLN _).setCell (p:=⟨w.heap.size,2,T⟩) NLN _)
         ·have eo: ¬ ((R.length:Int)=0):=by
           intro e;apply cH;exact zj (by omega)
          have eW:((R.length:Int)==0)=jA:=zA.2 eo;by_cases bn:R=L
          ·have ar:=Ab (show Ju L=Y ⟨P,sl,I⟩ by rw[Aa cG,if_pos ⟨cH,bn⟩]);have bo:Fr R=Fr L:=by rw[bn]
           rw[bo]at en;clear bo bn;go_wp2_with fail
           have G:=((ap.set 0 (X x P.length cx)).set 1 (U V sl)).set 2 (X y I.length ai);simp only[zV,zX,zQ]at G;obtain⟨au,av,aw⟩:=Ao G;refine bodyPost_ret (Io results10 rfl au av aw) rfl ?_;rw[Aa ar];have cI:w.heap.size<b+1:=by omega
           have far:∀q,(Value.slice y I.length ai).ownBlock=Y q->q≠w.heap.size:=fun q d=>by have:=(dD.lt q d).1;omega
           exact⟨x,cx,y,ai,O,rfl,(((aT.set ⟨w.heap.size,0,T⟩ _ cI).set ⟨w.heap.size,1,T⟩ _ cI).set ⟨w.heap.size,2,T⟩ _ cI).low (by omega),Aj (Ai (Ai (Ai dD ⟨w.heap.size,0,T⟩ _ far) ⟨w.heap.size,1,T⟩ _ far) ⟨w.heap.size,2,T⟩ _ far) (by omega),bW,((aq.setCell (p:=⟨w.heap.size,0,T⟩) NLN _).setCell (p:=⟨w.heap.size,1,T⟩) NLN _).setCell (p:=⟨w.heap.size,2,T⟩) NLN _⟩
          ·have bo:Fr R≠Fr L:=fun e=>bn (AcY (Aa dv) h.ok e);have eX:((Fr R).toList==(Fr L).toList)=jA:=zA.2 (fun e=>bo (Agk e));have ar:=Ab (show Ju L=T by rw[Aa cG,if_neg (fun h=>bn h.2)]);clear bo;go_wp2_with fail
           have G:=((ap.set 0 (X T 0 0)).set 1 (U V 0)).set 2 (X T 0 0);simp only[zV,zX,zQ]at G;obtain⟨au,av,aw⟩:=Ao G;refine bodyPost_ret (Io results10 rfl au av aw) rfl ?_;rw[Aa ar];exact Jy.no (((aq.setCell (p:=⟨w.heap.size,0,T⟩) NLN _).setCell (p:=⟨w.heap.size,1,T⟩) NLN _).setCell (p:=⟨w.heap.size,2,T⟩) NLN _)
        ·have eY:(0 :Int)<(b0:Int):=by omega
         have ar:=Ab (Aa em dB);go_wp2_with fail
         have G:=((S.set 0 (X T 0 0)).set 1 (U V 0)).set 2 (X T 0 0);simp only[zV,zX,zQ]at G;obtain⟨au,av,aw⟩:=Ao G;refine bodyPost_ret (Io results10 rfl au av aw) rfl ?_;rw[Aa ar];exact Jy.no (((H.setCell (p:=⟨w.heap.size,0,T⟩) NLN _).setCell (p:=⟨w.heap.size,1,T⟩) NLN _).setCell (p:=⟨w.heap.size,2,T⟩) NLN _)
      ·have ar:=Ab (Aa dz rfl);go_wp2_with fail
       have G:=((S.set 0 (X T 0 0)).set 1 (U V 0)).set 2 (X T 0 0);simp only[zV,zX,zQ]at G;obtain⟨au,av,aw⟩:=Ao G;refine bodyPost_ret (Io results10 rfl au av aw) rfl ?_;rw[Aa ar];exact Jy.no (((H.setCell (p:=⟨w.heap.size,0,T⟩) NLN _).setCell (p:=⟨w.heap.size,1,T⟩) NLN _).setCell (p:=⟨w.heap.size,2,T⟩) NLN _)
end Go.Proofs.YtppafecmccdplaaGreat
