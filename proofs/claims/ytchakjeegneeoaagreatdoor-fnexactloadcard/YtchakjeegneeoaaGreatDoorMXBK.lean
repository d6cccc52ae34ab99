/-
  ECR, ECS, HT. Own work.
-/
import Derived.Test.YtchakjeegneeoaaGreatDoorMXBE
import Derived.Test.YtchakjeegneeoaaGreatDoorMXAX
import Derived.Test.YtchakjeegneeoaaGreatDoorMXBO
namespace Go.Proofs.YtchakjeegneeoaaGreatDoor
set_option maxRecDepth 100000
set_option maxHeartbeats 6400000
open Go.RowKit
set_option linter.unusedVariables false
theorem Fw (D:List Dc):∀ (e:Ex),(Ia D e).cnt=e.cnt
 | .name i s=>by
  rw[Ia,rsN];split
  ·split <;> rfl
  ·rfl
 | .un _ _ k=>by simp[Ia,Ex.cnt,Fw D k]
 | .bin _ _ l r=>by simp[Ia,Ex.cnt,Fw D l,Fw D r]
 | .ite _ c t e=>by simp[Ia,Ex.cnt,Fw D c,Fw D t,Fw D e]
 | .int .. | .text .. | .bool .. | .set .. | .attr .. | .lett .. =>rfl
theorem Jw {w:World}(D:List Dc):∀ (e:Ex),e.sok w→(Ia D e).sok w
 | .name i s,_=>by
  rw[Ia,rsN];split
  ·split <;> trivial
  ·trivial
 | .un _ _ k,h=>Jw D k h
 | .bin _ _ l r,h=>⟨Jw D l h.1,Jw D r h.2⟩
 | .ite _ c t e,h=>⟨Jw D c h.1,Jw D t h.2.1,Jw D e h.2.2⟩
 | .int ..,h=>h
 | .text ..,h=>h
 | .bool ..,h=>h
 | .set ..,h=>h
 | .attr ..,h=>h
 | .lett ..,h=>h
theorem QV (D:List Dc)(o:Option Ex):AH (Pi D o)=AH o:=by
 cases o with
 |none=>rfl
 |some e=>exact Fw D e
theorem Wy {w:World}(D:List Dc)(o:Option Ex)(h:Jt w o):Jt w (Pi D o):=by
 cases o with
 |none=>trivial
 |some e=>exact Jw D e h
theorem QW (D:List Dc):∀ (S:List Sx),CI (S.map (Sm D))=CI S
 | []=>rfl
 |x ::S=>by rw[List.map_cons,Bp,Bp,QW D S];simp[Sm,QV]
def two (v v':Value):Prop:=(v= .nilIface∧v'= .nilIface)∨∃ t u t' u',v= .iface t u∧v'= .iface t' u'
theorem SO (D:List Dc)(o:Option Ex):two (Bu o) (Bu (Pi D o)):=by
 cases o with
 |none=>exact .inl ⟨rfl,rfl⟩
 |some e=>
  obtain ⟨t,u,h⟩:=e.form;obtain ⟨a,b,c⟩:=(Ia D e).form;exact .inr ⟨t,u,a,b,h,c⟩
theorem XC (a b:Option Addr)(n c m d:Nat)(N:List Nd)(L:List St)(aK a1 a2 a3 a4 a5 b0 au av Y:Addr)(w:World)(h1:GQ w a n c N)(h2:KN w b m d L)(bc:Jl w)(bd:KM w Y)(bf:Y6 w aK a1 a2 a3 a4 a5 b0 au av Y)(bg:∀ x∈N,x.num≤9223372036854775807):
  Calls Tryz.prog 36 #[.agg #[.slice a n c,.slice b m d]] w fun r w'=>(∃ q,AbB N L q∧CkO aK Y au av q w r w')∧Below w.heap.size w w':=by
 have bh:=Ab h1.len;have aL:=Ab h2.len;have b1:=Ab bg;have co:∀ (bi:Fn) (first cap:Array Value) (w:World),(Instr.makeFunc bi first cap).run Tryz.prog w= .ok (.func bi first cap) w:=fun _ _ _ _=>rfl
 have aM:=(Al.new w #[.slice a n c,.slice b m d] 36).alloc (.cells #[.slice none 0 0,.slice none 0 0,.slice none 0 0] 26);have aw:=Al.new (w.alloc (.cells #[.slice a n c,.slice b m d] 36)) #[.slice none 0 0,.slice none 0 0,.slice none 0 0] 26;simp only[World.size_alloc] at aw;have A:=((Below.refl w.heap.size w).alloc NLN (.cells #[.slice a n c,.slice b m d] 36)).alloc (by simp) (.cells #[.slice none 0 0,.slice none 0 0,.slice none 0 0] 26);have ax:=h1.below A NLN;have ay:=h2.below A NLN;have T1:=bc.below A NLN;have aN:=bd.below A NLN;have S1:=bf.below A NLN;clear h1 h2 bc bd bf bg;have b2:∃ bj,bj=(w.alloc (.cells #[.slice a n c,.slice b m d] 36)).alloc (.cells #[.slice none 0 0,.slice none 0 0,.slice none 0 0] 26):=⟨_,rfl⟩
 go_enter Tryz.func36,Tryz.ntmps36
 go_wp2_with fail
 obtain ⟨bj,bk⟩:=b2;rw[← bk] at aM aw A ax ay T1 aN S1 ⊢;clear bk;refine (KZ _ _ _ _ _ _ N L _ ax ay T1).mono ?_;rintro r w2 ⟨rfl,K⟩;have bl:=ax.below K NLN;have bm:=ay.below K NLN;have bn:=aN.below K NLN;have h:=S1.below K NLN;have bo:=aM.after K NLN;have O:=aw.after K NLN;have Z:=A.trans (K.mono A.size);clear ax ay T1 aN S1 aM aw A K;dsimp only;cases ae:Bo N L with
 |false=>
  have af:=Ab ae;clear ae;have gX:=h.gX;obtain ⟨bp,bq,br,_⟩:=Cd O;have bs:=fun k=>O.frozen k;have cp:=h.big;have cq: 0≠w.heap.size+1:=by have:=O.lt;omega
  have cr:w.heap.size+1≠0:=by have:=O.lt;omega
  clear h;go_wp2_with fail
  go_region
  all_goals
   go_wp2_with fail
   have aa:=((O.set 0 (.slice none 0 0)).set 1 (.slice none 0 0)).set 2 (.slice none 0 0);have P:=(((Z.setCell (p:=⟨w.heap.size+1,0,none⟩) (zJ _) (.slice none 0 0)).setCell (p:=⟨w.heap.size+1,1,none⟩) (zJ _) (.slice none 0 0)).setCell (p:=⟨w.heap.size+1,2,none⟩) (zJ _) (.slice none 0 0)).drew;obtain ⟨B,e1,e2,_⟩:=Cd aa;exact bodyPost_ret (v:= .tuple #[.agg #[.slice none 0 0,.slice none 0 0,.slice none 0 0],.iface 276 (.pointer (some aK))]) (by simp[results,Tryz.results36,go_sem,B,e1,e2]) rfl ⟨⟨_,.inl ⟨Aa af,rfl⟩,.inl ⟨rfl,rfl⟩⟩,P⟩
 |true=>
  have af:=Ab ae;have ag:=Ab (Fv ae);clear ae;obtain ⟨b3,b4⟩:=Ba bo;go_wp2_with fail
  have t:=Ab (K0 a b n c m d N L w2 w2 bl BRN bm (fun e=>e.fit w2) (Pj (Aa ag).fields (Aa b1) (Aa ag).kids) (by rw[← Aa bh];exact (Aa ag).roots));refine (Aa t).mono ?_;rintro r az ⟨⟨v,Es,rfl,bt,aO,hf,aP⟩,z⟩;have aQ:=Ab (show Es.length=N.length by rw[bt,Aa bh]);have bu:=Ab aO;have aA:=Ab hf;have bv:=Ab (Zr (Aa af) (Aa aQ) aO);have aR:=Ab (show 1≤m∧m≤600 by rw[← Aa aL];exact ⟨(Aa ag).m0,(Aa ag).m⟩);clear bt aO hf t;obtain ⟨ct,bw,rfl,hx⟩:=Ad aP;obtain ⟨g,rfl,b5,bx⟩:=hx (by have:=Aa aR;omega);obtain ⟨aS,aa,cu⟩:=SP aP;have bz:=Ab bx;have bA:=bn.below z NLN;have bB:=h.below z NLN;have b6:=O.after z NLN;have P:=Z.trans (z.mono Z.size);have b7:=O.lt;clear bn h bo O b3 b4 aP hx bx bl bm;dsimp only;go_wp2_with fail
  refine (Sz Y _ bA).mono ?_;rintro r bC ⟨E,mb,rfl,b8,bD,b9,Q⟩;have ca:Cx az.heap.size E mb Dj [] [] (.slice none 0 0) (.slice none 0 0) bC:=⟨bD,b9,b8⟩
  have aT:=aa.after Q NLN;have bE:=b6.after Q NLN;have cv:=bB.below Q NLN;have cw:=P.trans (Q.mono P.size);have cb:=aa.lt;have g1:g≠E:=by have:=bD.low;omega
  have g2:g≠mb:=by omega
  have aU:=Ab (Mt Y au av az.heap.size E mb (Dj, [], []) (.slice none 0 0) (.slice none 0 0) az bA bB.eok NLN (Id Es 0 L) m g bw aS bC (by rw[MH];exact Aa aL) SN (by have:=Aa aR;simp;omega) (fun x hx=>by obtain ⟨s',_,e1,e2,_,_⟩:=QU hx;rw[e1,e2];exact ⟨(QP (Aa aA) _).1,(QP (Aa aA) _).1⟩) (by rw[JT];have:=Aa bv;simp;omega) Q ca aT (fun r u ab=>by rw[← aT.cell,(Q.cell (p:=⟨g,r,none⟩) cb)];exact Aa bz r u (by rw[Vb];exact ab)) g1 g2 (by simp[Value.ownBlock]) (by simp[Value.ownBlock]));dsimp only;go_wp2_with fail
  refine (Aa aU).mono ?_;rintro r aV (⟨D,ts,l,lv,cx,ah,rfl,R,aW⟩ | ⟨f,aB,ah,rfl,bF,bG⟩)
  ·have ai:=Ab ah;clear ah aU;obtain ⟨o,s,rfl,_⟩:=Ad R.C.types;obtain ⟨bH,q3,q4⟩:=aW.row aT g1 g2 (by simp[Value.ownBlock]) (by simp[Value.ownBlock]);have V:=bE.below aW.low (by have:=aa.lt;have:=z.size;omega);have aC:=Q.trans (aW.low);have bI:=P.trans (aC.mono P.size);have aj:w2.heap.size≤g:=b5;have cy:=bH.lt;have bJ:=R.C.row.lt;have cc:=R.M.lt;have bK:=Ab (show LY (Hj (Jb D (Id Es 0 L) 0)) aS from fun r u ab=>by
    have B:Jb D (Id Es 0 L) 0=Id Es 0 L:=by simp[Jb]
    rw[B] at ab;rw[← aa.cell];exact Aa bz r u (by rw[Vb];exact ab))
   have aD:=Ab (show (Id Es 0 L).length=m by rw[MH];exact Aa aL);have cz:m≤600:=(Aa aR).2;have bL:=Ab (show ∀ x∈Id Es 0 L,Jt w2 x.cond∧Jt w2 x.grant from fun x hx=>by obtain ⟨s',_,e1,e2,_,_⟩:=QU hx;rw[e1,e2];exact ⟨(QP (Aa aA) _).2,(QP (Aa aA) _).2⟩);have bM:=Ab (show CI (Id Es 0 L)≤4000 by rw[JT];exact Aa bv);have aX:=Ab (show ckP Es L= .ok (AK 0 ((Id Es 0 L).map (Sm D)),Cu 0 ((Id Es 0 L).map (Sm D)),l) by rw[ckP,Aa ai]);generalize Id Es 0 L=S at ai bK aD bL bM aX;dsimp only;go_wp2_with fail
   go_loopw [26] (fun i wr=>∃ (k:Nat) (ak:Array Value),k≤m∧i= .int .i64 k∧Hid (LY (Hj (Jb D S k)) ak)∧Al wr g ak 119∧Below w2.heap.size aV wr∧Hid (∀ q,q < aV.heap.size→q≠g→wr.heap[q]? =aV.heap[q]?)) (fun i _=>m - (intOf i).toNat)
   case atStart=>exact ⟨0,aS,by omega,rfl,bK,bH,BRN,Ab fun _ _ _=>rfl⟩
   case round=>
    obtain ⟨k,ak,hk,rfl,aY,T,aE,ac⟩:=hrel;by_cases aZ:k < m
    ·have cA:(k:Int) < (m:Int):=by omega
     have a0:k < S.length:=by rw[Aa aD];exact aZ
     have ad:∀ r,r < 5→∀ u,(Nq S[k])[r]? =some u→wr.cell? ⟨g,k * 5+r,none⟩=some u:=fun r cd u ab=>by
      rw[T.cell];refine Aa aY _ _ ?_;have bN:k < (Jb D S k).length:=by rw[SM];exact a0
      rw[Nr _ k bN r cd];have e:=AbC D S k a0;rw[zH bN] at e;rw[Option.some.inj e];exact ab
     have c0:=ad 0 (by decide) _ rfl;have c1:=ad 1 (by decide) _ rfl;have c2:=ad 2 (by decide) _ rfl;have c3:=ad 3 (by decide) _ rfl;have c4:=ad 4 (by decide) _ rfl;simp only[zZ] at c0;have X:=Ab (Vd (Aa aY) a0);have bO:=Ab aZ;have ce:=aE.size;have cf:w2.heap.size≤wr.heap.size:=by have:=z.size;have:=aC.size;omega
     have aF:Al wr E #[.map (some mb),lv,.slice o l.length s] 125:=⟨(Aa ac E bJ g1.symm).trans R.C.row.out⟩
     have cg:Di wr mb D:=R.M.keep (Aa ac mb cc g2.symm);have t:=Ab (fun W (a6:Below wr.heap.size wr W)=>SK E mb D W ((aF.after a6 NLN).cell 0) (aF.after a6 NLN).lt (cg.below a6) S[k] W BRN);have al:=SO D S[k].cond;have ao:=SO D S[k].grant;clear ad aZ;generalize S[k]=x at c0 c1 c2 c3 c4 X t al ao;generalize Bu (Pi D x.cond)=cB at X t al;generalize Bu (Pi D x.grant)=cC at X t ao;generalize Bu x.cond=cD at c3 t al;generalize Bu x.grant=cE at c4 t ao;generalize x.kind=cF at c1 t X;generalize x.name=nm at c2 t X;generalize x.at'=cG at c0 t X;rcases al with ⟨rfl,rfl⟩ | ⟨al,u3,cH,cI,rfl,rfl⟩ <;> rcases ao with ⟨rfl,rfl⟩ | ⟨ao,u4,cJ,cK,rfl,rfl⟩
     all_goals
      go_wp2_with fail
      refine (Aa t _ (BRN.alloc NLN _)).mono ?_;rintro r ch ⟨rfl,bP⟩;have F:Below wr.heap.size wr ch:=(BRN.alloc NLN _).trans (bP.mono (by simp));have bQ:=T.after F NLN;have cL:=(F.cell (p:=⟨g,k * 5,none⟩) T.lt).trans c0;have d1:=(F.cell (p:=⟨g,k * 5+1,none⟩) T.lt).trans c1;have d2:=(F.cell (p:=⟨g,k * 5+2,none⟩) T.lt).trans c2;have d3:=(F.cell (p:=⟨g,k * 5+3,none⟩) T.lt).trans c3;have d4:=(F.cell (p:=⟨g,k * 5+4,none⟩) T.lt).trans c4;have cM:=fun j=>bQ.frozen j;have cN:=F.size;have bR:=Ab F;clear bP F c0 c1 c2 c3 c4;dsimp only;go_wp2_with fail
      go_roundw
      case rel=>exact ⟨k+1,_,Aa bO,by go_num,X,((((bQ.set _ _).set _ _).set _ _).set _ _).set _ _,(((((aE.trans ((Aa bR).mono cf)).setCell (p:=⟨g,k * 5,none⟩) aj _).setCell (p:=⟨g,k * 5+1,none⟩) aj _).setCell (p:=⟨g,k * 5+2,none⟩) aj _).setCell (p:=⟨g,k * 5+3,none⟩) aj _).setCell (p:=⟨g,k * 5+4,none⟩) aj _,Ab (fun q h1 h2=>by rw[heap_setCell_other _ _ q _ h2,heap_setCell_other _ _ q _ h2,heap_setCell_other _ _ q _ h2,heap_setCell_other _ _ q _ h2,heap_setCell_other _ _ q _ h2,(Aa bR).block q (by omega)];exact Aa ac q h1 h2)⟩
      case measure=>have:=Aa bO;simp[intOf];omega
    ·have e:k=m:=by omega
     subst e;have aF:Al wr E #[.map (some mb),lv,.slice o l.length s] 125:=⟨(Aa ac E bJ g1.symm).trans R.C.row.out⟩
     have cO:wr.cell? ⟨E,2,none⟩=some (.slice o l.length s):=aF.cell 2;have bS:=Ab (show LY (Hj (S.map (Sm D))) ak from by
      have B:Jb D S k=S.map (Sm D):=by rw[Jb,← Aa aD,z3,Z6,zr]
      rw[← B];exact Aa aY)
     have aG:Below w2.heap.size w2 wr:=(z.trans (aC.mono z.size)).trans aE;have bT:=Ab (SL (S.map (Sm D)) g k bw ak o l.length s wr (by rw[zV];exact Aa aD) T (Aa bS) (fun y hy=>by
      obtain ⟨x,hx,rfl⟩:=zQ.1 hy;have:=Aa bL x hx;exact ⟨Wy D _ (GP aG NLN _ this.1),Wy D _ (GP aG NLN _ this.2)⟩) (by rw[QW];have:=Aa bM;omega) (by omega))
     go_wp2_with fail
     refine (Aa bT).mono ?_;rintro r U ⟨⟨nd,cP,ci,cj,cQ,rfl,ap,aq,_⟩,aH⟩;clear bT bS;generalize S.map (Sm D)=h at ap aq aX;obtain ⟨H,I,rfl,_⟩:=Ad ap.own;obtain ⟨J,cs,rfl,_⟩:=Ad aq;have cS:w.heap.size+1 < w2.heap.size:=b7;have ce:=aE.size;have cT:=aC.size;have cU:=z.size;have cV:=aH.size;have bU:Al wr (w.heap.size+1) #[.slice none 0 0,.slice none 0 0,.slice none 0 0] 26:=⟨(Aa ac (w.heap.size+1) V.lt (by omega)).trans V.out⟩
     have a7:=bU.after aH NLN;have ck:Below w.heap.size w U:=(Z.trans (aG.mono Z.size)).trans (aH.mono (zD Z.size aG.size));have aI:wr.ownsRow az.heap.size 3 1 (.slice o l.length s) l.length (Ar l):=At R.C.types (fun q hq=>Aa ac q (R.C.types.lt q hq).2 (fun e=>q4 (by rw[← e];exact hq)));have a8:=At aI (fun q hq=>aH.block q (aI.lt q hq).2);have kp:∀ q,w2.heap.size≤q→∀ (bV bW bX:Value),(((U.setCell ⟨w.heap.size+1,0,none⟩ bV).setCell ⟨w.heap.size+1,1,none⟩ bW).setCell ⟨w.heap.size+1,2,none⟩ bX).heap[q]? =U.heap[q]? :=fun q h1 bV bW bX=>by
      have hq:q≠w.heap.size+1:=by omega
      rw[heap_setCell_other _ _ q _ hq,heap_setCell_other _ _ q _ hq,heap_setCell_other _ _ q _ hq]
     have a9:=((a7.set 0 (.slice H (AK 0 h).length I)).set 1 (.slice J h.length cs)).set 2 (.slice o l.length s);have ba:=((ck.setCell (p:=⟨w.heap.size+1,0,none⟩) (zJ _) (.slice H (AK 0 h).length I)).setCell (p:=⟨w.heap.size+1,1,none⟩) (zJ _) (.slice J h.length cs)).setCell (p:=⟨w.heap.size+1,2,none⟩) (zJ _) (.slice o l.length s);have cl:=Ab (show Ee (((U.setCell ⟨w.heap.size+1,0,none⟩ (.slice H (AK 0 h).length I)).setCell ⟨w.heap.size+1,1,none⟩ (.slice J h.length cs)).setCell ⟨w.heap.size+1,2,none⟩ (.slice o l.length s)) w.heap.size (((U.setCell ⟨w.heap.size+1,0,none⟩ (.slice H (AK 0 h).length I)).setCell ⟨w.heap.size+1,1,none⟩ (.slice J h.length cs)).setCell ⟨w.heap.size+1,2,none⟩ (.slice o l.length s)).heap.size H (AK 0 h).length I J h.length cs o l.length s (AK 0 h) ci cj (Cu 0 h) l from by
      have aJ:=ap.blocks (w':=((U.setCell ⟨w.heap.size+1,0,none⟩ (.slice H (AK 0 h).length I)).setCell ⟨w.heap.size+1,1,none⟩ (.slice J h.length cs)).setCell ⟨w.heap.size+1,2,none⟩ (.slice o l.length s)) (fun q h1 h2=>kp q (by omega) _ _ _);have bY:=At (w':=((U.setCell ⟨w.heap.size+1,0,none⟩ (.slice H (AK 0 h).length I)).setCell ⟨w.heap.size+1,1,none⟩ (.slice J h.length cs)).setCell ⟨w.heap.size+1,2,none⟩ (.slice o l.length s)) aq (fun q hq=>kp q (by have:=(aq.lt q hq).1;omega) _ _ _);have bZ:=At (w':=((U.setCell ⟨w.heap.size+1,0,none⟩ (.slice H (AK 0 h).length I)).setCell ⟨w.heap.size+1,1,none⟩ (.slice J h.length cs)).setCell ⟨w.heap.size+1,2,none⟩ (.slice o l.length s)) a8 (fun q hq=>kp q (by have:=(a8.lt q hq).1;omega) _ _ _);exact ⟨aJ.low (by omega),CA bY (by omega),CA bZ (by omega),fun q hq j ar e=>by
       have h1:=(aI.lt q hq).2;have h2:=(ap.lts.2.2 j ar q e).1;omega,⟨fun q hq=>(aJ.lts.1 q hq).2,fun j ar q hq=>(aJ.lts.2.1 j ar q hq).2,fun j ar q hq=>(aJ.lts.2.2 j ar q hq).2⟩,fun q hq=>(bY.lt q hq).2,fun q hq=>(bZ.lt q hq).2,NLN,rfl,Fy _ _,rfl⟩)
     obtain ⟨bp,bq,br,_⟩:=Cd a7;have bs:=fun k=>a7.frozen k;clear ap aq aI a8 kp bU;dsimp only;go_wp2_with fail
     obtain ⟨B,e1,e2,_⟩:=Cd a9;exact bodyPost_ret (v:= .tuple #[.agg #[.slice H (AK 0 h).length I,.slice J h.length cs,.slice o l.length s],.nilIface]) (by simp[results,Tryz.results36,go_sem,B,e1,e2]) rfl ⟨⟨_,.inr ⟨Aa af,Es,Aa aQ,Aa bu,rfl⟩,.inr (.inr ⟨_,_,_,_,_,_,_,_,_,_,_,_,_,_,Aa aX,rfl,Aa cl⟩)⟩,ba⟩
  ·have ai:=Ab ah;clear ah aU;have V:=bE.below bG (by have:=z.size;omega);have bI:=P.trans ((Q.trans bG).mono P.size);have bb:aB≠w.heap.size+1:=fun e=>by
    have h1:=bF.out;rw[e,V.out] at h1;simp at h1
   obtain ⟨bp,bq,br,_⟩:=Cd V;have bs:=fun k=>V.frozen k;dsimp only;have cm:=Ab (KY (Aa ai));go_wp2_with fail
   have a9:=((V.set 0 (.slice none 0 0)).set 1 (.slice none 0 0)).set 2 (.slice none 0 0);have ba:=((bI.setCell (p:=⟨w.heap.size+1,0,none⟩) (zJ _) (.slice none 0 0)).setCell (p:=⟨w.heap.size+1,1,none⟩) (zJ _) (.slice none 0 0)).setCell (p:=⟨w.heap.size+1,2,none⟩) (zJ _) (.slice none 0 0);have cn:ErO Y au av f aB _:=((Al.setFar bF (p:=⟨w.heap.size+1,0,none⟩) bb (.slice none 0 0)).setFar (p:=⟨w.heap.size+1,1,none⟩) bb (.slice none 0 0)).setFar (p:=⟨w.heap.size+1,2,none⟩) bb (.slice none 0 0);obtain ⟨B,e1,e2,_⟩:=Cd a9;exact bodyPost_ret (v:= .tuple #[.agg #[.slice none 0 0,.slice none 0 0,.slice none 0 0],.iface 107 (.pointer (some ⟨aB,0,none⟩))]) (by simp[results,Tryz.results36,go_sem,B,e1,e2]) rfl ⟨⟨.error f,.inr ⟨Aa af,Es,Aa aQ,Aa bu,by rw[ckP,Aa ai]⟩,.inr (.inl ⟨f,aB,rfl,Aa cm,rfl,cn⟩)⟩,ba⟩
set_option maxHeartbeats 3200000
def CkF (r:UP) (lo:Nat) (e:Ending) (w':World):Prop:=
 (∃ f:Int × Int,r= .error f∧e= .returned (.tuple #[.agg #[.slice none 0 0,.slice none 0 0,.slice none 0 0],.agg #[.int .i64 f.1,.int .i64 f.2]]))∨
 (∃ N L T x n cx y m cy z p cz nv kv hi,r= .ok (N,L,T)∧e= .returned (.tuple #[.agg #[.slice x n cx,.slice y m cy,.slice z p cz],.agg #[.int .i64 0,.int .i64 0]])∧Ee w' lo hi x n cx y m cy z p cz N nv kv L T)
theorem Vf (a b:Option Addr)(n c m d:Nat)(N:List Nd)(L:List St)(au a1 a2 a3 a4 a5 aG aH aI ax:Addr)(w:World)(h1:GQ w a n c N)(h2:KN w b m d L)(aJ:Jl w)(aK:KM w ax)(ay:Y6 w au a1 a2 a3 a4 a5 aG aH aI ax)(aL:∀ x∈N,x.num≤9223372036854775807):
  Calls Tryz.prog 13 #[.agg #[.slice a n c,.slice b m d]] w fun r w'=>(∃ q,AbB N L q∧CkF q w.heap.size r w')∧Below w.heap.size w w':=by
 have aM:=Ab (fun W (H:Below w.heap.size w W)=>XC a b n c m d N L au a1 a2 a3 a4 a5 aG aH aI ax W (h1.below H NLN) (h2.below H NLN) (aJ.below H NLN) (aK.below H NLN) (ay.below H NLN) aL);have aN:=Ab ay;clear h1 h2 aJ aK ay aL;have av:=((Al.new (w.alloc (.cells #[.slice a n c,.slice b m d] 36)) #[.slice none 0 0,.slice none 0 0,.slice none 0 0] 26)).alloc (.cells #[.int .i64 0,.int .i64 0] 28);have S:=Al.new ((w.alloc (.cells #[.slice a n c,.slice b m d] 36)).alloc (.cells #[.slice none 0 0,.slice none 0 0,.slice none 0 0] 26)) #[.int .i64 0,.int .i64 0] 28;simp only[World.size_alloc] at av S;have T:=(((Below.refl w.heap.size w).alloc NLN (.cells #[.slice a n c,.slice b m d] 36)).alloc (by simp) (.cells #[.slice none 0 0,.slice none 0 0,.slice none 0 0] 26)).alloc (by simp;omega) (.cells #[.int .i64 0,.int .i64 0] 28);have az:(Tryz.f35.name== "runtime.NumGoroutine")=false:=by kernel_rfl
 have aA: Tryz.f35.body.isNone=false:=by kernel_rfl
 have aT:∃ aw,aw=((w.alloc (.cells #[.slice a n c,.slice b m d] 36)).alloc (.cells #[.slice none 0 0,.slice none 0 0,.slice none 0 0] 26)).alloc (.cells #[.int .i64 0,.int .i64 0] 28):=⟨_,rfl⟩
 go_enter Tryz.func13,Tryz.ntmps13
 go_wp2_with fail
 obtain ⟨aw,aO⟩:=aT;rw[← aO] at av S T ⊢;clear aO;refine (Aa aM _ T).mono ?_;rintro r w2 ⟨⟨q,hq,aU⟩,aB⟩;have aC:=Ab hq;have aD:=av.after aB NLN;have R:=S.after aB NLN;have M:=T.trans (aB.mono T.size);have a7:=S.lt;clear hq av S T aM;rcases aU with ⟨rfl,rfl⟩ | ⟨f,g,rfl,hf,rfl,aV⟩ | ⟨aW,aX,aY,x,s,t,y,u,z,A,p,B,aZ,a0,rfl,rfl,E⟩
 ·have U:=Ab (fun W (H:Below w2.heap.size w2 W)=>QO au W ((Aa aN).below (M.trans (H.mono M.size)) NLN));have l:=Al.new w2 #[.slice none 0 0,.slice none 0 0,.slice none 0 0] 26;have O:=aD.alloc (.cells #[.slice none 0 0,.slice none 0 0,.slice none 0 0] 26);have P:=R.alloc (.cells #[.slice none 0 0,.slice none 0 0,.slice none 0 0] 26);have I:=M.alloc M.size (.cells #[.slice none 0 0,.slice none 0 0,.slice none 0 0] 26);have J:=(Below.refl w2.heap.size w2).alloc NLN (.cells #[.slice none 0 0,.slice none 0 0,.slice none 0 0] 26);have V:∃ i,i=w2.alloc (.cells #[.slice none 0 0,.slice none 0 0,.slice none 0 0] 26):=⟨_,rfl⟩
  have aP:w.heap.size+1+1 < w2.heap.size:=R.lt;dsimp only;go_wp2_with fail
  obtain ⟨i,Q⟩:=V;rw[← Q] at l O P I J ⊢;clear Q;have X:i.cell? ⟨w2.heap.size,0,none⟩=some (.slice none 0 0):=l.cell 0;have Y:i.cell? ⟨w2.heap.size,1,none⟩=some (.slice none 0 0):=l.cell 1;have Z:i.cell? ⟨w2.heap.size,2,none⟩=some (.slice none 0 0):=l.cell 2;have aa:Below i.heap.size i i.drew:=BRN.drew;go_region_law (refine Fz rfl 35 _ Tryz.func35 az aA _ _ rfl (.iface 276 (.pointer (some au))) rfl (fun v' w'=>v'= .agg #[.int .i64 10,.int .i64 0]∧Below i.heap.size i w') ((Aa U i.drew J.drew).mono (fun r w' h=>⟨_,h.1,rfl,aa.trans h.2⟩)) ?_;rintro aQ j ⟨rfl,C⟩;have K:=l.after C NLN;have o:=O.after C NLN;have F:=P.after C NLN;have ab:j.cell? ⟨w2.heap.size,0,none⟩=some (.slice none 0 0):=K.cell 0;have ac:j.cell? ⟨w2.heap.size,1,none⟩=some (.slice none 0 0):=K.cell 1;have ad:j.cell? ⟨w2.heap.size,2,none⟩=some (.slice none 0 0):=K.cell 2;have ae:j.cell? ⟨w.heap.size+1,0,none⟩=some (.slice none 0 0):=o.cell 0;have af:j.cell? ⟨w.heap.size+1,1,none⟩=some (.slice none 0 0):=o.cell 1;have ag:j.cell? ⟨w.heap.size+1,2,none⟩=some (.slice none 0 0):=o.cell 2;have ah:=fun k=>o.frozen k;have ai:j.cell? ⟨w.heap.size+1+1,0,none⟩=some (.int .i64 0):=F.cell 0;have aj:j.cell? ⟨w.heap.size+1+1,1,none⟩=some (.int .i64 0):=F.cell 1;have ak:=fun k=>F.frozen k)
  all_goals
   have al:=((((o.set 0 (.slice none 0 0)).set 1 (.slice none 0 0)).set 2 (.slice none 0 0)).setFar (p:=⟨w.heap.size+1+1,0,none⟩) (by show w.heap.size+1≠w.heap.size+1+1;omega) (.int .i64 10)).setFar (p:=⟨w.heap.size+1+1,1,none⟩) (by show w.heap.size+1≠w.heap.size+1+1;omega) (.int .i64 0);have ao:=((((F.setFar (p:=⟨w.heap.size+1,0,none⟩) (by show w.heap.size+1+1≠w.heap.size+1;omega) (.slice none 0 0)).setFar (p:=⟨w.heap.size+1,1,none⟩) (by show w.heap.size+1+1≠w.heap.size+1;omega) (.slice none 0 0)).setFar (p:=⟨w.heap.size+1,2,none⟩) (by show w.heap.size+1+1≠w.heap.size+1;omega) (.slice none 0 0)).set 0 (.int .i64 10)).set 1 (.int .i64 0);have ap:=I.trans (C.mono I.size);have aq:=((((ap.setCell (p:=⟨w.heap.size+1,0,none⟩) (zJ _) (.slice none 0 0)).setCell (p:=⟨w.heap.size+1,1,none⟩) (zJ _) (.slice none 0 0)).setCell (p:=⟨w.heap.size+1,2,none⟩) (zJ _) (.slice none 0 0)).setCell (p:=⟨w.heap.size+1+1,0,none⟩) (by show w.heap.size≤w.heap.size+1+1;omega) (.int .i64 10)).setCell (p:=⟨w.heap.size+1+1,1,none⟩) (by show w.heap.size≤w.heap.size+1+1;omega) (.int .i64 0);clear ab ac ad ae af ag ah ai aj ak X Y Z;generalize ((((j.setCell ⟨w.heap.size+1,0,none⟩ (.slice none 0 0)).setCell ⟨w.heap.size+1,1,none⟩ (.slice none 0 0)).setCell ⟨w.heap.size+1,2,none⟩ (.slice none 0 0)).setCell ⟨w.heap.size+1+1,0,none⟩ (.int .i64 10)).setCell ⟨w.heap.size+1+1,1,none⟩ (.int .i64 0)=aR at *;obtain ⟨ar,e1,e2,_⟩:=Cd al;obtain ⟨g0,g1⟩:=Ba ao;go_wp2_with fail
   exact bodyPost_ret (v:= .tuple #[.agg #[.slice none 0 0,.slice none 0 0,.slice none 0 0],.agg #[.int .i64 10,.int .i64 0]]) (by simp[results,Tryz.results13,go_sem,ar,e1,e2,g0,g1]) rfl ⟨⟨_,Aa aC,.inl ⟨(10,0),rfl,rfl⟩⟩,aq⟩
 ·have U:=Ab (fun W (H:Below w2.heap.size w2 W)=>Va g f W ((Aa aN).below (M.trans (H.mono M.size)) NLN) (Al.after aV H NLN) hf);have l:=Al.new w2 #[.slice none 0 0,.slice none 0 0,.slice none 0 0] 26;have O:=aD.alloc (.cells #[.slice none 0 0,.slice none 0 0,.slice none 0 0] 26);have P:=R.alloc (.cells #[.slice none 0 0,.slice none 0 0,.slice none 0 0] 26);have I:=M.alloc M.size (.cells #[.slice none 0 0,.slice none 0 0,.slice none 0 0] 26);have J:=(Below.refl w2.heap.size w2).alloc NLN (.cells #[.slice none 0 0,.slice none 0 0,.slice none 0 0] 26);have V:∃ i,i=w2.alloc (.cells #[.slice none 0 0,.slice none 0 0,.slice none 0 0] 26):=⟨_,rfl⟩
  have aP:w.heap.size+1+1 < w2.heap.size:=R.lt;dsimp only;go_wp2_with fail
  obtain ⟨i,Q⟩:=V;rw[← Q] at l O P I J ⊢;clear Q;have X:i.cell? ⟨w2.heap.size,0,none⟩=some (.slice none 0 0):=l.cell 0;have Y:i.cell? ⟨w2.heap.size,1,none⟩=some (.slice none 0 0):=l.cell 1;have Z:i.cell? ⟨w2.heap.size,2,none⟩=some (.slice none 0 0):=l.cell 2;have aa:Below i.heap.size i i.drew:=BRN.drew;go_region_law (refine Fz rfl 35 _ Tryz.func35 az aA _ _ rfl (.iface 107 (.pointer (some ⟨g,0,none⟩))) rfl (fun v' w'=>v'= .agg #[.int .i64 f.1,.int .i64 f.2]∧Below i.heap.size i w') ((Aa U i.drew J.drew).mono (fun r w' h=>⟨_,h.1,rfl,aa.trans h.2⟩)) ?_;rintro aQ j ⟨rfl,C⟩;have K:=l.after C NLN;have o:=O.after C NLN;have F:=P.after C NLN;have ab:j.cell? ⟨w2.heap.size,0,none⟩=some (.slice none 0 0):=K.cell 0;have ac:j.cell? ⟨w2.heap.size,1,none⟩=some (.slice none 0 0):=K.cell 1;have ad:j.cell? ⟨w2.heap.size,2,none⟩=some (.slice none 0 0):=K.cell 2;have ae:j.cell? ⟨w.heap.size+1,0,none⟩=some (.slice none 0 0):=o.cell 0;have af:j.cell? ⟨w.heap.size+1,1,none⟩=some (.slice none 0 0):=o.cell 1;have ag:j.cell? ⟨w.heap.size+1,2,none⟩=some (.slice none 0 0):=o.cell 2;have ah:=fun k=>o.frozen k;have ai:j.cell? ⟨w.heap.size+1+1,0,none⟩=some (.int .i64 0):=F.cell 0;have aj:j.cell? ⟨w.heap.size+1+1,1,none⟩=some (.int .i64 0):=F.cell 1;have ak:=fun k=>F.frozen k)
  all_goals
   have al:=((((o.set 0 (.slice none 0 0)).set 1 (.slice none 0 0)).set 2 (.slice none 0 0)).setFar (p:=⟨w.heap.size+1+1,0,none⟩) (by show w.heap.size+1≠w.heap.size+1+1;omega) (.int .i64 f.1)).setFar (p:=⟨w.heap.size+1+1,1,none⟩) (by show w.heap.size+1≠w.heap.size+1+1;omega) (.int .i64 f.2);have ao:=((((F.setFar (p:=⟨w.heap.size+1,0,none⟩) (by show w.heap.size+1+1≠w.heap.size+1;omega) (.slice none 0 0)).setFar (p:=⟨w.heap.size+1,1,none⟩) (by show w.heap.size+1+1≠w.heap.size+1;omega) (.slice none 0 0)).setFar (p:=⟨w.heap.size+1,2,none⟩) (by show w.heap.size+1+1≠w.heap.size+1;omega) (.slice none 0 0)).set 0 (.int .i64 f.1)).set 1 (.int .i64 f.2);have ap:=I.trans (C.mono I.size);have aq:=((((ap.setCell (p:=⟨w.heap.size+1,0,none⟩) (zJ _) (.slice none 0 0)).setCell (p:=⟨w.heap.size+1,1,none⟩) (zJ _) (.slice none 0 0)).setCell (p:=⟨w.heap.size+1,2,none⟩) (zJ _) (.slice none 0 0)).setCell (p:=⟨w.heap.size+1+1,0,none⟩) (by show w.heap.size≤w.heap.size+1+1;omega) (.int .i64 f.1)).setCell (p:=⟨w.heap.size+1+1,1,none⟩) (by show w.heap.size≤w.heap.size+1+1;omega) (.int .i64 f.2);clear ab ac ad ae af ag ah ai aj ak X Y Z;generalize ((((j.setCell ⟨w.heap.size+1,0,none⟩ (.slice none 0 0)).setCell ⟨w.heap.size+1,1,none⟩ (.slice none 0 0)).setCell ⟨w.heap.size+1,2,none⟩ (.slice none 0 0)).setCell ⟨w.heap.size+1+1,0,none⟩ (.int .i64 f.1)).setCell ⟨w.heap.size+1+1,1,none⟩ (.int .i64 f.2)=aR at *;obtain ⟨ar,e1,e2,_⟩:=Cd al;obtain ⟨g0,g1⟩:=Ba ao;go_wp2_with fail
   exact bodyPost_ret (v:= .tuple #[.agg #[.slice none 0 0,.slice none 0 0,.slice none 0 0],.agg #[.int .i64 f.1,.int .i64 f.2]]) (by simp[results,Tryz.results13,go_sem,ar,e1,e2,g0,g1]) rfl ⟨⟨_,Aa aC,.inl ⟨f,rfl,rfl⟩⟩,aq⟩
 ·have U:=Ab (fun W (H:Below w2.heap.size w2 W)=>L3 W);have l:=Al.new w2 #[.slice x s t,.slice y u z,.slice A p B] 26;have O:=aD.alloc (.cells #[.slice x s t,.slice y u z,.slice A p B] 26);have P:=R.alloc (.cells #[.slice x s t,.slice y u z,.slice A p B] 26);have I:=M.alloc M.size (.cells #[.slice x s t,.slice y u z,.slice A p B] 26);have J:=(Below.refl w2.heap.size w2).alloc NLN (.cells #[.slice x s t,.slice y u z,.slice A p B] 26);have V:∃ i,i=w2.alloc (.cells #[.slice x s t,.slice y u z,.slice A p B] 26):=⟨_,rfl⟩
  have aP:w.heap.size+1+1 < w2.heap.size:=R.lt;dsimp only;go_wp2_with fail
  obtain ⟨i,Q⟩:=V;rw[← Q] at l O P I J ⊢;clear Q;have X:i.cell? ⟨w2.heap.size,0,none⟩=some (.slice x s t):=l.cell 0;have Y:i.cell? ⟨w2.heap.size,1,none⟩=some (.slice y u z):=l.cell 1;have Z:i.cell? ⟨w2.heap.size,2,none⟩=some (.slice A p B):=l.cell 2;have aa:Below i.heap.size i i.drew:=BRN.drew;go_region_law (refine Fz rfl 35 _ Tryz.func35 az aA _ _ rfl .nilIface rfl (fun v' w'=>v'= .agg #[.int .i64 0,.int .i64 0]∧Below i.heap.size i w') ((Aa U i.drew J.drew).mono (fun r w' h=>⟨_,h.1,rfl,aa.trans h.2⟩)) ?_;rintro aQ j ⟨rfl,C⟩;have K:=l.after C NLN;have o:=O.after C NLN;have F:=P.after C NLN;have ab:j.cell? ⟨w2.heap.size,0,none⟩=some (.slice x s t):=K.cell 0;have ac:j.cell? ⟨w2.heap.size,1,none⟩=some (.slice y u z):=K.cell 1;have ad:j.cell? ⟨w2.heap.size,2,none⟩=some (.slice A p B):=K.cell 2;have ae:j.cell? ⟨w.heap.size+1,0,none⟩=some (.slice none 0 0):=o.cell 0;have af:j.cell? ⟨w.heap.size+1,1,none⟩=some (.slice none 0 0):=o.cell 1;have ag:j.cell? ⟨w.heap.size+1,2,none⟩=some (.slice none 0 0):=o.cell 2;have ah:=fun k=>o.frozen k;have ai:j.cell? ⟨w.heap.size+1+1,0,none⟩=some (.int .i64 0):=F.cell 0;have aj:j.cell? ⟨w.heap.size+1+1,1,none⟩=some (.int .i64 0):=F.cell 1;have ak:=fun k=>F.frozen k)
  all_goals
   have al:=((((o.set 0 (.slice x s t)).set 1 (.slice y u z)).set 2 (.slice A p B)).setFar (p:=⟨w.heap.size+1+1,0,none⟩) (by show w.heap.size+1≠w.heap.size+1+1;omega) (.int .i64 0)).setFar (p:=⟨w.heap.size+1+1,1,none⟩) (by show w.heap.size+1≠w.heap.size+1+1;omega) (.int .i64 0);have ao:=((((F.setFar (p:=⟨w.heap.size+1,0,none⟩) (by show w.heap.size+1+1≠w.heap.size+1;omega) (.slice x s t)).setFar (p:=⟨w.heap.size+1,1,none⟩) (by show w.heap.size+1+1≠w.heap.size+1;omega) (.slice y u z)).setFar (p:=⟨w.heap.size+1,2,none⟩) (by show w.heap.size+1+1≠w.heap.size+1;omega) (.slice A p B)).set 0 (.int .i64 0)).set 1 (.int .i64 0);have ap:=I.trans (C.mono I.size);have aq:=((((ap.setCell (p:=⟨w.heap.size+1,0,none⟩) (zJ _) (.slice x s t)).setCell (p:=⟨w.heap.size+1,1,none⟩) (zJ _) (.slice y u z)).setCell (p:=⟨w.heap.size+1,2,none⟩) (zJ _) (.slice A p B)).setCell (p:=⟨w.heap.size+1+1,0,none⟩) (by show w.heap.size≤w.heap.size+1+1;omega) (.int .i64 0)).setCell (p:=⟨w.heap.size+1+1,1,none⟩) (by show w.heap.size≤w.heap.size+1+1;omega) (.int .i64 0);have a6:Ee (((((j.setCell ⟨w.heap.size+1,0,none⟩ (.slice x s t)).setCell ⟨w.heap.size+1,1,none⟩ (.slice y u z)).setCell ⟨w.heap.size+1,2,none⟩ (.slice A p B)).setCell ⟨w.heap.size+1+1,0,none⟩ (.int .i64 0)).setCell ⟨w.heap.size+1+1,1,none⟩ (.int .i64 0)) w.heap.size w2.heap.size x s t y u z A p B aW aZ a0 aX aY:=by
    have kp:∀ q,aw.heap.size≤q→q < w2.heap.size→(((((j.setCell ⟨w.heap.size+1,0,none⟩ (.slice x s t)).setCell ⟨w.heap.size+1,1,none⟩ (.slice y u z)).setCell ⟨w.heap.size+1,2,none⟩ (.slice A p B)).setCell ⟨w.heap.size+1+1,0,none⟩ (.int .i64 0)).setCell ⟨w.heap.size+1+1,1,none⟩ (.int .i64 0)).heap[q]? =w2.heap[q]? :=fun q h1 h2=>by
     have aE:q≠w.heap.size+1:=by omega
     have aS:q≠w.heap.size+1+1:=by omega
     rw[heap_setCell_other _ _ q _ aS,heap_setCell_other _ _ q _ aS,heap_setCell_other _ _ q _ aE,heap_setCell_other _ _ q _ aE,heap_setCell_other _ _ q _ aE,C.block q (zM h2 J.size),J.block q h2]
    have aF:w.heap.size≤aw.heap.size:=by omega
    exact ⟨(E.nd.blocks kp).low aF,CA (At E.st (fun q hq=>kp q (E.st.lt q hq).1 (E.st.lt q hq).2)) aF,CA (At E.ty (fun q hq=>kp q (E.ty.lt q hq).1 (E.ty.lt q hq).2)) aF,E.apart,E.inN,E.inS,E.inT,by have:=J.size;have:=C.size;simp;omega,E.nn,E.ns,E.nt⟩
   clear ab ac ad ae af ag ah ai aj ak X Y Z;generalize ((((j.setCell ⟨w.heap.size+1,0,none⟩ (.slice x s t)).setCell ⟨w.heap.size+1,1,none⟩ (.slice y u z)).setCell ⟨w.heap.size+1,2,none⟩ (.slice A p B)).setCell ⟨w.heap.size+1+1,0,none⟩ (.int .i64 0)).setCell ⟨w.heap.size+1+1,1,none⟩ (.int .i64 0)=aR at *;obtain ⟨ar,e1,e2,_⟩:=Cd al;obtain ⟨g0,g1⟩:=Ba ao;go_wp2_with fail
   exact bodyPost_ret (v:= .tuple #[.agg #[.slice x s t,.slice y u z,.slice A p B],.agg #[.int .i64 0,.int .i64 0]]) (by simp[results,Tryz.results13,go_sem,ar,e1,e2,g0,g1]) rfl ⟨⟨_,Aa aC,.inr ⟨_,_,_,_,_,_,_,_,_,_,_,_,_,_,_,rfl,rfl,a6⟩⟩,aq⟩
set_option maxHeartbeats 6400000
theorem Bt.kid {w:World}{lo g c:Nat}{N:List Nd}{a d:List Value}(h:Bt w lo (.slice (some ⟨g,0,none⟩) N.length c) N a d)(t:Nat)(ht:t < N.length):
  ∃ x m,w.cell? ⟨g,t * 5+4,none⟩=some (.slice x N[t].kids.length m)∧(∀ j,(f:j < N[t].kids.length)→∃ b,x=some ⟨b,0,none⟩∧b < w.heap.size∧w.cell? ⟨b,j,none⟩=some (.int .i64 (N[t].kids[j])))∧g < w.heap.size:=by
 have h1:t < a.length:=by rw[h.len];exact ht
 have h2:t < d.length:=by rw[h.lenk];exact ht
 have hc:=Ll N a d t ht h1 h2 4 (by omega);have i:=h.kids t ht h2;have k:=h.own;obtain ⟨x,m,l,hx⟩:=Ad i;obtain ⟨r,s,n,o⟩:=Ad k;obtain ⟨u,e',_,p⟩:=o (by omega);simp only[Value.slice.injEq] at n;obtain ⟨rfl,_,_⟩:=n;simp only[Option.some.injEq,Addr.mk.injEq,and_true] at e';subst e';refine ⟨x,m, ?_,fun j f=>?_,(k.lt g rfl).2⟩
 ·rw[← l];exact p _ _ (hc.trans rfl)
 ·obtain ⟨b,e,_,q⟩:=hx (by omega);refine ⟨b,e,(i.lt b (by rw[l,e];rfl)).2,q j _ ?_⟩;simp[Ar,f]
def DpI (ds:List Int) (w:World) (vd vi:Value) (wr:World):Prop:=
 ∃ j:Nat,j≤ds.length∧vi= .int .i64 (j:Int)∧vd= .int .i64 ((ds.take j).foldl mx 0)∧Below w.heap.size w wr
theorem WX:∀ (a:List Int) (d:Int),0≤d∧d≤65535→(∀ x∈a,0≤x∧x≤65535)→0≤a.foldl mx d∧a.foldl mx d≤65535
 | [],d,h,_=>h
 |x ::a,d,h,hd=>by
  rw[List.foldl_cons];refine WX a _ ?_ (fun y hy=>hd y (zY _ hy));have:=hd x (zT ..);unfold mx;split <;> omega
theorem Km {w:World}{B g c:Nat}{N:List Nd}{J K:List Value}(u:Bt w B (.slice (some ⟨g,0,none⟩) N.length c) N J K)(hs:N.length≤65535)(t:Nat)(ht:t < N.length)(ks a:List Int)(hk:N[t].kids=ks)(hd:a.length=ks.length)(h3:ks.length≤3)(f:∀ x∈a,0≤x∧x≤65535)
  (v:∀ j (h:j < ks.length) (X:j < a.length) (w':World),Below w.heap.size w w'→Calls Tryz.prog 48 #[.slice (some ⟨g,0,none⟩) N.length c,.int .i64 ks[j]] w' fun r L=>r= .returned (.int .i64 a[j])∧Below w'.heap.size w' L):
  Calls Tryz.prog 48 #[.slice (some ⟨g,0,none⟩) N.length c,.int .i64 (t:Int)] w fun r w'=>r= .returned (.int .i64 (a.foldl mx 0+1))∧Below w.heap.size w w':=by
 obtain ⟨x,m,c4,z,Y⟩:=u.kid t ht;subst hk;generalize N[t].kids=ks at *;have Z:(t:Int) < (N.length:Int):=by omega
 have M:=Ab v;have O:=Ab (And.intro hd f);have P:=Ab z;have A:=Ab (show DpI a w (.int .i64 0) (.int .i64 0) w from ⟨0,by omega,rfl,rfl,BRN⟩);clear v z f hd u;go_enter Tryz.func48,Tryz.ntmps48
 go_wp2_with fail
 go_loopw [5,15] (fun Q o wr=>DpI a w Q o wr) (fun _ o _=>a.length - (intOf o).toNat)
 case atStart=>exact Aa A
 case round=>
  clear A;obtain ⟨j,aa,rfl,rfl,d⟩:=hrel;obtain ⟨hd,f⟩:=Aa O;have q:=WX (a.take j) 0 (by omega) (fun y hy=>f y (List.mem_of_mem_take hy));by_cases i:j < a.length
  ·have R:(j:Int) < (ks.length:Int):=by omega
   have C:=Ab (Gg a.length j i);have n:=Ab (Aa M j (by omega) i);obtain ⟨b,rfl,E,F⟩:=Aa P j (by omega);have S:=(d.cell (p:=⟨b,j,none⟩) E).trans F;clear F;have T:=f _ (zO i);have l:=Ab (fun (w':World) (U:Below w.heap.size w w')=>show DpI a w (.int .i64 (mx ((a.take j).foldl mx 0) a[j])) (.int .i64 ((j:Int)+1)) w' from ⟨j+1,by omega,by rw[zd];rfl,by rw[zf i,zt];rfl,U⟩);generalize (a.take j).foldl mx 0=D at q l;generalize a[j]=y at T l n;generalize ks[j]=k at S n;clear hd f i E;by_cases H:D < y
   ·rw[show mx D y=y from if_pos H] at l;go_wp2_with fail
    refine (Aa n _ d).mono ?_;rintro r w2 ⟨rfl,s⟩;dsimp only;go_wp2_with fail
    exact ⟨Aa l _ (d.trans (s.mono d.size)),Aa C⟩
   ·rw[show mx D y=D from if_neg H] at l;go_wp2_with fail
    refine (Aa n _ d).mono ?_;rintro r w2 ⟨rfl,s⟩;dsimp only;go_wp2_with fail
    exact ⟨Aa l _ (d.trans (s.mono d.size)),Aa C⟩
  ·have R: ¬ ((j:Int) < (ks.length:Int)):=by omega
   have V:=Ab (show a.take j=a from zq (by omega));rw[Aa V] at q ⊢;clear hd f i;generalize I:a.foldl mx 0=D at q ⊢;have W:=Ab I;clear I;go_wp2_with fail
   go_ret
   exact ⟨by rw[Aa W];rfl,d⟩
theorem VG (a L C:List Nd)(x:Nd)(h:a.length+L.length < (a ++(L ++ [x] ++C)).length):(a ++(L ++ [x] ++C))[a.length+L.length]=x:=by
 simp
theorem Ab8 {B g c:Nat}{N:List Nd}{F H:List Value}(hs:N.length≤65535):∀ (e:Ex) (b:Nat) (d C:List Nd),N=d ++(BH e b ++C)→d.length=b→∀ (w:World),Bt w B (.slice (some ⟨g,0,none⟩) N.length c) N F H→
  Calls Tryz.prog 48 #[.slice (some ⟨g,0,none⟩) N.length c,.int .i64 ((b+e.cnt - 1 :Nat):Int)] w fun r w'=>r= .returned (.int .i64 (Cj e))∧Below w.heap.size w w':=by
 have keep:∀ {w w':World},Bt w B (.slice (some ⟨g,0,none⟩) N.length c) N F H→Below w.heap.size w w'→Bt w' B (.slice (some ⟨g,0,none⟩) N.length c) N F H:=fun h q=>h.blocks (fun k _ hk=>q.block k hk);have v:∀ (e:Ex) (b:Nat) (d C:List Nd),(exN e).kids= []→N=d ++([exN e] ++C)→d.length=b→∀ (w:World),Bt w B (.slice (some ⟨g,0,none⟩) N.length c) N F H→
   Calls Tryz.prog 48 #[.slice (some ⟨g,0,none⟩) N.length c,.int .i64 ((b+1 - 1 :Nat):Int)] w fun r w'=>r= .returned (.int .i64 1)∧Below w.heap.size w w':=by
  intro e b d C hk I o w f;have z:b < N.length:=by rw[I];simp;omega
  exact Km f hs b z [] [] (by
   have:N[b]=exN e:=by
    subst o;simp only[I];simp
   rw[this,hk]) rfl (by simp) (fun x hx=>by cases hx) (fun j h=>absurd h (by simp))
 intro e
 induction e with
 |int i n=>intro b d C h o w f;exact v (.int i n) b d C rfl h o w f
 |text i s=>intro b d C h o w f;exact v (.text i s) b d C rfl h o w f
 |bool i x=>intro b d C h o w f;exact v (.bool i x) b d C rfl h o w f
 |set i a n m K=>intro b d C h o w f;exact v (.set i a n m K) b d C rfl h o w f
 |name i s=>intro b d C h o w f;exact v (.name i s) b d C rfl h o w f
 |attr i n=>intro b d C h o w f;exact v (.attr i n) b d C rfl h o w f
 |lett i n=>intro b d C h o w f;exact v (.lett i n) b d C rfl h o w f
 |un i op k L=>
  intro b d C h o w f;rw[BH] at h;have A:=congrArg List.length h;simp only[zA,Am,z7] at A;have e1:b+(Ex.un i op k).cnt - 1=d.length+(BH k b).length:=by rw[Am,Ex.cnt];omega
  have z:d.length+(BH k b).length < N.length:=by rw[Am];omega
  have d1:=Bf k;obtain ⟨p,u⟩:∃ p:Nd,p=⟨op,0,⟨#[]⟩, [], [((b+k.cnt - 1 :Nat):Int)]⟩:=⟨_,rfl⟩
  rw[← u] at h;rw[e1];refine (Km f hs _ z [((b+k.cnt - 1 :Nat):Int)] [Cj k] (by simp only[h];rw[VG,u]) rfl (by simp) (fun x hx=>by rw[zL.1 hx];omega) ?_);intro j E J w' q
  match j,E with
  | 0,_=>exact L b d ([p] ++C) (by rw[h];simp only[zC]) o w' (keep f q)
 |bin i op l r M O=>
  intro b d C h o w f;rw[BH] at h;have A:=congrArg List.length h;simp only[zA,Am,z7] at A;have e1:b+(Ex.bin i op l r).cnt - 1=d.length+(BH l b ++BH r (b+l.cnt)).length:=by rw[zA,Am,Am,Ex.cnt];omega
  have z:d.length+(BH l b ++BH r (b+l.cnt)).length < N.length:=by rw[zA,Am,Am];omega
  have d1:=Bf l;have d2:=Bf r;obtain ⟨p,u⟩:∃ p:Nd,p=⟨op,0,⟨#[]⟩, [], [((b+l.cnt - 1 :Nat):Int),((b+l.cnt+r.cnt - 1 :Nat):Int)]⟩:=⟨_,rfl⟩
  rw[← u] at h;rw[e1];refine (Km f hs _ z [((b+l.cnt - 1 :Nat):Int),((b+l.cnt+r.cnt - 1 :Nat):Int)] [Cj l,Cj r] (by simp only[h];rw[VG,u]) rfl (by simp) (fun x hx=>by simp only[zE,zo,or_false] at hx;rcases hx with rfl | rfl <;> omega) ?_);intro j E J w' q
  match j,E with
  | 0,_=>exact M b d (BH r (b+l.cnt) ++([p] ++C)) (by rw[h];simp only[zC]) o w' (keep f q)
  | 1,_=>exact O (b+l.cnt) (d ++BH l b) ([p] ++C) (by rw[h];simp only[zC]) (by rw[zA,Am,o]) w' (keep f q)
 |ite i x y t P Q R=>
  intro b d C h o w f;rw[BH] at h;have A:=congrArg List.length h;simp only[zA,Am,z7] at A;have e1:b+(Ex.ite i x y t).cnt - 1=d.length+(BH x b ++BH y (b+x.cnt) ++BH t (b+x.cnt+y.cnt)).length:=by rw[zA,zA,Am,Am,Am,Ex.cnt];omega
  have z:d.length+(BH x b ++BH y (b+x.cnt) ++BH t (b+x.cnt+y.cnt)).length < N.length:=by rw[zA,zA,Am,Am,Am];omega
  have d1:=Bf x;have d2:=Bf y;have d3:=Bf t;obtain ⟨p,u⟩:∃ p:Nd,p=⟨27,0,⟨#[]⟩, [], [((b+x.cnt - 1 :Nat):Int),((b+x.cnt+y.cnt - 1 :Nat):Int),((b+x.cnt+y.cnt+t.cnt - 1 :Nat):Int)]⟩:=⟨_,rfl⟩
  rw[← u] at h;rw[e1];refine (Km f hs _ z [((b+x.cnt - 1 :Nat):Int),((b+x.cnt+y.cnt - 1 :Nat):Int),((b+x.cnt+y.cnt+t.cnt - 1 :Nat):Int)] [Cj x,Cj y,Cj t] (by simp only[h];rw[VG,u]) rfl (by simp) (fun x hx=>by simp only[zE,zo,or_false] at hx;rcases hx with rfl | rfl | rfl <;> omega) ?_);intro j E J w' q
  match j,E with
  | 0,_=>exact P b d (BH y (b+x.cnt) ++(BH t (b+x.cnt+y.cnt) ++([p] ++C))) (by rw[h];simp only[zC]) o w' (keep f q)
  | 1,_=>exact Q (b+x.cnt) (d ++BH x b) (BH t (b+x.cnt+y.cnt) ++([p] ++C)) (by rw[h];simp only[zC]) (by rw[zA,Am,o]) w' (keep f q)
  | 2,_=>exact R (b+x.cnt+y.cnt) (d ++BH x b ++BH y (b+x.cnt)) ([p] ++C) (by rw[h];simp only[zC]) (by rw[zA,zA,Am,Am,o]) w' (keep f q)
theorem MT {w:World}{B:Nat}{nd:Value}{a b:List Value}(e:Ex)(N:List Nd)(h:Bt w B nd (N ++BH e N.length) a b)(hs:N.length+e.cnt≤65535):
  Calls Tryz.prog 48 #[nd,.int .i64 ((N.length+e.cnt - 1 :Nat):Int)] w fun r w'=>r= .returned (.int .i64 (Cj e))∧Below w.heap.size w w':=by
 obtain ⟨x,c,d,hx⟩:=Ad h.own;have hd:=Bf e;have i:(N ++BH e N.length).length=N.length+e.cnt:=by rw[zA,Am]
 obtain ⟨g,f,_,_⟩:=hx (by omega);subst f;subst d;exact Ab8 (by omega) e N.length N [] (by simp) rfl w h
end Go.Proofs.YtchakjeegneeoaaGreatDoor
