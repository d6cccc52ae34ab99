/-
  Numbering: a tree with kids is added (written by mknue.py). Own work.
-/
import Derived.Test.YtdldimphcpojoaaGreatDoorMXAO
namespace Go.Proofs.YtdldimphcpojoaaGreatDoor
set_option maxRecDepth 100000
set_option maxHeartbeats 1600000
open Go.RowKit
set_option linter.unusedVariables false
theorem WU (B c:Nat)(ac:World)(i:Int)(z:TypeId)(A:Value)(d:Nat)(ad:Nat→List Nd)(ay:List Int)(aW:∀ b,(ad b).length=d)(cB:Hid (VD B c ac (.iface z A) ad ay d))(bR:ay.length=d)(E:TypeId)(F:Value)(o:Nat)(ae:Nat→List Nd)(az:List Int)(aX:∀ b,(ae b).length=o)(cC:Hid (VD B c ac (.iface E F) ae az o))(bS:az.length=o)(H:TypeId)(I:Value)(s:Nat)(af:Nat→List Nd)(aA:List Int)(aY:∀ b,(af b).length=s)(cD:Hid (VD B c ac (.iface H I) af aA s))(bT:aA.length=s)
  (bU:Hid (∀ cE w,Below B ac w→Calls Tryz.prog 89 #[.iface 198 (.agg #[.int .i64 i,.iface z A,.iface E F,.iface H I])] w (Pe ⟨27,0,⟨#[]⟩, [],cE⟩ w))):
  VD B c ac (.iface 198 (.agg #[.int .i64 i,.iface z A,.iface E F,.iface H I])) (fun b=>ad (b) ++ae (b+d) ++af (b+d+o) ++ [⟨27,0,⟨#[]⟩, [], [((b+d - 1 :Nat):Int),((b+d+o - 1 :Nat):Int),((b+d+o+s - 1 :Nat):Int)]⟩]) (ay ++az ++aA ++ [i]) (d+o+s+1):=by
 intro N P nd bV bk bl w bW hC dN dO;have hk:=Oq i z A E F H I;have cF:=TM i z A E F H I;have cG:=Ab (JD i z A E F H I);have cH:=Ab (Nm i z A E F H I);have aZ:=Ab bW;have dP:=hC.row.lt;have ag:B≤w.heap.size:=by have:=hC.low;omega
 obtain ⟨cI,cJ,cK,cL,cM⟩:=info_parts Jc;obtain ⟨a0,a4,a5,a6,a7⟩:=info_parts KS;have cN:=Tryz.func219;have cO:(Tryz.f219.name== "runtime.NumGoroutine")=false:=by kernel_rfl
 have cP: Tryz.f219.body.isNone=false:=by kernel_rfl
 have cQ: Tryz.prog.types.size+Made.depth= 394:=by kernel_rfl
 have dQ:=Ab (And.intro aW (And.intro aX (And.intro aY (And.intro bR (And.intro bS bT)))));have dR:P.length+(d+o+s)+1≤65535:=by omega
 clear bW;go_enter Tryz.func63,Tryz.ntmps63
 go_wp2_with fail
 refine (Aa cG _).mono ?_;rintro r bX ⟨g,rfl,dS,cR,a8⟩;have ah:Kn B c g w nd bV N P nd bV bk bl (.slice none 0 0) [] #[.iface z A,.iface E F,.iface H I] bX:=⟨hC.below a8,Nk.of_all a8 ag,cR,World.ownsRow_nil _ _ _ _,fun q hq=>by cases hq⟩
 have dT:=Ab (rfl:N=N);have dU:∀ j,(V:j < ([]:List Value).length)→∀ q,([]:List Value)[j].ownBlock=some q→w.heap.size≤q:=fun j V=>absurd V (by simp);clear a8;dsimp only;go_wp2_with fail
 refine wp_loop_rounds 4 ?_;rw[rounds_succ];have c1:bX.cell? ⟨g,0,none⟩=some (.iface z A):=ah.R.cell 0;go_wp2_with fail
 refine (Aa cB _ _ _ _ _ _ _ ((Aa aZ).trans ah.K.low) ah.C (by omega) (by omega)).mono ?_;rintro r bY ⟨rfl,dV,dW,bm,bn,bZ,b0,bo⟩;have aB:=ah.call bZ b0 bo;have cS:=ah.K.low.size;obtain ⟨a1,aC⟩:∃ a:Int,a=(((N).length+(ad (N).length).length - 1 :Nat):Int):=⟨_,rfl⟩
 obtain ⟨W,ai⟩:∃ M,M=N ++ad (N).length:=⟨_,rfl⟩
 obtain ⟨a9,aj⟩:∃ M,M=P ++ay:=⟨_,rfl⟩
 obtain ⟨cT,aD⟩:∃ M,M=bk ++bm:=⟨_,rfl⟩
 obtain ⟨cU,aE⟩:∃ M,M=bl ++bn:=⟨_,rfl⟩
 rw[← ai,← aj,← aD,← aE] at aB;rw[← aC];have aF:W.length=(N).length+d:=by rw[ai,List.length_append,aW]
 have bp:a9.length=(P).length+d:=by rw[aj,List.length_append,bR]
 have a8:W.length+(o+s+1)≤65535:=by omega
 have dX:a9.length+(o+s+1)≤65535:=by omega
 have cV:=Ab (And.intro aF bp);clear aF bp;have cW:=Ab (And.intro aC (And.intro ai (And.intro aj (And.intro aD aE))));have cX:=Ab bo;clear aC ai aj aD aE bo bZ b0 c1 ah;dsimp only;go_wp2_with (at_builtin;refine wpList_append_lies _ rfl _ _ 28 rfl w.heap.size 3 a0 (.int .i64 0) 1 8 Tryz.underlying28 a4 a5 a6 a7 rfl (by decide) _ _ _ rfl (World.ownsRow.alloc aB.O _) ⟨bY.heap.size,0,none⟩ 1 1 [.int .i64 a1] rfl rfl ?c1 ?c2 (by decide) ?c3 ?c4 ?c5 (bY.heap.size+1) (by simp) ?_)
 case c1=>exact CL _ _ _ _ (by simp)
 case c2=>intro u hu;simp at hu;subst hu;rfl
 case c3=>unfold maxLen;simp
 case c4=>simp
 case c5=>have:=aB.K.low.size;simp;omega
 intro dY dZ cY b1 b2 b3 cZ;have X:=aB.app ag b1 b2 b3;clear aB b1 b2 b3 cZ;dsimp only[List.length_nil,List.length_cons,List.nil_append,List.cons_append,Nat.zero_add,Nat.reduceAdd] at X ⊢;go_wp2_with fail
 rw[rounds_succ];have c2:cY.cell? ⟨g,1,none⟩=some (.iface E F):=X.R.cell 1;go_wp2_with fail
 refine (Aa cC _ _ _ _ _ _ _ ((Aa aZ).trans X.K.low) X.C (by omega) (by omega)).mono ?_;rintro r b4 ⟨rfl,d0,d6,bq,br,b5,b6,bs⟩;have aG:=X.call b5 b6 bs;have c0:=X.K.low.size;obtain ⟨a2,aH⟩:∃ a:Int,a=(((W).length+(ae (W).length).length - 1 :Nat):Int):=⟨_,rfl⟩
 obtain ⟨Y,ak⟩:∃ M,M=W ++ae (W).length:=⟨_,rfl⟩
 obtain ⟨ba,al⟩:∃ M,M=a9 ++az:=⟨_,rfl⟩
 obtain ⟨c6,aI⟩:∃ M,M=cT ++bq:=⟨_,rfl⟩
 obtain ⟨c8,aJ⟩:∃ M,M=cU ++br:=⟨_,rfl⟩
 rw[← ak,← al,← aI,← aJ] at aG;rw[← aH];have aK:Y.length=(W).length+o:=by rw[ak,List.length_append,aX]
 have bt:ba.length=(a9).length+o:=by rw[al,List.length_append,bS]
 have ao:Y.length+(s+1)≤65535:=by omega
 have d7:ba.length+(s+1)≤65535:=by omega
 have c9:=Ab (And.intro aK bt);clear aK bt;have da:=Ab (And.intro aH (And.intro ak (And.intro al (And.intro aI aJ))));have db:=Ab bs;clear aH ak al aI aJ bs b5 b6 c2 X;dsimp only;go_wp2_with (at_builtin;refine wpList_append_lies _ rfl _ _ 28 rfl w.heap.size 3 a0 (.int .i64 0) 1 8 Tryz.underlying28 a4 a5 a6 a7 rfl (by decide) _ _ _ rfl (World.ownsRow.alloc aG.O _) ⟨b4.heap.size,0,none⟩ 1 1 [.int .i64 a2] rfl rfl ?c1 ?c2 (by decide) ?c3 ?c4 ?c5 (b4.heap.size+1) (by simp) ?_)
 case c1=>exact CL _ _ _ _ (by simp)
 case c2=>intro u hu;simp at hu;subst hu;rfl
 case c3=>unfold maxLen;simp
 case c4=>simp
 case c5=>have:=aG.K.low.size;simp;omega
 intro d8 d9 dc b7 b8 b9 dd;have Z:=aG.app ag b7 b8 b9;clear aG b7 b8 b9 dd;dsimp only[List.length_nil,List.length_cons,List.nil_append,List.cons_append,Nat.zero_add,Nat.reduceAdd] at Z ⊢;go_wp2_with fail
 rw[rounds_succ];have c3:dc.cell? ⟨g,2,none⟩=some (.iface H I):=Z.R.cell 2;go_wp2_with fail
 refine (Aa cD _ _ _ _ _ _ _ ((Aa aZ).trans Z.K.low) Z.C (by omega) (by omega)).mono ?_;rintro r ca ⟨rfl,bb,bu,bv,bw,cb,cc,bx⟩;have aL:=Z.call cb cc bx;have de:=Z.K.low.size;obtain ⟨a3,aM⟩:∃ a:Int,a=(((Y).length+(af (Y).length).length - 1 :Nat):Int):=⟨_,rfl⟩
 obtain ⟨t,aq⟩:∃ M,M=Y ++af (Y).length:=⟨_,rfl⟩
 obtain ⟨v,ar⟩:∃ M,M=ba ++aA:=⟨_,rfl⟩
 obtain ⟨aN,aO⟩:∃ M,M=c6 ++bv:=⟨_,rfl⟩
 obtain ⟨bz,aP⟩:∃ M,M=c8 ++bw:=⟨_,rfl⟩
 rw[← aq,← ar,← aO,← aP] at aL;rw[← aM];have bA:t.length=(Y).length+s:=by rw[aq,List.length_append,aY]
 have bB:v.length=(ba).length+s:=by rw[ar,List.length_append,bT]
 have ea:t.length+(1)≤65535:=by omega
 have eb:v.length+(1)≤65535:=by omega
 have df:=Ab (And.intro bA bB);clear bA bB;have dg:=Ab (And.intro aM (And.intro aq (And.intro ar (And.intro aO aP))));have dh:=Ab bx;clear aM aq ar aO aP bx cb cc c3 Z;dsimp only;go_wp2_with (at_builtin;refine wpList_append_lies _ rfl _ _ 28 rfl w.heap.size 3 a0 (.int .i64 0) 1 8 Tryz.underlying28 a4 a5 a6 a7 rfl (by decide) _ _ _ rfl (World.ownsRow.alloc aL.O _) ⟨ca.heap.size,0,none⟩ 1 1 [.int .i64 a3] rfl rfl ?c1 ?c2 (by decide) ?c3 ?c4 ?c5 (ca.heap.size+1) (by simp) ?_)
 case c1=>exact CL _ _ _ _ (by simp)
 case c2=>intro u hu;simp at hu;subst hu;rfl
 case c3=>unfold maxLen;simp
 case c4=>simp
 case c5=>have:=aL.K.low.size;simp;omega
 intro f l di cd ce cf dj;have J:=aL.app ag cd ce cf;clear aL cd ce cf dj;dsimp only[List.length_nil,List.length_cons,List.nil_append,List.cons_append,Nat.zero_add,Nat.reduceAdd] at J ⊢;go_wp2_with fail
 rw[rounds_succ];go_wp2_with fail
 obtain ⟨x,bc⟩:∃ x:Nd,x=⟨27,0,⟨#[]⟩, [], [a1,a2,a3]⟩:=⟨_,rfl⟩
 have dk:=Ab (show ∀ w,Below B ac w→Calls Tryz.prog 89 #[.iface 198 (.agg #[.int .i64 i,.iface z A,.iface E F,.iface H I])] w (Pe x w) from fun w h=>by rw[bc];exact Aa bU _ w h);have hx:x.kids= [a1,a2,a3]:=by rw[bc]
 have dl:=Ab bc;clear bc bU;have dm:=Ab ((Aa aZ).trans J.K.low);have cg:B≤di.heap.size:=Nat.le_trans ag J.K.low.size;refine (Aa dk _ (Aa dm)).mono ?_;rintro r L ⟨⟨u,n,rfl,bd⟩,ao⟩;have ch:=J.C.below ao;have ci:=J.K.trans (Nk.of_all ao cg);have bC:=Ac (w':=L) J.O (fun q hq=>ao.block q (J.O.lt q hq).2);have dn:=ao.size;have aQ:=(Below.refl L.heap.size L).alloc NLN (.cells #[.int .i64 x.op,.int .i64 x.num,.string x.text,.slice u x.names.length n,.slice (some ⟨f,0,none⟩) 3 l] 114);have bf:=An.new L #[.int .i64 x.op,.int .i64 x.num,.string x.text,.slice u x.names.length n,.slice (some ⟨f,0,none⟩) 3 l] 114;have y:=ch.below aQ;have bD:=ci.trans (Nk.of_all aQ (Nat.le_trans cg dn));have bE:=Ac (w':=L.alloc (.cells #[.int .i64 x.op,.int .i64 x.num,.string x.text,.slice u x.names.length n,.slice (some ⟨f,0,none⟩) 3 l] 114)) bd (fun q hq=>aQ.block q (bd.lt q hq).2);have bg:=Ac (w':=L.alloc (.cells #[.int .i64 x.op,.int .i64 x.num,.string x.text,.slice u x.names.length n,.slice (some ⟨f,0,none⟩) 3 l] 114)) bC (fun q hq=>aQ.block q (bC.lt q hq).2);have dp:L.heap.size < (L.alloc (.cells #[.int .i64 x.op,.int .i64 x.num,.string x.text,.slice u x.names.length n,.slice (some ⟨f,0,none⟩) 3 l] 114)).heap.size:=by simp
 have dq:=Ab (show ∀ j,(V:j < (aN).length)→∀ q,(aN)[j].ownBlock=some q→(Value.slice u x.names.length n).ownBlock≠some q from fun j V q hq e=>by have:=(bd.lt q e).1;have:=(J.C.nodes.lts.2.1 j V q hq).2;omega);clear bd bC ch ci ao aQ;dsimp only;go_wp2_with fail
 generalize L.alloc (.cells #[.int .i64 x.op,.int .i64 x.num,.string x.text,.slice u x.names.length n,.slice (some ⟨f,0,none⟩) 3 l] 114)=p at y bD bE bg bf dp ⊢;generalize L.heap.size=aR at bf ⊢;obtain ⟨aS,aT,S,_⟩:=Ah y.nodes.own;have bF:=Ab S;clear S;apply QN
 ·intro dr;have S:=Aa bF;obtain ⟨cj,e1,e2,e3,e4⟩:=JI bf;have bG:p.cell? ⟨c,0,none⟩=some (bb):=y.row.cell 0;rw[S] at bG;have ck:=y.row.frozen 0;have cl:=World.news_of_block (heap_alloc_new p (.cells #[.int .i64 x.op,.int .i64 x.num,.string x.text,.slice u x.names.length n,.slice (some ⟨f,0,none⟩) 3 l] 114));have ds:p.drew.cell? ⟨c,0,none⟩=some (.slice aS (t).length aT)∧p.drew.frozen? ⟨c,0,none⟩=false:=⟨bG,ck⟩
  have d1:p.drew.cell? ⟨aR,0,none⟩=some (.int .i64 x.op):=cj;have d2:p.drew.cell? ⟨aR,1,none⟩=some (.int .i64 x.num):=e1;have d3:p.drew.cell? ⟨aR,2,none⟩=some (.string x.text):=e2;have d4:p.drew.cell? ⟨aR,3,none⟩=some (.slice u x.names.length n):=e3;have d5:p.drew.cell? ⟨aR,4,none⟩=some (.slice (some ⟨f,0,none⟩) 3 l):=e4;have cm:(p.alloc (.cells #[.int .i64 x.op,.int .i64 x.num,.string x.text,.slice u x.names.length n,.slice (some ⟨f,0,none⟩) 3 l] 114)).drew.ownsRow B 114 5 (.slice aS (t).length aT) (t).length (Ir (t) (aN) (bz)):=by
   have:=y.nodes.own;rw[S] at this;exact (World.ownsRow.alloc this _).drew
  have bh:An (p.alloc (.cells #[.int .i64 x.op,.int .i64 x.num,.string x.text,.slice u x.names.length n,.slice (some ⟨f,0,none⟩) 3 l] 114)).drew c #[bb,bu] 127:=⟨(y.row.alloc (.cells #[.int .i64 x.op,.int .i64 x.num,.string x.text,.slice u x.names.length n,.slice (some ⟨f,0,none⟩) 3 l] 114)).out⟩
  have dt:(p.alloc (.cells #[.int .i64 x.op,.int .i64 x.num,.string x.text,.slice u x.names.length n,.slice (some ⟨f,0,none⟩) 3 l] 114)).drew.cell? ⟨c,0,none⟩=some (.slice aS (t).length aT):=by
   have:=bh.cell 0;rw[S] at this;exact this
  have cn:(Value.slice aS (t).length aT).ownBlock≠some c:=by rw[← S];exact Ad y.row y.nodes.own (by decide)
  have du:B≤p.heap.size:=by have:=y.row.lt;have:=y.low;omega
  clear cj e1 e2 e3 e4 bG ck S;go_region_law (refine step_append_lies _ rfl _ _ 24 rfl B 114 cI (.agg #[.int .i64 0,.int .i64 0,.string ByteArray.empty,.slice none 0 0,.slice none 0 0]) 5 80 Tryz.underlying24 cJ cK cL cM rfl (by decide) (.slice aS (t).length aT) (t).length (Ir (t) (aN) (bz)) rfl cm ⟨p.heap.size,0,none⟩ 1 1 [.int .i64 x.op,.int .i64 x.num,.string x.text,.slice u x.names.length n,.slice (some ⟨f,0,none⟩) 3 l] rfl rfl cl (by intro u hu;simp at hu;rcases hu with rfl | rfl | rfl | rfl | rfl <;> rfl) (by decide) (by unfold maxLen;omega) (by omega) (by simp;omega) _ rfl ?_;intro g7 c7 bH co aa cp dv;have bI:An bH c #[bb,bu] 127:=⟨(aa.block c bh.lt (fun e=>cn e.symm)).trans bh.out⟩;have bi:=bI.cell 0;have bJ:=bI.frozen 0)
  all_goals
   have cq:(p.alloc (.cells #[.int .i64 x.op,.int .i64 x.num,.string x.text,.slice u x.names.length n,.slice (some ⟨f,0,none⟩) 3 l] 114)).grownBy bH (bb).ownBlock:=by rw[Aa bF];exact ⟨aa.os,aa.tape,aa.output,aa.size,aa.block⟩
   obtain ⟨au,aU⟩:=y.pushN (g7:=g7) (c7:=c7) (x:=x) (u:= .slice u x.names.length n) (k:= .slice (some ⟨f,0,none⟩) 3 l) _ du (Ch bE (by omega)) (by rw[hx];exact Ch bg (by omega)) (Aa dq) (fun j V q hq e=>(J.ap q e).2 j V hq) (fun q hq=>(J.ap q hq).1) cq co (by rw[Aa bF];exact cp.imp id (fun e=>by rw[e];show (p.alloc _).heap.size=_;simp));have av:=bD.trans aU;have bK:=Ab (show ∀ q,(.slice (some ⟨f,0,none⟩) 3 l:Value).ownBlock=some q→w.heap.size≤q from fun q hq=>(bg.lt q hq).1);clear co aa cp dv bI bh dt ds d1 d2 d3 d4 d5 cl cm cq aU;clear bi bJ;generalize bH.setCell ⟨c,0,none⟩ (.slice (some ⟨g7,0,none⟩) ((t).length+1) c7)=Q at au av ⊢;clear cn;revert bK;revert av;revert au;revert Q;revert c7;revert g7;exact dr.out
 intro g7 c7 Q au av bK;clear bf y bD bE bg;go_wp2_with fail
 obtain ⟨aw,ax,bj,_⟩:=Ah au.places;have aV:=Ab bj;have T:=au.below (CK Q);have cr:=av.trans (Nk.of_all (CK Q) (Nat.le_trans ag av.low.size));have dw:Q.drew.cell? ⟨c,1,none⟩=some (.slice aw (v).length ax):=by have:=T.row.cell 1;rw[bj] at this;exact this
 have dx:=T.row.frozen 1;have dy:(Value.slice aw (v).length ax).ownBlock≠some c:=by rw[← bj];exact Ad T.row T.places (by decide)
 have dz:=Ab (Aa cH Q.drew);have cs:B≤Q.drew.heap.size:=by have:=T.row.lt;have:=T.low;omega
 clear bj au av;go_region_law (first
  | (refine Gu rfl _ _ _ rfl 198 (.agg #[.int .i64 i,.iface z A,.iface E F,.iface H I]) rfl _ cQ _ _ cF _ cN cO cP (fun dA w'=>dA= .int .i64 i∧Below Q.heap.size Q.drew w') ((Aa dz).mono (fun r w' h=>⟨_,h.1,rfl,h.2⟩)) ?_;rintro ec U ⟨rfl,bL⟩;have ab:=T.below bL;have ct:=cr.trans (Nk.of_all bL cs);have dB:B≤U.heap.size:=Nat.le_trans cs bL.size;have dC:U.cell? ⟨c,1,none⟩=some (.slice aw (v).length ax):=(by have:=ab.row.cell 1;rw[Aa aV] at this;exact this);have dD:=ab.row.frozen 1;have cu:(U.alloc (.cells #[.int .i64 i] 3)).ownsRow B 3 1 (.slice aw (v).length ax) (v).length (AN (v)):=(by have:=ab.places;rw[Aa aV] at this;exact World.ownsRow.alloc this _);have dE:(U.alloc (.cells #[.int .i64 i] 3)).cell? ⟨c,1,none⟩=some (.slice aw (v).length ax):=(by have:=(ab.row.alloc (.cells #[.int .i64 i] 3)).cell 1;rw[Aa aV] at this;exact this);have cv:=World.news_of_block (heap_alloc_new U (.cells #[.int .i64 i] 3));have bM:An (U.alloc (.cells #[.int .i64 i] 3)) c #[_,_] 127:=ab.row.alloc (.cells #[.int .i64 i] 3))
  | (refine step_append_lies _ rfl _ _ 28 rfl B 3 a0 (.int .i64 0) 1 8 Tryz.underlying28 a4 a5 a6 a7 rfl (by decide) (.slice aw (v).length ax) (v).length (AN (v)) rfl cu ⟨U.heap.size,0,none⟩ 1 1 [.int .i64 i] rfl rfl cv (by intro u hu;simp at hu;rcases hu with rfl;rfl) (by decide) (by unfold maxLen;omega) (by omega) (by simp;omega) _ rfl ?_;intro g6 cw bN cx bO cy dF;have bP:An bN c #[_,_] 127:=⟨(bO.block c bM.lt (fun e=>dy e.symm)).trans bM.out⟩;have bi:=bP.cell 1;have bJ:=bP.frozen 1))
 all_goals
  have cz:(U.alloc (.cells #[.int .i64 i] 3)).grownBy bN (bu).ownBlock:=by rw[Aa aV];exact bO
  obtain ⟨bQ,cA⟩:=ab.pushP (g7:=g6) (c7:=cw) _ i dB cz cx (by rw[Aa aV];exact cy.imp id (fun e=>by rw[e];simp));have aU:=ct.trans cA;clear cx bO cy dF cz dw dx dC dD dE bi bJ bP bM cv cu T ab cr ct cA;generalize bN.setCell ⟨c,1,none⟩ (.slice (some ⟨g6,0,none⟩) ((v).length+1) cw)=dG at bQ aU ⊢;have bi:dG.cell? ⟨c,0,none⟩=some (.slice (some ⟨g7,0,none⟩) ((t).length+1) c7):=bQ.row.cell 0;go_wp2_with fail
  go_ret
  obtain ⟨aF,bp⟩:=Aa cV;obtain ⟨aC,ai,aj,aD,aE⟩:=Aa cW;obtain ⟨aK,bt⟩:=Aa c9;obtain ⟨aH,ak,al,aI,aJ⟩:=Aa da;obtain ⟨bA,bB⟩:=Aa df;obtain ⟨aM,aq,ar,aO,aP⟩:=Aa dg;have dH:x=⟨27,0,⟨#[]⟩, [], [((N.length+d - 1 :Nat):Int),((N.length+d+o - 1 :Nat):Int),((N.length+d+o+s - 1 :Nat):Int)]⟩:=by rw[Aa dl,aM,aH,aC,aW,aX,aY,aK,aF]
  have dI:t ++ [x]=N ++(ad (N.length) ++ae (N.length+d) ++af (N.length+d+o) ++ [⟨27,0,⟨#[]⟩, [], [((N.length+d - 1 :Nat):Int),((N.length+d+o - 1 :Nat):Int),((N.length+d+o+s - 1 :Nat):Int)]⟩]):=by rw[dH,aq,aK,ak,aF,ai];simp only[List.append_assoc]
  have dJ:v ++ [i]=P ++(ay ++az ++aA ++ [i]):=by rw[ar,al,aj];simp only[List.append_assoc]
  have dK:aN ++ [.slice u x.names.length n]=bk ++(bm ++bq ++bv ++ [.slice u x.names.length n]):=by rw[aO,aI,aD];simp only[List.append_assoc]
  have dM:bz ++ [.slice (some ⟨f,0,none⟩) 3 l]=bl ++(bn ++br ++bw ++ [.slice (some ⟨f,0,none⟩) 3 l]):=by rw[aP,aJ,aE];simp only[List.append_assoc]
  refine ⟨congrArg (fun m:Nat=>Ending.returned (.int .i64 (m:Int))) ?_,_,_,bm ++bq ++bv ++ [.slice u x.names.length n],bn ++br ++bw ++ [.slice (some ⟨f,0,none⟩) 3 l], ?_,aU, ?_⟩
  ·simp only[List.length_append,List.length_cons,List.length_nil,aW,aX,aY];omega
  ·rw[← dI,← dJ,← dK,← dM];exact bQ
  ·exact BP (BP (BP (AM (Aa cX) cS) (AM (Aa db) c0)) (AM (Aa dh) de)) (CJ (Aa bK))
end Go.Proofs.YtdldimphcpojoaaGreatDoor
