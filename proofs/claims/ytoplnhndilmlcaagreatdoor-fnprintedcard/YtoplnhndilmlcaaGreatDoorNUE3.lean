/-
  Numbering: a tree with kids is added (written by mknue.py). Own work.
-/
import Derived.Test.YtoplnhndilmlcaaGreatDoorNUC
import Derived.Test.YtoplnhndilmlcaaGreatDoorMXAK
namespace Go.Proofs.YtoplnhndilmlcaaGreatDoor
set_option maxRecDepth 100000
set_option maxHeartbeats 1600000
open Go.RowKit
set_option linter.unusedVariables false
theorem ZB (B c:Nat)(ac:World)(i:Int)(z:TypeId)(A:Value)(d:Nat)(f1:Nat→List Nd)(aw:List Int)(aU:∀ b,(f1 b).length=d)(cA:Hid (XM B c ac (.iface z A) f1 aw d))(bQ:aw.length=d)(E:TypeId)(F:Value)(o:Nat)(f2:Nat→List Nd)(ax:List Int)(aV:∀ b,(f2 b).length=o)(cB:Hid (XM B c ac (.iface E F) f2 ax o))(bR:ax.length=o)(H:TypeId)(I:Value)(s:Nat)(ad:Nat→List Nd)(ay:List Int)(aW:∀ b,(ad b).length=s)(cC:Hid (XM B c ac (.iface H I) ad ay s))(bS:ay.length=s)
  (bT:Hid (∀ ks w,Below B ac w→Calls Tryz.prog 116 #[.iface 149 (.agg #[.int .i64 i,.iface z A,.iface E F,.iface H I])] w (QS ⟨27,0,⟨#[]⟩, [],ks⟩ w))):
  XM B c ac (.iface 149 (.agg #[.int .i64 i,.iface z A,.iface E F,.iface H I])) (fun b=>f1 (b) ++f2 (b+d) ++ad (b+d+o) ++ [⟨27,0,⟨#[]⟩, [], [((b+d - 1 :Nat):Int),((b+d+o - 1 :Nat):Int),((b+d+o+s - 1 :Nat):Int)]⟩]) (aw ++ax ++ay ++ [i]) (d+o+s+1):=by
 intro N P nd bU bi bj w bV bk dK dM;have hk:=Qu i z A E F H I;have cD:=Vw i z A E F H I;have cE:=Ab (Kf i z A E F H I);have cF:=Ab (Pf i z A E F H I);have aX:=Ab bV;have dN:=bk.row.lt;have ae:B≤w.heap.size:=by have:=bk.low;omega
 obtain ⟨cG,cH,cI,cJ,cK⟩:=info_parts LJ;obtain ⟨aY,aZ,a0,a4,a5⟩:=info_parts Po;have cL:=Tryz.func226;have cM:(Tryz.f226.name== "runtime.NumGoroutine")=false:=by kernel_rfl
 have cN: Tryz.f226.body.isNone=false:=by kernel_rfl
 have cO: Tryz.prog.types.size+Made.depth= 409:=by kernel_rfl
 have dO:=Ab (And.intro aU (And.intro aV (And.intro aW (And.intro bQ (And.intro bR bS)))));have dP:P.length+(d+o+s)+1≤65535:=by omega
 clear bV;go_enter Tryz.func79,Tryz.ntmps79
 go_wp2_with fail
 refine (Aa cE _).mono ?_;rintro r bW ⟨g,rfl,dQ,cP,a6⟩;have af:Kn B c g w nd bU N P nd bU bi bj (.slice none 0 0) [] #[.iface z A,.iface E F,.iface H I] bW:=⟨bk.below a6,Nk.of_all a6 ae,cP,World.ownsRow_nil _ _ _ _,fun q hq=>by cases hq⟩
 have dR:=Ab (rfl:N=N);have dS:∀ j,(V:j < ([]:List Value).length)→∀ q,([]:List Value)[j].ownBlock=some q→w.heap.size≤q:=fun j V=>absurd V (by simp);clear a6;dsimp only;go_wp2_with fail
 refine wp_loop_rounds 4 ?_;rw[rounds_succ];have c1:bW.cell? ⟨g,0,none⟩=some (.iface z A):=af.R.cell 0;go_wp2_with fail
 refine (Aa cA _ _ _ _ _ _ _ ((Aa aX).trans af.K.low) af.C (by omega) (by omega)).mono ?_;rintro r bX ⟨rfl,dT,dU,bl,bm,bY,bZ,bn⟩;have az:=af.call bY bZ bn;have cQ:=af.K.low.size;obtain ⟨a1,aA⟩:∃ a:Int,a=(((N).length+(f1 (N).length).length - 1 :Nat):Int):=⟨_,rfl⟩
 obtain ⟨W,ag⟩:∃ M,M=N ++f1 (N).length:=⟨_,rfl⟩
 obtain ⟨a7,ah⟩:∃ M,M=P ++aw:=⟨_,rfl⟩
 obtain ⟨cR,aB⟩:∃ M,M=bi ++bl:=⟨_,rfl⟩
 obtain ⟨cS,aC⟩:∃ M,M=bj ++bm:=⟨_,rfl⟩
 rw[← ag,← ah,← aB,← aC] at az;rw[← aA];have aD:W.length=(N).length+d:=by rw[ag,List.length_append,aU]
 have bo:a7.length=(P).length+d:=by rw[ah,List.length_append,bQ]
 have a6:W.length+(o+s+1)≤65535:=by omega
 have dV:a7.length+(o+s+1)≤65535:=by omega
 have cT:=Ab (And.intro aD bo);clear aD bo;have cU:=Ab (And.intro aA (And.intro ag (And.intro ah (And.intro aB aC))));have cV:=Ab bn;clear aA ag ah aB aC bn bY bZ c1 af;dsimp only;go_wp2_with (at_builtin;refine wpList_append_lies _ rfl _ _ 30 rfl w.heap.size 3 aY (.int .i64 0) 1 8 Tryz.underlying30 aZ a0 a4 a5 rfl (by decide) _ _ _ rfl (World.ownsRow.alloc az.O _) ⟨bX.heap.size,0,none⟩ 1 1 [.int .i64 a1] rfl rfl ?c1 ?c2 (by decide) ?c3 ?c4 ?c5 (bX.heap.size+1) (by simp) ?_)
 case c1=>exact Bn _ _ _ _ (by simp)
 case c2=>intro u hu;simp at hu;subst hu;rfl
 case c3=>unfold maxLen;simp
 case c4=>simp
 case c5=>have:=az.K.low.size;simp;omega
 intro dW dX cW b0 b1 b2 cX;have X:=az.app ae b0 b1 b2;clear az b0 b1 b2 cX;dsimp only[List.length_nil,List.length_cons,List.nil_append,List.cons_append,Nat.zero_add,Nat.reduceAdd] at X ⊢;go_wp2_with fail
 rw[rounds_succ];have c2:cW.cell? ⟨g,1,none⟩=some (.iface E F):=X.R.cell 1;go_wp2_with fail
 refine (Aa cB _ _ _ _ _ _ _ ((Aa aX).trans X.K.low) X.C (by omega) (by omega)).mono ?_;rintro r b3 ⟨rfl,dY,dZ,bp,bq,b4,b5,br⟩;have aE:=X.call b4 b5 br;have cY:=X.K.low.size;obtain ⟨a2,aF⟩:∃ a:Int,a=(((W).length+(f2 (W).length).length - 1 :Nat):Int):=⟨_,rfl⟩
 obtain ⟨Y,ai⟩:∃ M,M=W ++f2 (W).length:=⟨_,rfl⟩
 obtain ⟨a8,aj⟩:∃ M,M=a7 ++ax:=⟨_,rfl⟩
 obtain ⟨cZ,aG⟩:∃ M,M=cR ++bp:=⟨_,rfl⟩
 obtain ⟨c0,aH⟩:∃ M,M=cS ++bq:=⟨_,rfl⟩
 rw[← ai,← aj,← aG,← aH] at aE;rw[← aF];have aI:Y.length=(W).length+o:=by rw[ai,List.length_append,aV]
 have bs:a8.length=(a7).length+o:=by rw[aj,List.length_append,bR]
 have ak:Y.length+(s+1)≤65535:=by omega
 have d0:a8.length+(s+1)≤65535:=by omega
 have c6:=Ab (And.intro aI bs);clear aI bs;have c8:=Ab (And.intro aF (And.intro ai (And.intro aj (And.intro aG aH))));have c9:=Ab br;clear aF ai aj aG aH br b4 b5 c2 X;dsimp only;go_wp2_with (at_builtin;refine wpList_append_lies _ rfl _ _ 30 rfl w.heap.size 3 aY (.int .i64 0) 1 8 Tryz.underlying30 aZ a0 a4 a5 rfl (by decide) _ _ _ rfl (World.ownsRow.alloc aE.O _) ⟨b3.heap.size,0,none⟩ 1 1 [.int .i64 a2] rfl rfl ?c1 ?c2 (by decide) ?c3 ?c4 ?c5 (b3.heap.size+1) (by simp) ?_)
 case c1=>exact Bn _ _ _ _ (by simp)
 case c2=>intro u hu;simp at hu;subst hu;rfl
 case c3=>unfold maxLen;simp
 case c4=>simp
 case c5=>have:=aE.K.low.size;simp;omega
 intro d6 d7 da b6 b7 b8 db;have Z:=aE.app ae b6 b7 b8;clear aE b6 b7 b8 db;dsimp only[List.length_nil,List.length_cons,List.nil_append,List.cons_append,Nat.zero_add,Nat.reduceAdd] at Z ⊢;go_wp2_with fail
 rw[rounds_succ];have c3:da.cell? ⟨g,2,none⟩=some (.iface H I):=Z.R.cell 2;go_wp2_with fail
 refine (Aa cC _ _ _ _ _ _ _ ((Aa aX).trans Z.K.low) Z.C (by omega) (by omega)).mono ?_;rintro r b9 ⟨rfl,a9,bt,bu,bv,ca,cb,bw⟩;have aJ:=Z.call ca cb bw;have dc:=Z.K.low.size;obtain ⟨a3,aK⟩:∃ a:Int,a=(((Y).length+(ad (Y).length).length - 1 :Nat):Int):=⟨_,rfl⟩
 obtain ⟨t,al⟩:∃ M,M=Y ++ad (Y).length:=⟨_,rfl⟩
 obtain ⟨v,ao⟩:∃ M,M=a8 ++ay:=⟨_,rfl⟩
 obtain ⟨aL,aM⟩:∃ M,M=cZ ++bu:=⟨_,rfl⟩
 obtain ⟨bx,aN⟩:∃ M,M=c0 ++bv:=⟨_,rfl⟩
 rw[← al,← ao,← aM,← aN] at aJ;rw[← aK];have bz:t.length=(Y).length+s:=by rw[al,List.length_append,aW]
 have bA:v.length=(a8).length+s:=by rw[ao,List.length_append,bS]
 have d8:t.length+(1)≤65535:=by omega
 have d9:v.length+(1)≤65535:=by omega
 have dd:=Ab (And.intro bz bA);clear bz bA;have de:=Ab (And.intro aK (And.intro al (And.intro ao (And.intro aM aN))));have df:=Ab bw;clear aK al ao aM aN bw ca cb c3 Z;dsimp only;go_wp2_with (at_builtin;refine wpList_append_lies _ rfl _ _ 30 rfl w.heap.size 3 aY (.int .i64 0) 1 8 Tryz.underlying30 aZ a0 a4 a5 rfl (by decide) _ _ _ rfl (World.ownsRow.alloc aJ.O _) ⟨b9.heap.size,0,none⟩ 1 1 [.int .i64 a3] rfl rfl ?c1 ?c2 (by decide) ?c3 ?c4 ?c5 (b9.heap.size+1) (by simp) ?_)
 case c1=>exact Bn _ _ _ _ (by simp)
 case c2=>intro u hu;simp at hu;subst hu;rfl
 case c3=>unfold maxLen;simp
 case c4=>simp
 case c5=>have:=aJ.K.low.size;simp;omega
 intro f l dg cc cd ce dh;have J:=aJ.app ae cc cd ce;clear aJ cc cd ce dh;dsimp only[List.length_nil,List.length_cons,List.nil_append,List.cons_append,Nat.zero_add,Nat.reduceAdd] at J ⊢;go_wp2_with fail
 rw[rounds_succ];go_wp2_with fail
 obtain ⟨x,ba⟩:∃ x:Nd,x=⟨27,0,⟨#[]⟩, [], [a1,a2,a3]⟩:=⟨_,rfl⟩
 have di:=Ab (show ∀ w,Below B ac w→Calls Tryz.prog 116 #[.iface 149 (.agg #[.int .i64 i,.iface z A,.iface E F,.iface H I])] w (QS x w) from fun w h=>by rw[ba];exact Aa bT _ w h);have hx:x.kids= [a1,a2,a3]:=by rw[ba]
 have dj:=Ab ba;clear ba bT;have dk:=Ab ((Aa aX).trans J.K.low);have cf:B≤dg.heap.size:=Nat.le_trans ae J.K.low.size;refine (Aa di _ (Aa dk)).mono ?_;rintro r L ⟨⟨u,n,rfl,bb⟩,ak⟩;have cg:=J.C.below ak;have ch:=J.K.trans (Nk.of_all ak cf);have bB:=Ac (w':=L) J.O (fun q hq=>ak.block q (J.O.lt q hq).2);have dl:=ak.size;have aO:=(Below.refl L.heap.size L).alloc NLN (.cells #[.int .i64 x.op,.int .i64 x.num,.string x.text,.slice u x.names.length n,.slice (some ⟨f,0,none⟩) 3 l] 80);have bc:=Aj.new L #[.int .i64 x.op,.int .i64 x.num,.string x.text,.slice u x.names.length n,.slice (some ⟨f,0,none⟩) 3 l] 80;have y:=cg.below aO;have bC:=ch.trans (Nk.of_all aO (Nat.le_trans cf dl));have bD:=Ac (w':=L.alloc (.cells #[.int .i64 x.op,.int .i64 x.num,.string x.text,.slice u x.names.length n,.slice (some ⟨f,0,none⟩) 3 l] 80)) bb (fun q hq=>aO.block q (bb.lt q hq).2);have bd:=Ac (w':=L.alloc (.cells #[.int .i64 x.op,.int .i64 x.num,.string x.text,.slice u x.names.length n,.slice (some ⟨f,0,none⟩) 3 l] 80)) bB (fun q hq=>aO.block q (bB.lt q hq).2);have dm:L.heap.size < (L.alloc (.cells #[.int .i64 x.op,.int .i64 x.num,.string x.text,.slice u x.names.length n,.slice (some ⟨f,0,none⟩) 3 l] 80)).heap.size:=by simp
 have dn:=Ab (show ∀ j,(V:j < (aL).length)→∀ q,(aL)[j].ownBlock=some q→(Value.slice u x.names.length n).ownBlock≠some q from fun j V q hq e=>by have:=(bb.lt q e).1;have:=(J.C.nodes.lts.2.1 j V q hq).2;omega);clear bb bB cg ch ak aO;dsimp only;go_wp2_with fail
 generalize L.alloc (.cells #[.int .i64 x.op,.int .i64 x.num,.string x.text,.slice u x.names.length n,.slice (some ⟨f,0,none⟩) 3 l] 80)=p at y bC bD bd bc dm ⊢;generalize L.heap.size=aP at bc ⊢;obtain ⟨aQ,aR,S,_⟩:=Af y.nodes.own;have bE:=Ab S;clear S;apply VD
 ·intro dp;have S:=Aa bE;obtain ⟨ci,e1,e2,e3,e4⟩:=LL bc;have bF:p.cell? ⟨c,0,none⟩=some (a9):=y.row.cell 0;rw[S] at bF;have cj:=y.row.frozen 0;have ck:=World.news_of_block (heap_alloc_new p (.cells #[.int .i64 x.op,.int .i64 x.num,.string x.text,.slice u x.names.length n,.slice (some ⟨f,0,none⟩) 3 l] 80));have dq:p.drew.cell? ⟨c,0,none⟩=some (.slice aQ (t).length aR)∧p.drew.frozen? ⟨c,0,none⟩=false:=⟨bF,cj⟩
  have d1:p.drew.cell? ⟨aP,0,none⟩=some (.int .i64 x.op):=ci;have d2:p.drew.cell? ⟨aP,1,none⟩=some (.int .i64 x.num):=e1;have d3:p.drew.cell? ⟨aP,2,none⟩=some (.string x.text):=e2;have d4:p.drew.cell? ⟨aP,3,none⟩=some (.slice u x.names.length n):=e3;have d5:p.drew.cell? ⟨aP,4,none⟩=some (.slice (some ⟨f,0,none⟩) 3 l):=e4;have cl:(p.alloc (.cells #[.int .i64 x.op,.int .i64 x.num,.string x.text,.slice u x.names.length n,.slice (some ⟨f,0,none⟩) 3 l] 80)).drew.ownsRow B 80 5 (.slice aQ (t).length aR) (t).length (DA (t) (aL) (bx)):=by
   have:=y.nodes.own;rw[S] at this;exact (World.ownsRow.alloc this _).drew
  have bf:Aj (p.alloc (.cells #[.int .i64 x.op,.int .i64 x.num,.string x.text,.slice u x.names.length n,.slice (some ⟨f,0,none⟩) 3 l] 80)).drew c #[a9,bt] 161:=⟨(y.row.alloc (.cells #[.int .i64 x.op,.int .i64 x.num,.string x.text,.slice u x.names.length n,.slice (some ⟨f,0,none⟩) 3 l] 80)).out⟩
  have dr:(p.alloc (.cells #[.int .i64 x.op,.int .i64 x.num,.string x.text,.slice u x.names.length n,.slice (some ⟨f,0,none⟩) 3 l] 80)).drew.cell? ⟨c,0,none⟩=some (.slice aQ (t).length aR):=by
   have:=bf.cell 0;rw[S] at this;exact this
  have cm:(Value.slice aQ (t).length aR).ownBlock≠some c:=by rw[← S];exact Ad y.row y.nodes.own (by decide)
  have ds:B≤p.heap.size:=by have:=y.row.lt;have:=y.low;omega
  clear ci e1 e2 e3 e4 bF cj S;go_region_law (refine step_append_lies _ rfl _ _ 23 rfl B 80 cG (.agg #[.int .i64 0,.int .i64 0,.string ByteArray.empty,.slice none 0 0,.slice none 0 0]) 5 80 Tryz.underlying23 cH cI cJ cK rfl (by decide) (.slice aQ (t).length aR) (t).length (DA (t) (aL) (bx)) rfl cl ⟨p.heap.size,0,none⟩ 1 1 [.int .i64 x.op,.int .i64 x.num,.string x.text,.slice u x.names.length n,.slice (some ⟨f,0,none⟩) 3 l] rfl rfl ck (by intro u hu;simp at hu;rcases hu with rfl | rfl | rfl | rfl | rfl <;> rfl) (by decide) (by unfold maxLen;omega) (by omega) (by simp;omega) _ rfl ?_;intro g7 c7 bG cn aa co dt;have bH:Aj bG c #[a9,bt] 161:=⟨(aa.block c bf.lt (fun e=>cm e.symm)).trans bf.out⟩;have bg:=bH.cell 0;have bI:=bH.frozen 0)
  all_goals
   have cp:(p.alloc (.cells #[.int .i64 x.op,.int .i64 x.num,.string x.text,.slice u x.names.length n,.slice (some ⟨f,0,none⟩) 3 l] 80)).grownBy bG (a9).ownBlock:=by rw[Aa bE];exact ⟨aa.os,aa.tape,aa.output,aa.size,aa.block⟩
   obtain ⟨aq,aS⟩:=y.pushN (g7:=g7) (c7:=c7) (x:=x) (u:= .slice u x.names.length n) (k:= .slice (some ⟨f,0,none⟩) 3 l) _ ds (CA bD (by omega)) (by rw[hx];exact CA bd (by omega)) (Aa dn) (fun j V q hq e=>(J.ap q e).2 j V hq) (fun q hq=>(J.ap q hq).1) cp cn (by rw[Aa bE];exact co.imp id (fun e=>by rw[e];show (p.alloc _).heap.size=_;simp));have ar:=bC.trans aS;have bJ:=Ab (show ∀ q,(.slice (some ⟨f,0,none⟩) 3 l:Value).ownBlock=some q→w.heap.size≤q from fun q hq=>(bd.lt q hq).1);clear cn aa co dt bH bf dr dq d1 d2 d3 d4 d5 ck cl cp aS;clear bg bI;generalize bG.setCell ⟨c,0,none⟩ (.slice (some ⟨g7,0,none⟩) ((t).length+1) c7)=Q at aq ar ⊢;clear cm;revert bJ;revert ar;revert aq;revert Q;revert c7;revert g7;exact dp.out
 intro g7 c7 Q aq ar bJ;clear bc y bC bD bd;go_wp2_with fail
 obtain ⟨au,av,bh,_⟩:=Af aq.places;have aT:=Ab bh;have T:=aq.below (Cb Q);have cq:=ar.trans (Nk.of_all (Cb Q) (Nat.le_trans ae ar.low.size));have du:Q.drew.cell? ⟨c,1,none⟩=some (.slice au (v).length av):=by have:=T.row.cell 1;rw[bh] at this;exact this
 have dv:=T.row.frozen 1;have dw:(Value.slice au (v).length av).ownBlock≠some c:=by rw[← bh];exact Ad T.row T.places (by decide)
 have dx:=Ab (Aa cF Q.drew);have cr:B≤Q.drew.heap.size:=by have:=T.row.lt;have:=T.low;omega
 clear bh aq ar;go_region_law (first
  | (refine G5 rfl _ _ _ rfl 149 (.agg #[.int .i64 i,.iface z A,.iface E F,.iface H I]) rfl _ cO _ _ cD _ cL cM cN (fun dy w'=>dy= .int .i64 i∧Below Q.heap.size Q.drew w') ((Aa dx).mono (fun r w' h=>⟨_,h.1,rfl,h.2⟩)) ?_;rintro ea U ⟨rfl,bK⟩;have ab:=T.below bK;have cs:=cq.trans (Nk.of_all bK cr);have dz:B≤U.heap.size:=Nat.le_trans cr bK.size;have dA:U.cell? ⟨c,1,none⟩=some (.slice au (v).length av):=(by have:=ab.row.cell 1;rw[Aa aT] at this;exact this);have dB:=ab.row.frozen 1;have ct:(U.alloc (.cells #[.int .i64 i] 3)).ownsRow B 3 1 (.slice au (v).length av) (v).length (At (v)):=(by have:=ab.places;rw[Aa aT] at this;exact World.ownsRow.alloc this _);have dC:(U.alloc (.cells #[.int .i64 i] 3)).cell? ⟨c,1,none⟩=some (.slice au (v).length av):=(by have:=(ab.row.alloc (.cells #[.int .i64 i] 3)).cell 1;rw[Aa aT] at this;exact this);have cu:=World.news_of_block (heap_alloc_new U (.cells #[.int .i64 i] 3));have bL:Aj (U.alloc (.cells #[.int .i64 i] 3)) c #[_,_] 161:=ab.row.alloc (.cells #[.int .i64 i] 3))
  | (refine step_append_lies _ rfl _ _ 30 rfl B 3 aY (.int .i64 0) 1 8 Tryz.underlying30 aZ a0 a4 a5 rfl (by decide) (.slice au (v).length av) (v).length (At (v)) rfl ct ⟨U.heap.size,0,none⟩ 1 1 [.int .i64 i] rfl rfl cu (by intro u hu;simp at hu;rcases hu with rfl;rfl) (by decide) (by unfold maxLen;omega) (by omega) (by simp;omega) _ rfl ?_;intro g6 cv bM cw bN cx dD;have bO:Aj bM c #[_,_] 161:=⟨(bN.block c bL.lt (fun e=>dw e.symm)).trans bL.out⟩;have bg:=bO.cell 1;have bI:=bO.frozen 1))
 all_goals
  have cy:(U.alloc (.cells #[.int .i64 i] 3)).grownBy bM (bt).ownBlock:=by rw[Aa aT];exact bN
  obtain ⟨bP,cz⟩:=ab.pushP (g7:=g6) (c7:=cv) _ i dz cy cw (by rw[Aa aT];exact cx.imp id (fun e=>by rw[e];simp));have aS:=cs.trans cz;clear cw bN cx dD cy du dv dA dB dC bg bI bO bL cu ct T ab cq cs cz;generalize bM.setCell ⟨c,1,none⟩ (.slice (some ⟨g6,0,none⟩) ((v).length+1) cv)=dE at bP aS ⊢;have bg:dE.cell? ⟨c,0,none⟩=some (.slice (some ⟨g7,0,none⟩) ((t).length+1) c7):=bP.row.cell 0;go_wp2_with fail
  go_ret
  obtain ⟨aD,bo⟩:=Aa cT;obtain ⟨aA,ag,ah,aB,aC⟩:=Aa cU;obtain ⟨aI,bs⟩:=Aa c6;obtain ⟨aF,ai,aj,aG,aH⟩:=Aa c8;obtain ⟨bz,bA⟩:=Aa dd;obtain ⟨aK,al,ao,aM,aN⟩:=Aa de;have dF:x=⟨27,0,⟨#[]⟩, [], [((N.length+d - 1 :Nat):Int),((N.length+d+o - 1 :Nat):Int),((N.length+d+o+s - 1 :Nat):Int)]⟩:=by rw[Aa dj,aK,aF,aA,aU,aV,aW,aI,aD]
  have dG:t ++ [x]=N ++(f1 (N.length) ++f2 (N.length+d) ++ad (N.length+d+o) ++ [⟨27,0,⟨#[]⟩, [], [((N.length+d - 1 :Nat):Int),((N.length+d+o - 1 :Nat):Int),((N.length+d+o+s - 1 :Nat):Int)]⟩]):=by rw[dF,al,aI,ai,aD,ag];simp only[List.append_assoc]
  have dH:v ++ [i]=P ++(aw ++ax ++ay ++ [i]):=by rw[ao,aj,ah];simp only[List.append_assoc]
  have dI:aL ++ [.slice u x.names.length n]=bi ++(bl ++bp ++bu ++ [.slice u x.names.length n]):=by rw[aM,aG,aB];simp only[List.append_assoc]
  have dJ:bx ++ [.slice (some ⟨f,0,none⟩) 3 l]=bj ++(bm ++bq ++bv ++ [.slice (some ⟨f,0,none⟩) 3 l]):=by rw[aN,aH,aC];simp only[List.append_assoc]
  refine ⟨congrArg (fun m:Nat=>Ending.returned (.int .i64 (m:Int))) ?_,_,_,bl ++bp ++bu ++ [.slice u x.names.length n],bm ++bq ++bv ++ [.slice (some ⟨f,0,none⟩) 3 l], ?_,aS, ?_⟩
  ·simp only[List.length_append,List.length_cons,List.length_nil,aU,aV,aW];omega
  ·rw[← dG,← dH,← dI,← dJ];exact bP
  ·exact FI (FI (FI (Ey (Aa cV) cQ) (Ey (Aa c9) cY)) (Ey (Aa df) dc)) (L8 (Aa bJ))
end Go.Proofs.YtoplnhndilmlcaaGreatDoor
