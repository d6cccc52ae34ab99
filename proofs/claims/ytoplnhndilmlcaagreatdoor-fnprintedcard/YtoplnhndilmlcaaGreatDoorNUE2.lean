/-
  Numbering: a tree with kids is added (written by mknue.py). Own work.
-/
import Derived.Test.YtoplnhndilmlcaaGreatDoorNUC
import Derived.Test.YtoplnhndilmlcaaGreatDoorMXAK
namespace Go.Proofs.YtoplnhndilmlcaaGreatDoor
set_option maxRecDepth 100000
set_option maxHeartbeats 1600000
open Go.RowKit
set_option linter.unusedVariables false
theorem Zz (B c:Nat)(ah:World)(i op:Int)(y:TypeId)(z:Value)(o:Nat)(f1:Nat→List Nd)(ai:List Int)(aG:∀ b,(f1 b).length=o)(b8:Hid (XM B c ah (.iface y z) f1 ai o))(bu:ai.length=o)(A:TypeId)(E:Value)(t:Nat)(f2:Nat→List Nd)(aj:List Int)(aH:∀ b,(f2 b).length=t)(b9:Hid (XM B c ah (.iface A E) f2 aj t))(bv:aj.length=t)
  (bw:Hid (∀ ks w,Below B ah w→Calls Tryz.prog 116 #[.iface 146 (.agg #[.int .i64 i,.int .i64 op,.iface y z,.iface A E])] w (QS ⟨op,0,⟨#[]⟩, [],ks⟩ w))):
  XM B c ah (.iface 146 (.agg #[.int .i64 i,.int .i64 op,.iface y z,.iface A E])) (fun b=>f1 (b) ++f2 (b+o) ++ [⟨op,0,⟨#[]⟩, [], [((b+o - 1 :Nat):Int),((b+o+t - 1 :Nat):Int)]⟩]) (ai ++aj ++ [i]) (o+t+1):=by
 intro N P nd bx aS aT w bz aU c8 c9;have hk:=Qt i op y z A E;have ca:=Vv i op y z A E;have cb:=Ab (Ke i op y z A E);have cc:=Ab (Pe i op y z A E);have aV:=Ab bz;have da:=aU.row.lt;have ak:B≤w.heap.size:=by have:=aU.low;omega
 obtain ⟨cd,ce,cf,cg,ch⟩:=info_parts LJ;obtain ⟨aW,aX,aY,aZ,a0⟩:=info_parts Po;have ci:=Tryz.func224;have cj:(Tryz.f224.name== "runtime.NumGoroutine")=false:=by kernel_rfl
 have ck: Tryz.f224.body.isNone=false:=by kernel_rfl
 have cl: Tryz.prog.types.size+Made.depth= 409:=by kernel_rfl
 have db:=Ab (And.intro aG (And.intro aH (And.intro bu bv)));have dc:P.length+(o+t)+1≤65535:=by omega
 clear bz;go_enter Tryz.func79,Tryz.ntmps79
 go_wp2_with fail
 refine (Aa cb _).mono ?_;rintro r bA ⟨g,rfl,dd,cm,aI⟩;have X:Kn B c g w nd bx N P nd bx aS aT (.slice none 0 0) [] #[.iface y z,.iface A E] bA:=⟨aU.below aI,Nk.of_all aI ak,cm,World.ownsRow_nil _ _ _ _,fun q hq=>by cases hq⟩
 have de:=Ab (rfl:N=N);have df:∀ j,(S:j < ([]:List Value).length)→∀ q,([]:List Value)[j].ownBlock=some q→w.heap.size≤q:=fun j S=>absurd S (by simp);clear aI;dsimp only;go_wp2_with fail
 refine wp_loop_rounds 3 ?_;rw[rounds_succ];have c1:bA.cell? ⟨g,0,none⟩=some (.iface y z):=X.R.cell 0;go_wp2_with fail
 refine (Aa b8 _ _ _ _ _ _ _ ((Aa aV).trans X.K.low) X.C (by omega) (by omega)).mono ?_;rintro r bB ⟨rfl,dg,dh,a3,a4,bC,bD,a5⟩;have al:=X.call bC bD a5;have cn:=X.K.low.size;obtain ⟨a1,ao⟩:∃ a:Int,a=(((N).length+(f1 (N).length).length - 1 :Nat):Int):=⟨_,rfl⟩
 obtain ⟨T,Y⟩:∃ M,M=N ++f1 (N).length:=⟨_,rfl⟩
 obtain ⟨aJ,Z⟩:∃ M,M=P ++ai:=⟨_,rfl⟩
 obtain ⟨co,aq⟩:∃ M,M=aS ++a3:=⟨_,rfl⟩
 obtain ⟨cp,ar⟩:∃ M,M=aT ++a4:=⟨_,rfl⟩
 rw[← Y,← Z,← aq,← ar] at al;rw[← ao];have au:T.length=(N).length+o:=by rw[Y,List.length_append,aG]
 have a6:aJ.length=(P).length+o:=by rw[Z,List.length_append,bu]
 have aI:T.length+(t+1)≤65535:=by omega
 have di:aJ.length+(t+1)≤65535:=by omega
 have cq:=Ab (And.intro au a6);clear au a6;have cr:=Ab (And.intro ao (And.intro Y (And.intro Z (And.intro aq ar))));have cs:=Ab a5;clear ao Y Z aq ar a5 bC bD c1 X;dsimp only;go_wp2_with (at_builtin;refine wpList_append_lies _ rfl _ _ 30 rfl w.heap.size 3 aW (.int .i64 0) 1 8 Tryz.underlying30 aX aY aZ a0 rfl (by decide) _ _ _ rfl (World.ownsRow.alloc al.O _) ⟨bB.heap.size,0,none⟩ 1 1 [.int .i64 a1] rfl rfl ?c1 ?c2 (by decide) ?c3 ?c4 ?c5 (bB.heap.size+1) (by simp) ?_)
 case c1=>exact Bn _ _ _ _ (by simp)
 case c2=>intro u hu;simp at hu;subst hu;rfl
 case c3=>unfold maxLen;simp
 case c4=>simp
 case c5=>have:=al.K.low.size;simp;omega
 intro dj dk ct bE bF bG cu;have U:=al.app ak bE bF bG;clear al bE bF bG cu;dsimp only[List.length_nil,List.length_cons,List.nil_append,List.cons_append,Nat.zero_add,Nat.reduceAdd] at U ⊢;go_wp2_with fail
 rw[rounds_succ];have c2:ct.cell? ⟨g,1,none⟩=some (.iface A E):=U.R.cell 1;go_wp2_with fail
 refine (Aa b9 _ _ _ _ _ _ _ ((Aa aV).trans U.K.low) U.C (by omega) (by omega)).mono ?_;rintro r bH ⟨rfl,aK,a7,a8,a9,bI,bJ,ba⟩;have av:=U.call bI bJ ba;have cv:=U.K.low.size;obtain ⟨a2,aw⟩:∃ a:Int,a=(((T).length+(f2 (T).length).length - 1 :Nat):Int):=⟨_,rfl⟩
 obtain ⟨p,aa⟩:∃ M,M=T ++f2 (T).length:=⟨_,rfl⟩
 obtain ⟨s,ab⟩:∃ M,M=aJ ++aj:=⟨_,rfl⟩
 obtain ⟨ax,ay⟩:∃ M,M=co ++a8:=⟨_,rfl⟩
 obtain ⟨bb,az⟩:∃ M,M=cp ++a9:=⟨_,rfl⟩
 rw[← aa,← ab,← ay,← az] at av;rw[← aw];have bc:p.length=(T).length+t:=by rw[aa,List.length_append,aH]
 have bd:s.length=(aJ).length+t:=by rw[ab,List.length_append,bv]
 have ac:p.length+(1)≤65535:=by omega
 have dl:s.length+(1)≤65535:=by omega
 have cw:=Ab (And.intro bc bd);clear bc bd;have cx:=Ab (And.intro aw (And.intro aa (And.intro ab (And.intro ay az))));have cy:=Ab ba;clear aw aa ab ay az ba bI bJ c2 U;dsimp only;go_wp2_with (at_builtin;refine wpList_append_lies _ rfl _ _ 30 rfl w.heap.size 3 aW (.int .i64 0) 1 8 Tryz.underlying30 aX aY aZ a0 rfl (by decide) _ _ _ rfl (World.ownsRow.alloc av.O _) ⟨bH.heap.size,0,none⟩ 1 1 [.int .i64 a2] rfl rfl ?c1 ?c2 (by decide) ?c3 ?c4 ?c5 (bH.heap.size+1) (by simp) ?_)
 case c1=>exact Bn _ _ _ _ (by simp)
 case c2=>intro u hu;simp at hu;subst hu;rfl
 case c3=>unfold maxLen;simp
 case c4=>simp
 case c5=>have:=av.K.low.size;simp;omega
 intro d f cz bK bL bM cA;have F:=av.app ak bK bL bM;clear av bK bL bM cA;dsimp only[List.length_nil,List.length_cons,List.nil_append,List.cons_append,Nat.zero_add,Nat.reduceAdd] at F ⊢;go_wp2_with fail
 rw[rounds_succ];go_wp2_with fail
 obtain ⟨x,aL⟩:∃ x:Nd,x=⟨op,0,⟨#[]⟩, [], [a1,a2]⟩:=⟨_,rfl⟩
 have cB:=Ab (show ∀ w,Below B ah w→Calls Tryz.prog 116 #[.iface 146 (.agg #[.int .i64 i,.int .i64 op,.iface y z,.iface A E])] w (QS x w) from fun w h=>by rw[aL];exact Aa bw _ w h);have hx:x.kids= [a1,a2]:=by rw[aL]
 have cC:=Ab aL;clear aL bw;have cD:=Ab ((Aa aV).trans F.K.low);have bN:B≤cz.heap.size:=Nat.le_trans ak F.K.low.size;refine (Aa cB _ (Aa cD)).mono ?_;rintro r H ⟨⟨u,l,rfl,aM⟩,ac⟩;have bO:=F.C.below ac;have bP:=F.K.trans (Nk.of_all ac bN);have bf:=Ac (w':=H) F.O (fun q hq=>ac.block q (F.O.lt q hq).2);have cE:=ac.size;have aA:=(Below.refl H.heap.size H).alloc NLN (.cells #[.int .i64 x.op,.int .i64 x.num,.string x.text,.slice u x.names.length l,.slice (some ⟨d,0,none⟩) 2 f] 80);have aN:=Aj.new H #[.int .i64 x.op,.int .i64 x.num,.string x.text,.slice u x.names.length l,.slice (some ⟨d,0,none⟩) 2 f] 80;have v:=bO.below aA;have bg:=bP.trans (Nk.of_all aA (Nat.le_trans bN cE));have bh:=Ac (w':=H.alloc (.cells #[.int .i64 x.op,.int .i64 x.num,.string x.text,.slice u x.names.length l,.slice (some ⟨d,0,none⟩) 2 f] 80)) aM (fun q hq=>aA.block q (aM.lt q hq).2);have aO:=Ac (w':=H.alloc (.cells #[.int .i64 x.op,.int .i64 x.num,.string x.text,.slice u x.names.length l,.slice (some ⟨d,0,none⟩) 2 f] 80)) bf (fun q hq=>aA.block q (bf.lt q hq).2);have cF:H.heap.size < (H.alloc (.cells #[.int .i64 x.op,.int .i64 x.num,.string x.text,.slice u x.names.length l,.slice (some ⟨d,0,none⟩) 2 f] 80)).heap.size:=by simp
 have cG:=Ab (show ∀ j,(S:j < (ax).length)→∀ q,(ax)[j].ownBlock=some q→(Value.slice u x.names.length l).ownBlock≠some q from fun j S q hq e=>by have:=(aM.lt q e).1;have:=(F.C.nodes.lts.2.1 j S q hq).2;omega);clear aM bf bO bP ac aA;dsimp only;go_wp2_with fail
 generalize H.alloc (.cells #[.int .i64 x.op,.int .i64 x.num,.string x.text,.slice u x.names.length l,.slice (some ⟨d,0,none⟩) 2 f] 80)=n at v bg bh aO aN cF ⊢;generalize H.heap.size=aB at aN ⊢;obtain ⟨aC,aD,J,_⟩:=Af v.nodes.own;have bi:=Ab J;clear J;apply VD
 ·intro cH;have J:=Aa bi;obtain ⟨bQ,e1,e2,e3,e4⟩:=LL aN;have bj:n.cell? ⟨c,0,none⟩=some (aK):=v.row.cell 0;rw[J] at bj;have bR:=v.row.frozen 0;have bS:=World.news_of_block (heap_alloc_new n (.cells #[.int .i64 x.op,.int .i64 x.num,.string x.text,.slice u x.names.length l,.slice (some ⟨d,0,none⟩) 2 f] 80));have cI:n.drew.cell? ⟨c,0,none⟩=some (.slice aC (p).length aD)∧n.drew.frozen? ⟨c,0,none⟩=false:=⟨bj,bR⟩
  have d1:n.drew.cell? ⟨aB,0,none⟩=some (.int .i64 x.op):=bQ;have d2:n.drew.cell? ⟨aB,1,none⟩=some (.int .i64 x.num):=e1;have d3:n.drew.cell? ⟨aB,2,none⟩=some (.string x.text):=e2;have d4:n.drew.cell? ⟨aB,3,none⟩=some (.slice u x.names.length l):=e3;have d5:n.drew.cell? ⟨aB,4,none⟩=some (.slice (some ⟨d,0,none⟩) 2 f):=e4;have bT:(n.alloc (.cells #[.int .i64 x.op,.int .i64 x.num,.string x.text,.slice u x.names.length l,.slice (some ⟨d,0,none⟩) 2 f] 80)).drew.ownsRow B 80 5 (.slice aC (p).length aD) (p).length (DA (p) (ax) (bb)):=by
   have:=v.nodes.own;rw[J] at this;exact (World.ownsRow.alloc this _).drew
  have aP:Aj (n.alloc (.cells #[.int .i64 x.op,.int .i64 x.num,.string x.text,.slice u x.names.length l,.slice (some ⟨d,0,none⟩) 2 f] 80)).drew c #[aK,a7] 161:=⟨(v.row.alloc (.cells #[.int .i64 x.op,.int .i64 x.num,.string x.text,.slice u x.names.length l,.slice (some ⟨d,0,none⟩) 2 f] 80)).out⟩
  have cJ:(n.alloc (.cells #[.int .i64 x.op,.int .i64 x.num,.string x.text,.slice u x.names.length l,.slice (some ⟨d,0,none⟩) 2 f] 80)).drew.cell? ⟨c,0,none⟩=some (.slice aC (p).length aD):=by
   have:=aP.cell 0;rw[J] at this;exact this
  have bU:(Value.slice aC (p).length aD).ownBlock≠some c:=by rw[← J];exact Ad v.row v.nodes.own (by decide)
  have cK:B≤n.heap.size:=by have:=v.row.lt;have:=v.low;omega
  clear bQ e1 e2 e3 e4 bj bR J;go_region_law (refine step_append_lies _ rfl _ _ 23 rfl B 80 cd (.agg #[.int .i64 0,.int .i64 0,.string ByteArray.empty,.slice none 0 0,.slice none 0 0]) 5 80 Tryz.underlying23 ce cf cg ch rfl (by decide) (.slice aC (p).length aD) (p).length (DA (p) (ax) (bb)) rfl bT ⟨n.heap.size,0,none⟩ 1 1 [.int .i64 x.op,.int .i64 x.num,.string x.text,.slice u x.names.length l,.slice (some ⟨d,0,none⟩) 2 f] rfl rfl bS (by intro u hu;simp at hu;rcases hu with rfl | rfl | rfl | rfl | rfl <;> rfl) (by decide) (by unfold maxLen;omega) (by omega) (by simp;omega) _ rfl ?_;intro g7 c7 bk bV V bW cL;have bl:Aj bk c #[aK,a7] 161:=⟨(V.block c aP.lt (fun e=>bU e.symm)).trans aP.out⟩;have aQ:=bl.cell 0;have bm:=bl.frozen 0)
  all_goals
   have bX:(n.alloc (.cells #[.int .i64 x.op,.int .i64 x.num,.string x.text,.slice u x.names.length l,.slice (some ⟨d,0,none⟩) 2 f] 80)).grownBy bk (aK).ownBlock:=by rw[Aa bi];exact ⟨V.os,V.tape,V.output,V.size,V.block⟩
   obtain ⟨ad,aE⟩:=v.pushN (g7:=g7) (c7:=c7) (x:=x) (u:= .slice u x.names.length l) (k:= .slice (some ⟨d,0,none⟩) 2 f) _ cK (CA bh (by omega)) (by rw[hx];exact CA aO (by omega)) (Aa cG) (fun j S q hq e=>(F.ap q e).2 j S hq) (fun q hq=>(F.ap q hq).1) bX bV (by rw[Aa bi];exact bW.imp id (fun e=>by rw[e];show (n.alloc _).heap.size=_;simp));have ae:=bg.trans aE;have bn:=Ab (show ∀ q,(.slice (some ⟨d,0,none⟩) 2 f:Value).ownBlock=some q→w.heap.size≤q from fun q hq=>(aO.lt q hq).1);clear bV V bW cL bl aP cJ cI d1 d2 d3 d4 d5 bS bT bX aE;clear aQ bm;generalize bk.setCell ⟨c,0,none⟩ (.slice (some ⟨g7,0,none⟩) ((p).length+1) c7)=I at ad ae ⊢;clear bU;revert bn;revert ae;revert ad;revert I;revert c7;revert g7;exact cH.out
 intro g7 c7 I ad ae bn;clear aN v bg bh aO;go_wp2_with fail
 obtain ⟨af,ag,aR,_⟩:=Af ad.places;have aF:=Ab aR;have L:=ad.below (Cb I);have bY:=ae.trans (Nk.of_all (Cb I) (Nat.le_trans ak ae.low.size));have cM:I.drew.cell? ⟨c,1,none⟩=some (.slice af (s).length ag):=by have:=L.row.cell 1;rw[aR] at this;exact this
 have cN:=L.row.frozen 1;have cO:(Value.slice af (s).length ag).ownBlock≠some c:=by rw[← aR];exact Ad L.row L.places (by decide)
 have cP:=Ab (Aa cc I.drew);have bZ:B≤I.drew.heap.size:=by have:=L.row.lt;have:=L.low;omega
 clear aR ad ae;go_region_law (first
  | (refine G5 rfl _ _ _ rfl 146 (.agg #[.int .i64 i,.int .i64 op,.iface y z,.iface A E]) rfl _ cl _ _ ca _ ci cj ck (fun cQ w'=>cQ= .int .i64 i∧Below I.heap.size I.drew w') ((Aa cP).mono (fun r w' h=>⟨_,h.1,rfl,h.2⟩)) ?_;rintro dm Q ⟨rfl,bo⟩;have W:=L.below bo;have b0:=bY.trans (Nk.of_all bo bZ);have cR:B≤Q.heap.size:=Nat.le_trans bZ bo.size;have cS:Q.cell? ⟨c,1,none⟩=some (.slice af (s).length ag):=(by have:=W.row.cell 1;rw[Aa aF] at this;exact this);have cT:=W.row.frozen 1;have b1:(Q.alloc (.cells #[.int .i64 i] 3)).ownsRow B 3 1 (.slice af (s).length ag) (s).length (At (s)):=(by have:=W.places;rw[Aa aF] at this;exact World.ownsRow.alloc this _);have cU:(Q.alloc (.cells #[.int .i64 i] 3)).cell? ⟨c,1,none⟩=some (.slice af (s).length ag):=(by have:=(W.row.alloc (.cells #[.int .i64 i] 3)).cell 1;rw[Aa aF] at this;exact this);have b2:=World.news_of_block (heap_alloc_new Q (.cells #[.int .i64 i] 3));have bp:Aj (Q.alloc (.cells #[.int .i64 i] 3)) c #[_,_] 161:=W.row.alloc (.cells #[.int .i64 i] 3))
  | (refine step_append_lies _ rfl _ _ 30 rfl B 3 aW (.int .i64 0) 1 8 Tryz.underlying30 aX aY aZ a0 rfl (by decide) (.slice af (s).length ag) (s).length (At (s)) rfl b1 ⟨Q.heap.size,0,none⟩ 1 1 [.int .i64 i] rfl rfl b2 (by intro u hu;simp at hu;rcases hu with rfl;rfl) (by decide) (by unfold maxLen;omega) (by omega) (by simp;omega) _ rfl ?_;intro g6 b3 bq b4 br b5 cV;have bs:Aj bq c #[_,_] 161:=⟨(br.block c bp.lt (fun e=>cO e.symm)).trans bp.out⟩;have aQ:=bs.cell 1;have bm:=bs.frozen 1))
 all_goals
  have b6:(Q.alloc (.cells #[.int .i64 i] 3)).grownBy bq (a7).ownBlock:=by rw[Aa aF];exact br
  obtain ⟨bt,b7⟩:=W.pushP (g7:=g6) (c7:=b3) _ i cR b6 b4 (by rw[Aa aF];exact b5.imp id (fun e=>by rw[e];simp));have aE:=b0.trans b7;clear b4 br b5 cV b6 cM cN cS cT cU aQ bm bs bp b2 b1 L W bY b0 b7;generalize bq.setCell ⟨c,1,none⟩ (.slice (some ⟨g6,0,none⟩) ((s).length+1) b3)=cW at bt aE ⊢;have aQ:cW.cell? ⟨c,0,none⟩=some (.slice (some ⟨g7,0,none⟩) ((p).length+1) c7):=bt.row.cell 0;go_wp2_with fail
  go_ret
  obtain ⟨au,a6⟩:=Aa cq;obtain ⟨ao,Y,Z,aq,ar⟩:=Aa cr;obtain ⟨bc,bd⟩:=Aa cw;obtain ⟨aw,aa,ab,ay,az⟩:=Aa cx;have cX:x=⟨op,0,⟨#[]⟩, [], [((N.length+o - 1 :Nat):Int),((N.length+o+t - 1 :Nat):Int)]⟩:=by rw[Aa cC,aw,ao,aG,aH,au]
  have cY:p ++ [x]=N ++(f1 (N.length) ++f2 (N.length+o) ++ [⟨op,0,⟨#[]⟩, [], [((N.length+o - 1 :Nat):Int),((N.length+o+t - 1 :Nat):Int)]⟩]):=by rw[cX,aa,au,Y];simp only[List.append_assoc]
  have cZ:s ++ [i]=P ++(ai ++aj ++ [i]):=by rw[ab,Z];simp only[List.append_assoc]
  have c0:ax ++ [.slice u x.names.length l]=aS ++(a3 ++a8 ++ [.slice u x.names.length l]):=by rw[ay,aq];simp only[List.append_assoc]
  have c6:bb ++ [.slice (some ⟨d,0,none⟩) 2 f]=aT ++(a4 ++a9 ++ [.slice (some ⟨d,0,none⟩) 2 f]):=by rw[az,ar];simp only[List.append_assoc]
  refine ⟨congrArg (fun m:Nat=>Ending.returned (.int .i64 (m:Int))) ?_,_,_,a3 ++a8 ++ [.slice u x.names.length l],a4 ++a9 ++ [.slice (some ⟨d,0,none⟩) 2 f], ?_,aE, ?_⟩
  ·simp only[List.length_append,List.length_cons,List.length_nil,aG,aH];omega
  ·rw[← cY,← cZ,← c0,← c6];exact bt
  ·exact FI (FI (Ey (Aa cs) cn) (Ey (Aa cy) cv)) (L8 (Aa bn))
end Go.Proofs.YtoplnhndilmlcaaGreatDoor
