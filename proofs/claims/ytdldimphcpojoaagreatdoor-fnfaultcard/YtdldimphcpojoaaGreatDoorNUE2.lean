/-
  Numbering: a tree with kids is added (written by mknue.py). Own work.
-/
import Derived.Test.YtdldimphcpojoaaGreatDoorMXAO
namespace Go.Proofs.YtdldimphcpojoaaGreatDoor
set_option maxRecDepth 100000
set_option maxHeartbeats 1600000
open Go.RowKit
set_option linter.unusedVariables false
theorem WT (B c:Nat)(aj:World)(i op:Int)(y:TypeId)(z:Value)(o:Nat)(X:Nat→List Nd)(ak:List Int)(aI:∀ b,(X b).length=o)(b9:Hid (VD B c aj (.iface y z) X ak o))(bv:ak.length=o)(A:TypeId)(E:Value)(t:Nat)(Y:Nat→List Nd)(al:List Int)(aJ:∀ b,(Y b).length=t)(ca:Hid (VD B c aj (.iface A E) Y al t))(bw:al.length=t)
  (bx:Hid (∀ cb w,Below B aj w→Calls Tryz.prog 89 #[.iface 196 (.agg #[.int .i64 i,.int .i64 op,.iface y z,.iface A E])] w (Pe ⟨op,0,⟨#[]⟩, [],cb⟩ w))):
  VD B c aj (.iface 196 (.agg #[.int .i64 i,.int .i64 op,.iface y z,.iface A E])) (fun b=>X (b) ++Y (b+o) ++ [⟨op,0,⟨#[]⟩, [], [((b+o - 1 :Nat):Int),((b+o+t - 1 :Nat):Int)]⟩]) (ak ++al ++ [i]) (o+t+1):=by
 intro N P nd bz aU aV w bA hC da db;have hk:=Oo i op y z A E;have cc:=TL i op y z A E;have cd:=Ab (JC i op y z A E);have ce:=Ab (Nl i op y z A E);have aW:=Ab bA;have dc:=hC.row.lt;have ao:B≤w.heap.size:=by have:=hC.low;omega
 obtain ⟨cf,cg,ch,ci,cj⟩:=info_parts Jc;obtain ⟨aX,aY,aZ,a0,a3⟩:=info_parts KS;have ck:=Tryz.func217;have cl:(Tryz.f217.name== "runtime.NumGoroutine")=false:=by kernel_rfl
 have cm: Tryz.f217.body.isNone=false:=by kernel_rfl
 have cn: Tryz.prog.types.size+Made.depth= 394:=by kernel_rfl
 have dd:=Ab (And.intro aI (And.intro aJ (And.intro bv bw)));have de:P.length+(o+t)+1≤65535:=by omega
 clear bA;go_enter Tryz.func63,Tryz.ntmps63
 go_wp2_with fail
 refine (Aa cd _).mono ?_;rintro r bB ⟨g,rfl,df,co,aK⟩;have Z:Kn B c g w nd bz N P nd bz aU aV (.slice none 0 0) [] #[.iface y z,.iface A E] bB:=⟨hC.below aK,Nk.of_all aK ao,co,World.ownsRow_nil _ _ _ _,fun q hq=>by cases hq⟩
 have dg:=Ab (rfl:N=N);have dh:∀ j,(S:j < ([]:List Value).length)→∀ q,([]:List Value)[j].ownBlock=some q→w.heap.size≤q:=fun j S=>absurd S (by simp);clear aK;dsimp only;go_wp2_with fail
 refine wp_loop_rounds 3 ?_;rw[rounds_succ];have c1:bB.cell? ⟨g,0,none⟩=some (.iface y z):=Z.R.cell 0;go_wp2_with fail
 refine (Aa b9 _ _ _ _ _ _ _ ((Aa aW).trans Z.K.low) Z.C (by omega) (by omega)).mono ?_;rintro r bC ⟨rfl,di,dj,a4,a5,bD,bE,a6⟩;have aq:=Z.call bD bE a6;have cp:=Z.K.low.size;obtain ⟨a1,ar⟩:∃ a:Int,a=(((N).length+(X (N).length).length - 1 :Nat):Int):=⟨_,rfl⟩
 obtain ⟨T,aa⟩:∃ M,M=N ++X (N).length:=⟨_,rfl⟩
 obtain ⟨aL,ab⟩:∃ M,M=P ++ak:=⟨_,rfl⟩
 obtain ⟨cq,au⟩:∃ M,M=aU ++a4:=⟨_,rfl⟩
 obtain ⟨cr,av⟩:∃ M,M=aV ++a5:=⟨_,rfl⟩
 rw[← aa,← ab,← au,← av] at aq;rw[← ar];have aw:T.length=(N).length+o:=by rw[aa,List.length_append,aI]
 have a7:aL.length=(P).length+o:=by rw[ab,List.length_append,bv]
 have aK:T.length+(t+1)≤65535:=by omega
 have dk:aL.length+(t+1)≤65535:=by omega
 have cs:=Ab (And.intro aw a7);clear aw a7;have ct:=Ab (And.intro ar (And.intro aa (And.intro ab (And.intro au av))));have cu:=Ab a6;clear ar aa ab au av a6 bD bE c1 Z;dsimp only;go_wp2_with (at_builtin;refine wpList_append_lies _ rfl _ _ 28 rfl w.heap.size 3 aX (.int .i64 0) 1 8 Tryz.underlying28 aY aZ a0 a3 rfl (by decide) _ _ _ rfl (World.ownsRow.alloc aq.O _) ⟨bC.heap.size,0,none⟩ 1 1 [.int .i64 a1] rfl rfl ?c1 ?c2 (by decide) ?c3 ?c4 ?c5 (bC.heap.size+1) (by simp) ?_)
 case c1=>exact CL _ _ _ _ (by simp)
 case c2=>intro u hu;simp at hu;subst hu;rfl
 case c3=>unfold maxLen;simp
 case c4=>simp
 case c5=>have:=aq.K.low.size;simp;omega
 intro dl dm cv bF bG bH cw;have U:=aq.app ao bF bG bH;clear aq bF bG bH cw;dsimp only[List.length_nil,List.length_cons,List.nil_append,List.cons_append,Nat.zero_add,Nat.reduceAdd] at U ⊢;go_wp2_with fail
 rw[rounds_succ];have c2:cv.cell? ⟨g,1,none⟩=some (.iface A E):=U.R.cell 1;go_wp2_with fail
 refine (Aa ca _ _ _ _ _ _ _ ((Aa aW).trans U.K.low) U.C (by omega) (by omega)).mono ?_;rintro r bI ⟨rfl,aM,a8,a9,ba,bJ,bK,bb⟩;have ax:=U.call bJ bK bb;have cx:=U.K.low.size;obtain ⟨a2,ay⟩:∃ a:Int,a=(((T).length+(Y (T).length).length - 1 :Nat):Int):=⟨_,rfl⟩
 obtain ⟨p,ac⟩:∃ M,M=T ++Y (T).length:=⟨_,rfl⟩
 obtain ⟨s,ad⟩:∃ M,M=aL ++al:=⟨_,rfl⟩
 obtain ⟨az,aA⟩:∃ M,M=cq ++a9:=⟨_,rfl⟩
 obtain ⟨bc,aB⟩:∃ M,M=cr ++ba:=⟨_,rfl⟩
 rw[← ac,← ad,← aA,← aB] at ax;rw[← ay];have bd:p.length=(T).length+t:=by rw[ac,List.length_append,aJ]
 have bf:s.length=(aL).length+t:=by rw[ad,List.length_append,bw]
 have ae:p.length+(1)≤65535:=by omega
 have dn:s.length+(1)≤65535:=by omega
 have cy:=Ab (And.intro bd bf);clear bd bf;have cz:=Ab (And.intro ay (And.intro ac (And.intro ad (And.intro aA aB))));have cA:=Ab bb;clear ay ac ad aA aB bb bJ bK c2 U;dsimp only;go_wp2_with (at_builtin;refine wpList_append_lies _ rfl _ _ 28 rfl w.heap.size 3 aX (.int .i64 0) 1 8 Tryz.underlying28 aY aZ a0 a3 rfl (by decide) _ _ _ rfl (World.ownsRow.alloc ax.O _) ⟨bI.heap.size,0,none⟩ 1 1 [.int .i64 a2] rfl rfl ?c1 ?c2 (by decide) ?c3 ?c4 ?c5 (bI.heap.size+1) (by simp) ?_)
 case c1=>exact CL _ _ _ _ (by simp)
 case c2=>intro u hu;simp at hu;subst hu;rfl
 case c3=>unfold maxLen;simp
 case c4=>simp
 case c5=>have:=ax.K.low.size;simp;omega
 intro d f cB bL bM bN cC;have F:=ax.app ao bL bM bN;clear ax bL bM bN cC;dsimp only[List.length_nil,List.length_cons,List.nil_append,List.cons_append,Nat.zero_add,Nat.reduceAdd] at F ⊢;go_wp2_with fail
 rw[rounds_succ];go_wp2_with fail
 obtain ⟨x,aN⟩:∃ x:Nd,x=⟨op,0,⟨#[]⟩, [], [a1,a2]⟩:=⟨_,rfl⟩
 have cD:=Ab (show ∀ w,Below B aj w→Calls Tryz.prog 89 #[.iface 196 (.agg #[.int .i64 i,.int .i64 op,.iface y z,.iface A E])] w (Pe x w) from fun w h=>by rw[aN];exact Aa bx _ w h);have hx:x.kids= [a1,a2]:=by rw[aN]
 have cE:=Ab aN;clear aN bx;have cF:=Ab ((Aa aW).trans F.K.low);have bO:B≤cB.heap.size:=Nat.le_trans ao F.K.low.size;refine (Aa cD _ (Aa cF)).mono ?_;rintro r H ⟨⟨u,l,rfl,aO⟩,ae⟩;have bP:=F.C.below ae;have bQ:=F.K.trans (Nk.of_all ae bO);have bg:=Ac (w':=H) F.O (fun q hq=>ae.block q (F.O.lt q hq).2);have cG:=ae.size;have aC:=(Below.refl H.heap.size H).alloc NLN (.cells #[.int .i64 x.op,.int .i64 x.num,.string x.text,.slice u x.names.length l,.slice (some ⟨d,0,none⟩) 2 f] 114);have aP:=An.new H #[.int .i64 x.op,.int .i64 x.num,.string x.text,.slice u x.names.length l,.slice (some ⟨d,0,none⟩) 2 f] 114;have v:=bP.below aC;have bh:=bQ.trans (Nk.of_all aC (Nat.le_trans bO cG));have bi:=Ac (w':=H.alloc (.cells #[.int .i64 x.op,.int .i64 x.num,.string x.text,.slice u x.names.length l,.slice (some ⟨d,0,none⟩) 2 f] 114)) aO (fun q hq=>aC.block q (aO.lt q hq).2);have aQ:=Ac (w':=H.alloc (.cells #[.int .i64 x.op,.int .i64 x.num,.string x.text,.slice u x.names.length l,.slice (some ⟨d,0,none⟩) 2 f] 114)) bg (fun q hq=>aC.block q (bg.lt q hq).2);have cH:H.heap.size < (H.alloc (.cells #[.int .i64 x.op,.int .i64 x.num,.string x.text,.slice u x.names.length l,.slice (some ⟨d,0,none⟩) 2 f] 114)).heap.size:=by simp
 have cI:=Ab (show ∀ j,(S:j < (az).length)→∀ q,(az)[j].ownBlock=some q→(Value.slice u x.names.length l).ownBlock≠some q from fun j S q hq e=>by have:=(aO.lt q e).1;have:=(F.C.nodes.lts.2.1 j S q hq).2;omega);clear aO bg bP bQ ae aC;dsimp only;go_wp2_with fail
 generalize H.alloc (.cells #[.int .i64 x.op,.int .i64 x.num,.string x.text,.slice u x.names.length l,.slice (some ⟨d,0,none⟩) 2 f] 114)=n at v bh bi aQ aP cH ⊢;generalize H.heap.size=aD at aP ⊢;obtain ⟨aE,aF,J,_⟩:=Ah v.nodes.own;have bj:=Ab J;clear J;apply QN
 ·intro cJ;have J:=Aa bj;obtain ⟨bR,e1,e2,e3,e4⟩:=JI aP;have bk:n.cell? ⟨c,0,none⟩=some (aM):=v.row.cell 0;rw[J] at bk;have bS:=v.row.frozen 0;have bT:=World.news_of_block (heap_alloc_new n (.cells #[.int .i64 x.op,.int .i64 x.num,.string x.text,.slice u x.names.length l,.slice (some ⟨d,0,none⟩) 2 f] 114));have cK:n.drew.cell? ⟨c,0,none⟩=some (.slice aE (p).length aF)∧n.drew.frozen? ⟨c,0,none⟩=false:=⟨bk,bS⟩
  have d1:n.drew.cell? ⟨aD,0,none⟩=some (.int .i64 x.op):=bR;have d2:n.drew.cell? ⟨aD,1,none⟩=some (.int .i64 x.num):=e1;have d3:n.drew.cell? ⟨aD,2,none⟩=some (.string x.text):=e2;have d4:n.drew.cell? ⟨aD,3,none⟩=some (.slice u x.names.length l):=e3;have d5:n.drew.cell? ⟨aD,4,none⟩=some (.slice (some ⟨d,0,none⟩) 2 f):=e4;have bU:(n.alloc (.cells #[.int .i64 x.op,.int .i64 x.num,.string x.text,.slice u x.names.length l,.slice (some ⟨d,0,none⟩) 2 f] 114)).drew.ownsRow B 114 5 (.slice aE (p).length aF) (p).length (Ir (p) (az) (bc)):=by
   have:=v.nodes.own;rw[J] at this;exact (World.ownsRow.alloc this _).drew
  have aR:An (n.alloc (.cells #[.int .i64 x.op,.int .i64 x.num,.string x.text,.slice u x.names.length l,.slice (some ⟨d,0,none⟩) 2 f] 114)).drew c #[aM,a8] 127:=⟨(v.row.alloc (.cells #[.int .i64 x.op,.int .i64 x.num,.string x.text,.slice u x.names.length l,.slice (some ⟨d,0,none⟩) 2 f] 114)).out⟩
  have cL:(n.alloc (.cells #[.int .i64 x.op,.int .i64 x.num,.string x.text,.slice u x.names.length l,.slice (some ⟨d,0,none⟩) 2 f] 114)).drew.cell? ⟨c,0,none⟩=some (.slice aE (p).length aF):=by
   have:=aR.cell 0;rw[J] at this;exact this
  have bV:(Value.slice aE (p).length aF).ownBlock≠some c:=by rw[← J];exact Ad v.row v.nodes.own (by decide)
  have cM:B≤n.heap.size:=by have:=v.row.lt;have:=v.low;omega
  clear bR e1 e2 e3 e4 bk bS J;go_region_law (refine step_append_lies _ rfl _ _ 24 rfl B 114 cf (.agg #[.int .i64 0,.int .i64 0,.string ByteArray.empty,.slice none 0 0,.slice none 0 0]) 5 80 Tryz.underlying24 cg ch ci cj rfl (by decide) (.slice aE (p).length aF) (p).length (Ir (p) (az) (bc)) rfl bU ⟨n.heap.size,0,none⟩ 1 1 [.int .i64 x.op,.int .i64 x.num,.string x.text,.slice u x.names.length l,.slice (some ⟨d,0,none⟩) 2 f] rfl rfl bT (by intro u hu;simp at hu;rcases hu with rfl | rfl | rfl | rfl | rfl <;> rfl) (by decide) (by unfold maxLen;omega) (by omega) (by simp;omega) _ rfl ?_;intro g7 c7 bl bW V bX cN;have bm:An bl c #[aM,a8] 127:=⟨(V.block c aR.lt (fun e=>bV e.symm)).trans aR.out⟩;have aS:=bm.cell 0;have bn:=bm.frozen 0)
  all_goals
   have bY:(n.alloc (.cells #[.int .i64 x.op,.int .i64 x.num,.string x.text,.slice u x.names.length l,.slice (some ⟨d,0,none⟩) 2 f] 114)).grownBy bl (aM).ownBlock:=by rw[Aa bj];exact ⟨V.os,V.tape,V.output,V.size,V.block⟩
   obtain ⟨af,aG⟩:=v.pushN (g7:=g7) (c7:=c7) (x:=x) (u:= .slice u x.names.length l) (k:= .slice (some ⟨d,0,none⟩) 2 f) _ cM (Ch bi (by omega)) (by rw[hx];exact Ch aQ (by omega)) (Aa cI) (fun j S q hq e=>(F.ap q e).2 j S hq) (fun q hq=>(F.ap q hq).1) bY bW (by rw[Aa bj];exact bX.imp id (fun e=>by rw[e];show (n.alloc _).heap.size=_;simp));have ag:=bh.trans aG;have bo:=Ab (show ∀ q,(.slice (some ⟨d,0,none⟩) 2 f:Value).ownBlock=some q→w.heap.size≤q from fun q hq=>(aQ.lt q hq).1);clear bW V bX cN bm aR cL cK d1 d2 d3 d4 d5 bT bU bY aG;clear aS bn;generalize bl.setCell ⟨c,0,none⟩ (.slice (some ⟨g7,0,none⟩) ((p).length+1) c7)=I at af ag ⊢;clear bV;revert bo;revert ag;revert af;revert I;revert c7;revert g7;exact cJ.out
 intro g7 c7 I af ag bo;clear aP v bh bi aQ;go_wp2_with fail
 obtain ⟨ah,ai,aT,_⟩:=Ah af.places;have aH:=Ab aT;have L:=af.below (CK I);have bZ:=ag.trans (Nk.of_all (CK I) (Nat.le_trans ao ag.low.size));have cO:I.drew.cell? ⟨c,1,none⟩=some (.slice ah (s).length ai):=by have:=L.row.cell 1;rw[aT] at this;exact this
 have cP:=L.row.frozen 1;have cQ:(Value.slice ah (s).length ai).ownBlock≠some c:=by rw[← aT];exact Ad L.row L.places (by decide)
 have cR:=Ab (Aa ce I.drew);have b0:B≤I.drew.heap.size:=by have:=L.row.lt;have:=L.low;omega
 clear aT af ag;go_region_law (first
  | (refine Gu rfl _ _ _ rfl 196 (.agg #[.int .i64 i,.int .i64 op,.iface y z,.iface A E]) rfl _ cn _ _ cc _ ck cl cm (fun cS w'=>cS= .int .i64 i∧Below I.heap.size I.drew w') ((Aa cR).mono (fun r w' h=>⟨_,h.1,rfl,h.2⟩)) ?_;rintro dp Q ⟨rfl,bp⟩;have W:=L.below bp;have b1:=bZ.trans (Nk.of_all bp b0);have cT:B≤Q.heap.size:=Nat.le_trans b0 bp.size;have cU:Q.cell? ⟨c,1,none⟩=some (.slice ah (s).length ai):=(by have:=W.row.cell 1;rw[Aa aH] at this;exact this);have cV:=W.row.frozen 1;have b2:(Q.alloc (.cells #[.int .i64 i] 3)).ownsRow B 3 1 (.slice ah (s).length ai) (s).length (AN (s)):=(by have:=W.places;rw[Aa aH] at this;exact World.ownsRow.alloc this _);have cW:(Q.alloc (.cells #[.int .i64 i] 3)).cell? ⟨c,1,none⟩=some (.slice ah (s).length ai):=(by have:=(W.row.alloc (.cells #[.int .i64 i] 3)).cell 1;rw[Aa aH] at this;exact this);have b3:=World.news_of_block (heap_alloc_new Q (.cells #[.int .i64 i] 3));have bq:An (Q.alloc (.cells #[.int .i64 i] 3)) c #[_,_] 127:=W.row.alloc (.cells #[.int .i64 i] 3))
  | (refine step_append_lies _ rfl _ _ 28 rfl B 3 aX (.int .i64 0) 1 8 Tryz.underlying28 aY aZ a0 a3 rfl (by decide) (.slice ah (s).length ai) (s).length (AN (s)) rfl b2 ⟨Q.heap.size,0,none⟩ 1 1 [.int .i64 i] rfl rfl b3 (by intro u hu;simp at hu;rcases hu with rfl;rfl) (by decide) (by unfold maxLen;omega) (by omega) (by simp;omega) _ rfl ?_;intro g6 b4 br b5 bs b6 cX;have bt:An br c #[_,_] 127:=⟨(bs.block c bq.lt (fun e=>cQ e.symm)).trans bq.out⟩;have aS:=bt.cell 1;have bn:=bt.frozen 1))
 all_goals
  have b7:(Q.alloc (.cells #[.int .i64 i] 3)).grownBy br (a8).ownBlock:=by rw[Aa aH];exact bs
  obtain ⟨bu,b8⟩:=W.pushP (g7:=g6) (c7:=b4) _ i cT b7 b5 (by rw[Aa aH];exact b6.imp id (fun e=>by rw[e];simp));have aG:=b1.trans b8;clear b5 bs b6 cX b7 cO cP cU cV cW aS bn bt bq b3 b2 L W bZ b1 b8;generalize br.setCell ⟨c,1,none⟩ (.slice (some ⟨g6,0,none⟩) ((s).length+1) b4)=cY at bu aG ⊢;have aS:cY.cell? ⟨c,0,none⟩=some (.slice (some ⟨g7,0,none⟩) ((p).length+1) c7):=bu.row.cell 0;go_wp2_with fail
  go_ret
  obtain ⟨aw,a7⟩:=Aa cs;obtain ⟨ar,aa,ab,au,av⟩:=Aa ct;obtain ⟨bd,bf⟩:=Aa cy;obtain ⟨ay,ac,ad,aA,aB⟩:=Aa cz;have cZ:x=⟨op,0,⟨#[]⟩, [], [((N.length+o - 1 :Nat):Int),((N.length+o+t - 1 :Nat):Int)]⟩:=by rw[Aa cE,ay,ar,aI,aJ,aw]
  have c0:p ++ [x]=N ++(X (N.length) ++Y (N.length+o) ++ [⟨op,0,⟨#[]⟩, [], [((N.length+o - 1 :Nat):Int),((N.length+o+t - 1 :Nat):Int)]⟩]):=by rw[cZ,ac,aw,aa];simp only[List.append_assoc]
  have c6:s ++ [i]=P ++(ak ++al ++ [i]):=by rw[ad,ab];simp only[List.append_assoc]
  have c8:az ++ [.slice u x.names.length l]=aU ++(a4 ++a9 ++ [.slice u x.names.length l]):=by rw[aA,au];simp only[List.append_assoc]
  have c9:bc ++ [.slice (some ⟨d,0,none⟩) 2 f]=aV ++(a5 ++ba ++ [.slice (some ⟨d,0,none⟩) 2 f]):=by rw[aB,av];simp only[List.append_assoc]
  refine ⟨congrArg (fun m:Nat=>Ending.returned (.int .i64 (m:Int))) ?_,_,_,a4 ++a9 ++ [.slice u x.names.length l],a5 ++ba ++ [.slice (some ⟨d,0,none⟩) 2 f], ?_,aG, ?_⟩
  ·simp only[List.length_append,List.length_cons,List.length_nil,aI,aJ];omega
  ·rw[← c0,← c6,← c8,← c9];exact bu
  ·exact BP (BP (AM (Aa cu) cp) (AM (Aa cA) cx)) (CJ (Aa bo))
end Go.Proofs.YtdldimphcpojoaaGreatDoor
