/-
  Numbering: a tree with kids is added (written by mknue.py). Own work.
-/
import Derived.Test.YtdldimphcpojoaaGreatDoorMXAO
namespace Go.Proofs.YtdldimphcpojoaaGreatDoor
set_option maxRecDepth 100000
set_option maxHeartbeats 1600000
open Go.RowKit
set_option linter.unusedVariables false
theorem X7 (B c:Nat)(aq:World)(i op:Int)(t:TypeId)(v:Value)(y:Nat)(S:Nat→List Nd)(aa:List Int)(ar:∀ b,(S b).length=y)(bH:Hid (VD B c aq (.iface t v) S aa y))(a3:aa.length=y)
  (a4:Hid (∀ bI w,Below B aq w→Calls Tryz.prog 89 #[.iface 194 (.agg #[.int .i64 i,.int .i64 op,.iface t v])] w (Pe ⟨op,0,⟨#[]⟩, [],bI⟩ w))):
  VD B c aq (.iface 194 (.agg #[.int .i64 i,.int .i64 op,.iface t v])) (fun b=>S (b) ++ [⟨op,0,⟨#[]⟩, [], [((b+y - 1 :Nat):Int)]⟩]) (aa ++ [i]) (y+1):=by
 intro N P nd a5 aE aF w a6 hC ct cu;have hk:=Sj i op t v;have bJ:=Vv i op t v;have bK:=Ab (KI i op t v);have bL:=Ab (OV i op t v);have a7:=Ab a6;have cv:=hC.row.lt;have au:B≤w.heap.size:=by have:=hC.low;omega
 obtain ⟨bM,bN,bO,bP,bQ⟩:=info_parts Jc;obtain ⟨a8,a9,ba,bb,bc⟩:=info_parts KS;have bR:=Tryz.func215;have bS:(Tryz.f215.name== "runtime.NumGoroutine")=false:=by kernel_rfl
 have bT: Tryz.f215.body.isNone=false:=by kernel_rfl
 have bU: Tryz.prog.types.size+Made.depth= 394:=by kernel_rfl
 have cw:=Ab (And.intro ar a3);have cx:P.length+(y)+1≤65535:=by omega
 clear a6;go_enter Tryz.func63,Tryz.ntmps63
 go_wp2_with fail
 refine (Aa bK _).mono ?_;rintro r bd ⟨g,rfl,cy,bV,av⟩;have T:Kn B c g w nd a5 N P nd a5 aE aF (.slice none 0 0) [] #[.iface t v] bd:=⟨hC.below av,Nk.of_all av au,bV,World.ownsRow_nil _ _ _ _,fun q hq=>by cases hq⟩
 have cz:=Ab (rfl:N=N);have cA:∀ j,(J:j < ([]:List Value).length)→∀ q,([]:List Value)[j].ownBlock=some q→w.heap.size≤q:=fun j J=>absurd J (by simp);clear av;dsimp only;go_wp2_with fail
 refine wp_loop_rounds 2 ?_;rw[rounds_succ];have c1:bd.cell? ⟨g,0,none⟩=some (.iface t v):=T.R.cell 0;go_wp2_with fail
 refine (Aa bH _ _ _ _ _ _ _ ((Aa a7).trans T.K.low) T.C (by omega) (by omega)).mono ?_;rintro r bf ⟨rfl,aw,aG,aH,aI,bg,bh,aJ⟩;have ab:=T.call bg bh aJ;have bW:=T.K.low.size;obtain ⟨a1,ac⟩:∃ a:Int,a=(((N).length+(S (N).length).length - 1 :Nat):Int):=⟨_,rfl⟩
 obtain ⟨o,U⟩:∃ M,M=N ++S (N).length:=⟨_,rfl⟩
 obtain ⟨p,V⟩:∃ M,M=P ++aa:=⟨_,rfl⟩
 obtain ⟨ad,ae⟩:∃ M,M=aE ++aH:=⟨_,rfl⟩
 obtain ⟨aK,af⟩:∃ M,M=aF ++aI:=⟨_,rfl⟩
 rw[← U,← V,← ae,← af] at ab;rw[← ac];have aL:o.length=(N).length+y:=by rw[U,List.length_append,ar]
 have aM:p.length=(P).length+y:=by rw[V,List.length_append,a3]
 have av:o.length+(1)≤65535:=by omega
 have cB:p.length+(1)≤65535:=by omega
 have bX:=Ab (And.intro aL aM);clear aL aM;have bY:=Ab (And.intro ac (And.intro U (And.intro V (And.intro ae af))));have bZ:=Ab aJ;clear ac U V ae af aJ bg bh c1 T;dsimp only;go_wp2_with (at_builtin;refine wpList_append_lies _ rfl _ _ 28 rfl w.heap.size 3 a8 (.int .i64 0) 1 8 Tryz.underlying28 a9 ba bb bc rfl (by decide) _ _ _ rfl (World.ownsRow.alloc ab.O _) ⟨bf.heap.size,0,none⟩ 1 1 [.int .i64 a1] rfl rfl ?c1 ?c2 (by decide) ?c3 ?c4 ?c5 (bf.heap.size+1) (by simp) ?_)
 case c1=>exact CL _ _ _ _ (by simp)
 case c2=>intro u hu;simp at hu;subst hu;rfl
 case c3=>unfold maxLen;simp
 case c4=>simp
 case c5=>have:=ab.K.low.size;simp;omega
 intro d f b0 bi bj bk b1;have z:=ab.app au bi bj bk;clear ab bi bj bk b1;dsimp only[List.length_nil,List.length_cons,List.nil_append,List.cons_append,Nat.zero_add,Nat.reduceAdd] at z ⊢;go_wp2_with fail
 rw[rounds_succ];go_wp2_with fail
 obtain ⟨x,ax⟩:∃ x:Nd,x=⟨op,0,⟨#[]⟩, [], [a1]⟩:=⟨_,rfl⟩
 have b2:=Ab (show ∀ w,Below B aq w→Calls Tryz.prog 89 #[.iface 194 (.agg #[.int .i64 i,.int .i64 op,.iface t v])] w (Pe x w) from fun w h=>by rw[ax];exact Aa a4 _ w h);have hx:x.kids= [a1]:=by rw[ax]
 have b3:=Ab ax;clear ax a4;have b4:=Ab ((Aa a7).trans z.K.low);have bl:B≤b0.heap.size:=Nat.le_trans au z.K.low.size;refine (Aa b2 _ (Aa b4)).mono ?_;rintro r A ⟨⟨u,l,rfl,ay⟩,ag⟩;have bm:=z.C.below ag;have bn:=z.K.trans (Nk.of_all ag bl);have aN:=Ac (w':=A) z.O (fun q hq=>ag.block q (z.O.lt q hq).2);have b5:=ag.size;have ah:=(Below.refl A.heap.size A).alloc NLN (.cells #[.int .i64 x.op,.int .i64 x.num,.string x.text,.slice u x.names.length l,.slice (some ⟨d,0,none⟩) 1 f] 114);have az:=An.new A #[.int .i64 x.op,.int .i64 x.num,.string x.text,.slice u x.names.length l,.slice (some ⟨d,0,none⟩) 1 f] 114;have s:=bm.below ah;have aO:=bn.trans (Nk.of_all ah (Nat.le_trans bl b5));have aP:=Ac (w':=A.alloc (.cells #[.int .i64 x.op,.int .i64 x.num,.string x.text,.slice u x.names.length l,.slice (some ⟨d,0,none⟩) 1 f] 114)) ay (fun q hq=>ah.block q (ay.lt q hq).2);have aA:=Ac (w':=A.alloc (.cells #[.int .i64 x.op,.int .i64 x.num,.string x.text,.slice u x.names.length l,.slice (some ⟨d,0,none⟩) 1 f] 114)) aN (fun q hq=>ah.block q (aN.lt q hq).2);have b6:A.heap.size < (A.alloc (.cells #[.int .i64 x.op,.int .i64 x.num,.string x.text,.slice u x.names.length l,.slice (some ⟨d,0,none⟩) 1 f] 114)).heap.size:=by simp
 have b7:=Ab (show ∀ j,(J:j < (ad).length)→∀ q,(ad)[j].ownBlock=some q→(Value.slice u x.names.length l).ownBlock≠some q from fun j J q hq e=>by have:=(ay.lt q e).1;have:=(z.C.nodes.lts.2.1 j J q hq).2;omega);clear ay aN bm bn ag ah;dsimp only;go_wp2_with fail
 generalize A.alloc (.cells #[.int .i64 x.op,.int .i64 x.num,.string x.text,.slice u x.names.length l,.slice (some ⟨d,0,none⟩) 1 f] 114)=n at s aO aP aA az b6 ⊢;generalize A.heap.size=ai at az ⊢;obtain ⟨aj,ak,F,_⟩:=Ah s.nodes.own;have aQ:=Ab F;clear F;apply QN
 ·intro b8;have F:=Aa aQ;obtain ⟨bo,e1,e2,e3,e4⟩:=JI az;have aR:n.cell? ⟨c,0,none⟩=some (aw):=s.row.cell 0;rw[F] at aR;have bp:=s.row.frozen 0;have bq:=World.news_of_block (heap_alloc_new n (.cells #[.int .i64 x.op,.int .i64 x.num,.string x.text,.slice u x.names.length l,.slice (some ⟨d,0,none⟩) 1 f] 114));have b9:n.drew.cell? ⟨c,0,none⟩=some (.slice aj (o).length ak)∧n.drew.frozen? ⟨c,0,none⟩=false:=⟨aR,bp⟩
  have d1:n.drew.cell? ⟨ai,0,none⟩=some (.int .i64 x.op):=bo;have d2:n.drew.cell? ⟨ai,1,none⟩=some (.int .i64 x.num):=e1;have d3:n.drew.cell? ⟨ai,2,none⟩=some (.string x.text):=e2;have d4:n.drew.cell? ⟨ai,3,none⟩=some (.slice u x.names.length l):=e3;have d5:n.drew.cell? ⟨ai,4,none⟩=some (.slice (some ⟨d,0,none⟩) 1 f):=e4;have br:(n.alloc (.cells #[.int .i64 x.op,.int .i64 x.num,.string x.text,.slice u x.names.length l,.slice (some ⟨d,0,none⟩) 1 f] 114)).drew.ownsRow B 114 5 (.slice aj (o).length ak) (o).length (Ir (o) (ad) (aK)):=by
   have:=s.nodes.own;rw[F] at this;exact (World.ownsRow.alloc this _).drew
  have aB:An (n.alloc (.cells #[.int .i64 x.op,.int .i64 x.num,.string x.text,.slice u x.names.length l,.slice (some ⟨d,0,none⟩) 1 f] 114)).drew c #[aw,aG] 127:=⟨(s.row.alloc (.cells #[.int .i64 x.op,.int .i64 x.num,.string x.text,.slice u x.names.length l,.slice (some ⟨d,0,none⟩) 1 f] 114)).out⟩
  have ca:(n.alloc (.cells #[.int .i64 x.op,.int .i64 x.num,.string x.text,.slice u x.names.length l,.slice (some ⟨d,0,none⟩) 1 f] 114)).drew.cell? ⟨c,0,none⟩=some (.slice aj (o).length ak):=by
   have:=aB.cell 0;rw[F] at this;exact this
  have bs:(Value.slice aj (o).length ak).ownBlock≠some c:=by rw[← F];exact Ad s.row s.nodes.own (by decide)
  have cb:B≤n.heap.size:=by have:=s.row.lt;have:=s.low;omega
  clear bo e1 e2 e3 e4 aR bp F;go_region_law (refine step_append_lies _ rfl _ _ 24 rfl B 114 bM (.agg #[.int .i64 0,.int .i64 0,.string ByteArray.empty,.slice none 0 0,.slice none 0 0]) 5 80 Tryz.underlying24 bN bO bP bQ rfl (by decide) (.slice aj (o).length ak) (o).length (Ir (o) (ad) (aK)) rfl br ⟨n.heap.size,0,none⟩ 1 1 [.int .i64 x.op,.int .i64 x.num,.string x.text,.slice u x.names.length l,.slice (some ⟨d,0,none⟩) 1 f] rfl rfl bq (by intro u hu;simp at hu;rcases hu with rfl | rfl | rfl | rfl | rfl <;> rfl) (by decide) (by unfold maxLen;omega) (by omega) (by simp;omega) _ rfl ?_;intro g7 c7 aS bt L bu cc;have aT:An aS c #[aw,aG] 127:=⟨(L.block c aB.lt (fun e=>bs e.symm)).trans aB.out⟩;have aC:=aT.cell 0;have aU:=aT.frozen 0)
  all_goals
   have bv:(n.alloc (.cells #[.int .i64 x.op,.int .i64 x.num,.string x.text,.slice u x.names.length l,.slice (some ⟨d,0,none⟩) 1 f] 114)).grownBy aS (aw).ownBlock:=by rw[Aa aQ];exact ⟨L.os,L.tape,L.output,L.size,L.block⟩
   obtain ⟨W,al⟩:=s.pushN (g7:=g7) (c7:=c7) (x:=x) (u:= .slice u x.names.length l) (k:= .slice (some ⟨d,0,none⟩) 1 f) _ cb (Ch aP (by omega)) (by rw[hx];exact Ch aA (by omega)) (Aa b7) (fun j J q hq e=>(z.ap q e).2 j J hq) (fun q hq=>(z.ap q hq).1) bv bt (by rw[Aa aQ];exact bu.imp id (fun e=>by rw[e];show (n.alloc _).heap.size=_;simp));have X:=aO.trans al;have aV:=Ab (show ∀ q,(.slice (some ⟨d,0,none⟩) 1 f:Value).ownBlock=some q→w.heap.size≤q from fun q hq=>(aA.lt q hq).1);clear bt L bu cc aT aB ca b9 d1 d2 d3 d4 d5 bq br bv al;clear aC aU;generalize aS.setCell ⟨c,0,none⟩ (.slice (some ⟨g7,0,none⟩) ((o).length+1) c7)=E at W X ⊢;clear bs;revert aV;revert X;revert W;revert E;revert c7;revert g7;exact b8.out
 intro g7 c7 E W X aV;clear az s aO aP aA;go_wp2_with fail
 obtain ⟨Y,Z,aD,_⟩:=Ah W.places;have ao:=Ab aD;have H:=W.below (CK E);have bw:=X.trans (Nk.of_all (CK E) (Nat.le_trans au X.low.size));have cd:E.drew.cell? ⟨c,1,none⟩=some (.slice Y (p).length Z):=by have:=H.row.cell 1;rw[aD] at this;exact this
 have ce:=H.row.frozen 1;have cf:(Value.slice Y (p).length Z).ownBlock≠some c:=by rw[← aD];exact Ad H.row H.places (by decide)
 have cg:=Ab (Aa bL E.drew);have bx:B≤E.drew.heap.size:=by have:=H.row.lt;have:=H.low;omega
 clear aD W X;go_region_law (first
  | (refine Gu rfl _ _ _ rfl 194 (.agg #[.int .i64 i,.int .i64 op,.iface t v]) rfl _ bU _ _ bJ _ bR bS bT (fun ch w'=>ch= .int .i64 i∧Below E.heap.size E.drew w') ((Aa cg).mono (fun r w' h=>⟨_,h.1,rfl,h.2⟩)) ?_;rintro cC I ⟨rfl,aW⟩;have Q:=H.below aW;have bz:=bw.trans (Nk.of_all aW bx);have ci:B≤I.heap.size:=Nat.le_trans bx aW.size;have cj:I.cell? ⟨c,1,none⟩=some (.slice Y (p).length Z):=(by have:=Q.row.cell 1;rw[Aa ao] at this;exact this);have ck:=Q.row.frozen 1;have bA:(I.alloc (.cells #[.int .i64 i] 3)).ownsRow B 3 1 (.slice Y (p).length Z) (p).length (AN (p)):=(by have:=Q.places;rw[Aa ao] at this;exact World.ownsRow.alloc this _);have cl:(I.alloc (.cells #[.int .i64 i] 3)).cell? ⟨c,1,none⟩=some (.slice Y (p).length Z):=(by have:=(Q.row.alloc (.cells #[.int .i64 i] 3)).cell 1;rw[Aa ao] at this;exact this);have bB:=World.news_of_block (heap_alloc_new I (.cells #[.int .i64 i] 3));have aX:An (I.alloc (.cells #[.int .i64 i] 3)) c #[_,_] 127:=Q.row.alloc (.cells #[.int .i64 i] 3))
  | (refine step_append_lies _ rfl _ _ 28 rfl B 3 a8 (.int .i64 0) 1 8 Tryz.underlying28 a9 ba bb bc rfl (by decide) (.slice Y (p).length Z) (p).length (AN (p)) rfl bA ⟨I.heap.size,0,none⟩ 1 1 [.int .i64 i] rfl rfl bB (by intro u hu;simp at hu;rcases hu with rfl;rfl) (by decide) (by unfold maxLen;omega) (by omega) (by simp;omega) _ rfl ?_;intro g6 bC aY bD aZ bE cm;have a0:An aY c #[_,_] 127:=⟨(aZ.block c aX.lt (fun e=>cf e.symm)).trans aX.out⟩;have aC:=a0.cell 1;have aU:=a0.frozen 1))
 all_goals
  have bF:(I.alloc (.cells #[.int .i64 i] 3)).grownBy aY (aG).ownBlock:=by rw[Aa ao];exact aZ
  obtain ⟨a2,bG⟩:=Q.pushP (g7:=g6) (c7:=bC) _ i ci bF bD (by rw[Aa ao];exact bE.imp id (fun e=>by rw[e];simp));have al:=bz.trans bG;clear bD aZ bE cm bF cd ce cj ck cl aC aU a0 aX bB bA H Q bw bz bG;generalize aY.setCell ⟨c,1,none⟩ (.slice (some ⟨g6,0,none⟩) ((p).length+1) bC)=cn at a2 al ⊢;have aC:cn.cell? ⟨c,0,none⟩=some (.slice (some ⟨g7,0,none⟩) ((o).length+1) c7):=a2.row.cell 0;go_wp2_with fail
  go_ret
  obtain ⟨aL,aM⟩:=Aa bX;obtain ⟨ac,U,V,ae,af⟩:=Aa bY;have co:x=⟨op,0,⟨#[]⟩, [], [((N.length+y - 1 :Nat):Int)]⟩:=by rw[Aa b3,ac,ar]
  have cp:o ++ [x]=N ++(S (N.length) ++ [⟨op,0,⟨#[]⟩, [], [((N.length+y - 1 :Nat):Int)]⟩]):=by rw[co,U];simp only[List.append_assoc]
  have cq:p ++ [i]=P ++(aa ++ [i]):=by rw[V];simp only[List.append_assoc]
  have cr:ad ++ [.slice u x.names.length l]=aE ++(aH ++ [.slice u x.names.length l]):=by rw[ae];simp only[List.append_assoc]
  have cs:aK ++ [.slice (some ⟨d,0,none⟩) 1 f]=aF ++(aI ++ [.slice (some ⟨d,0,none⟩) 1 f]):=by rw[af];simp only[List.append_assoc]
  refine ⟨congrArg (fun m:Nat=>Ending.returned (.int .i64 (m:Int))) ?_,_,_,aH ++ [.slice u x.names.length l],aI ++ [.slice (some ⟨d,0,none⟩) 1 f], ?_,al, ?_⟩
  ·simp only[List.length_append,List.length_cons,List.length_nil,ar];omega
  ·rw[← cp,← cq,← cr,← cs];exact a2
  ·exact BP (AM (Aa bZ) bW) (CJ (Aa aV))
end Go.Proofs.YtdldimphcpojoaaGreatDoor
