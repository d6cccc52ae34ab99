/-
  Numbering: a tree with kids is added (written by mknue.py). Own work.
-/
import Derived.Test.YtoplnhndilmlcaaGreatDoorNUC
import Derived.Test.YtoplnhndilmlcaaGreatDoorMXAK
namespace Go.Proofs.YtoplnhndilmlcaaGreatDoor
set_option maxRecDepth 100000
set_option maxHeartbeats 1600000
open Go.RowKit
set_option linter.unusedVariables false
theorem Aa8 (B c:Nat)(ao:World)(i op:Int)(t:TypeId)(v:Value)(y:Nat)(f1:Nat→List Nd)(Z:List Int)(aq:∀ b,(f1 b).length=y)(bH:Hid (XM B c ao (.iface t v) f1 Z y))(a3:Z.length=y)
  (a4:Hid (∀ ks w,Below B ao w→Calls Tryz.prog 116 #[.iface 143 (.agg #[.int .i64 i,.int .i64 op,.iface t v])] w (QS ⟨op,0,⟨#[]⟩, [],ks⟩ w))):
  XM B c ao (.iface 143 (.agg #[.int .i64 i,.int .i64 op,.iface t v])) (fun b=>f1 (b) ++ [⟨op,0,⟨#[]⟩, [], [((b+y - 1 :Nat):Int)]⟩]) (Z ++ [i]) (y+1):=by
 intro N P nd a5 aD aE w a6 aF cs ct;have hk:=Un i op t v;have bI:=Xr i op t v;have bJ:=Ab (LB i op t v);have bK:=Ab (QE i op t v);have a7:=Ab a6;have cu:=aF.row.lt;have ar:B≤w.heap.size:=by have:=aF.low;omega
 obtain ⟨bL,bM,bN,bO,bP⟩:=info_parts LJ;obtain ⟨a8,a9,ba,bb,bc⟩:=info_parts Po;have bQ:=Tryz.func222;have bR:(Tryz.f222.name== "runtime.NumGoroutine")=false:=by kernel_rfl
 have bS: Tryz.f222.body.isNone=false:=by kernel_rfl
 have bT: Tryz.prog.types.size+Made.depth= 409:=by kernel_rfl
 have cv:=Ab (And.intro aq a3);have cw:P.length+(y)+1≤65535:=by omega
 clear a6;go_enter Tryz.func79,Tryz.ntmps79
 go_wp2_with fail
 refine (Aa bJ _).mono ?_;rintro r bd ⟨g,rfl,cx,bU,au⟩;have S:Kn B c g w nd a5 N P nd a5 aD aE (.slice none 0 0) [] #[.iface t v] bd:=⟨aF.below au,Nk.of_all au ar,bU,World.ownsRow_nil _ _ _ _,fun q hq=>by cases hq⟩
 have cy:=Ab (rfl:N=N);have cz:∀ j,(J:j < ([]:List Value).length)→∀ q,([]:List Value)[j].ownBlock=some q→w.heap.size≤q:=fun j J=>absurd J (by simp);clear au;dsimp only;go_wp2_with fail
 refine wp_loop_rounds 2 ?_;rw[rounds_succ];have c1:bd.cell? ⟨g,0,none⟩=some (.iface t v):=S.R.cell 0;go_wp2_with fail
 refine (Aa bH _ _ _ _ _ _ _ ((Aa a7).trans S.K.low) S.C (by omega) (by omega)).mono ?_;rintro r bf ⟨rfl,av,aG,aH,aI,bg,bh,aJ⟩;have aa:=S.call bg bh aJ;have bV:=S.K.low.size;obtain ⟨a1,ab⟩:∃ a:Int,a=(((N).length+(f1 (N).length).length - 1 :Nat):Int):=⟨_,rfl⟩
 obtain ⟨o,T⟩:∃ M,M=N ++f1 (N).length:=⟨_,rfl⟩
 obtain ⟨p,U⟩:∃ M,M=P ++Z:=⟨_,rfl⟩
 obtain ⟨ac,ad⟩:∃ M,M=aD ++aH:=⟨_,rfl⟩
 obtain ⟨aK,ae⟩:∃ M,M=aE ++aI:=⟨_,rfl⟩
 rw[← T,← U,← ad,← ae] at aa;rw[← ab];have aL:o.length=(N).length+y:=by rw[T,List.length_append,aq]
 have aM:p.length=(P).length+y:=by rw[U,List.length_append,a3]
 have au:o.length+(1)≤65535:=by omega
 have cA:p.length+(1)≤65535:=by omega
 have bW:=Ab (And.intro aL aM);clear aL aM;have bX:=Ab (And.intro ab (And.intro T (And.intro U (And.intro ad ae))));have bY:=Ab aJ;clear ab T U ad ae aJ bg bh c1 S;dsimp only;go_wp2_with (at_builtin;refine wpList_append_lies _ rfl _ _ 30 rfl w.heap.size 3 a8 (.int .i64 0) 1 8 Tryz.underlying30 a9 ba bb bc rfl (by decide) _ _ _ rfl (World.ownsRow.alloc aa.O _) ⟨bf.heap.size,0,none⟩ 1 1 [.int .i64 a1] rfl rfl ?c1 ?c2 (by decide) ?c3 ?c4 ?c5 (bf.heap.size+1) (by simp) ?_)
 case c1=>exact Bn _ _ _ _ (by simp)
 case c2=>intro u hu;simp at hu;subst hu;rfl
 case c3=>unfold maxLen;simp
 case c4=>simp
 case c5=>have:=aa.K.low.size;simp;omega
 intro d f bZ bi bj bk b0;have z:=aa.app ar bi bj bk;clear aa bi bj bk b0;dsimp only[List.length_nil,List.length_cons,List.nil_append,List.cons_append,Nat.zero_add,Nat.reduceAdd] at z ⊢;go_wp2_with fail
 rw[rounds_succ];go_wp2_with fail
 obtain ⟨x,aw⟩:∃ x:Nd,x=⟨op,0,⟨#[]⟩, [], [a1]⟩:=⟨_,rfl⟩
 have b1:=Ab (show ∀ w,Below B ao w→Calls Tryz.prog 116 #[.iface 143 (.agg #[.int .i64 i,.int .i64 op,.iface t v])] w (QS x w) from fun w h=>by rw[aw];exact Aa a4 _ w h);have hx:x.kids= [a1]:=by rw[aw]
 have b2:=Ab aw;clear aw a4;have b3:=Ab ((Aa a7).trans z.K.low);have bl:B≤bZ.heap.size:=Nat.le_trans ar z.K.low.size;refine (Aa b1 _ (Aa b3)).mono ?_;rintro r A ⟨⟨u,l,rfl,ax⟩,af⟩;have bm:=z.C.below af;have bn:=z.K.trans (Nk.of_all af bl);have aN:=Ac (w':=A) z.O (fun q hq=>af.block q (z.O.lt q hq).2);have b4:=af.size;have ag:=(Below.refl A.heap.size A).alloc NLN (.cells #[.int .i64 x.op,.int .i64 x.num,.string x.text,.slice u x.names.length l,.slice (some ⟨d,0,none⟩) 1 f] 80);have ay:=Aj.new A #[.int .i64 x.op,.int .i64 x.num,.string x.text,.slice u x.names.length l,.slice (some ⟨d,0,none⟩) 1 f] 80;have s:=bm.below ag;have aO:=bn.trans (Nk.of_all ag (Nat.le_trans bl b4));have aP:=Ac (w':=A.alloc (.cells #[.int .i64 x.op,.int .i64 x.num,.string x.text,.slice u x.names.length l,.slice (some ⟨d,0,none⟩) 1 f] 80)) ax (fun q hq=>ag.block q (ax.lt q hq).2);have az:=Ac (w':=A.alloc (.cells #[.int .i64 x.op,.int .i64 x.num,.string x.text,.slice u x.names.length l,.slice (some ⟨d,0,none⟩) 1 f] 80)) aN (fun q hq=>ag.block q (aN.lt q hq).2);have b5:A.heap.size < (A.alloc (.cells #[.int .i64 x.op,.int .i64 x.num,.string x.text,.slice u x.names.length l,.slice (some ⟨d,0,none⟩) 1 f] 80)).heap.size:=by simp
 have b6:=Ab (show ∀ j,(J:j < (ac).length)→∀ q,(ac)[j].ownBlock=some q→(Value.slice u x.names.length l).ownBlock≠some q from fun j J q hq e=>by have:=(ax.lt q e).1;have:=(z.C.nodes.lts.2.1 j J q hq).2;omega);clear ax aN bm bn af ag;dsimp only;go_wp2_with fail
 generalize A.alloc (.cells #[.int .i64 x.op,.int .i64 x.num,.string x.text,.slice u x.names.length l,.slice (some ⟨d,0,none⟩) 1 f] 80)=n at s aO aP az ay b5 ⊢;generalize A.heap.size=ah at ay ⊢;obtain ⟨ai,aj,F,_⟩:=Af s.nodes.own;have aQ:=Ab F;clear F;apply VD
 ·intro b7;have F:=Aa aQ;obtain ⟨bo,e1,e2,e3,e4⟩:=LL ay;have aR:n.cell? ⟨c,0,none⟩=some (av):=s.row.cell 0;rw[F] at aR;have bp:=s.row.frozen 0;have bq:=World.news_of_block (heap_alloc_new n (.cells #[.int .i64 x.op,.int .i64 x.num,.string x.text,.slice u x.names.length l,.slice (some ⟨d,0,none⟩) 1 f] 80));have b8:n.drew.cell? ⟨c,0,none⟩=some (.slice ai (o).length aj)∧n.drew.frozen? ⟨c,0,none⟩=false:=⟨aR,bp⟩
  have d1:n.drew.cell? ⟨ah,0,none⟩=some (.int .i64 x.op):=bo;have d2:n.drew.cell? ⟨ah,1,none⟩=some (.int .i64 x.num):=e1;have d3:n.drew.cell? ⟨ah,2,none⟩=some (.string x.text):=e2;have d4:n.drew.cell? ⟨ah,3,none⟩=some (.slice u x.names.length l):=e3;have d5:n.drew.cell? ⟨ah,4,none⟩=some (.slice (some ⟨d,0,none⟩) 1 f):=e4;have br:(n.alloc (.cells #[.int .i64 x.op,.int .i64 x.num,.string x.text,.slice u x.names.length l,.slice (some ⟨d,0,none⟩) 1 f] 80)).drew.ownsRow B 80 5 (.slice ai (o).length aj) (o).length (DA (o) (ac) (aK)):=by
   have:=s.nodes.own;rw[F] at this;exact (World.ownsRow.alloc this _).drew
  have aA:Aj (n.alloc (.cells #[.int .i64 x.op,.int .i64 x.num,.string x.text,.slice u x.names.length l,.slice (some ⟨d,0,none⟩) 1 f] 80)).drew c #[av,aG] 161:=⟨(s.row.alloc (.cells #[.int .i64 x.op,.int .i64 x.num,.string x.text,.slice u x.names.length l,.slice (some ⟨d,0,none⟩) 1 f] 80)).out⟩
  have b9:(n.alloc (.cells #[.int .i64 x.op,.int .i64 x.num,.string x.text,.slice u x.names.length l,.slice (some ⟨d,0,none⟩) 1 f] 80)).drew.cell? ⟨c,0,none⟩=some (.slice ai (o).length aj):=by
   have:=aA.cell 0;rw[F] at this;exact this
  have bs:(Value.slice ai (o).length aj).ownBlock≠some c:=by rw[← F];exact Ad s.row s.nodes.own (by decide)
  have ca:B≤n.heap.size:=by have:=s.row.lt;have:=s.low;omega
  clear bo e1 e2 e3 e4 aR bp F;go_region_law (refine step_append_lies _ rfl _ _ 23 rfl B 80 bL (.agg #[.int .i64 0,.int .i64 0,.string ByteArray.empty,.slice none 0 0,.slice none 0 0]) 5 80 Tryz.underlying23 bM bN bO bP rfl (by decide) (.slice ai (o).length aj) (o).length (DA (o) (ac) (aK)) rfl br ⟨n.heap.size,0,none⟩ 1 1 [.int .i64 x.op,.int .i64 x.num,.string x.text,.slice u x.names.length l,.slice (some ⟨d,0,none⟩) 1 f] rfl rfl bq (by intro u hu;simp at hu;rcases hu with rfl | rfl | rfl | rfl | rfl <;> rfl) (by decide) (by unfold maxLen;omega) (by omega) (by simp;omega) _ rfl ?_;intro g7 c7 aS bt L bu cb;have aT:Aj aS c #[av,aG] 161:=⟨(L.block c aA.lt (fun e=>bs e.symm)).trans aA.out⟩;have aB:=aT.cell 0;have aU:=aT.frozen 0)
  all_goals
   have bv:(n.alloc (.cells #[.int .i64 x.op,.int .i64 x.num,.string x.text,.slice u x.names.length l,.slice (some ⟨d,0,none⟩) 1 f] 80)).grownBy aS (av).ownBlock:=by rw[Aa aQ];exact ⟨L.os,L.tape,L.output,L.size,L.block⟩
   obtain ⟨V,ak⟩:=s.pushN (g7:=g7) (c7:=c7) (x:=x) (u:= .slice u x.names.length l) (k:= .slice (some ⟨d,0,none⟩) 1 f) _ ca (CA aP (by omega)) (by rw[hx];exact CA az (by omega)) (Aa b6) (fun j J q hq e=>(z.ap q e).2 j J hq) (fun q hq=>(z.ap q hq).1) bv bt (by rw[Aa aQ];exact bu.imp id (fun e=>by rw[e];show (n.alloc _).heap.size=_;simp));have W:=aO.trans ak;have aV:=Ab (show ∀ q,(.slice (some ⟨d,0,none⟩) 1 f:Value).ownBlock=some q→w.heap.size≤q from fun q hq=>(az.lt q hq).1);clear bt L bu cb aT aA b9 b8 d1 d2 d3 d4 d5 bq br bv ak;clear aB aU;generalize aS.setCell ⟨c,0,none⟩ (.slice (some ⟨g7,0,none⟩) ((o).length+1) c7)=E at V W ⊢;clear bs;revert aV;revert W;revert V;revert E;revert c7;revert g7;exact b7.out
 intro g7 c7 E V W aV;clear ay s aO aP az;go_wp2_with fail
 obtain ⟨X,Y,aC,_⟩:=Af V.places;have al:=Ab aC;have H:=V.below (Cb E);have bw:=W.trans (Nk.of_all (Cb E) (Nat.le_trans ar W.low.size));have cc:E.drew.cell? ⟨c,1,none⟩=some (.slice X (p).length Y):=by have:=H.row.cell 1;rw[aC] at this;exact this
 have cd:=H.row.frozen 1;have ce:(Value.slice X (p).length Y).ownBlock≠some c:=by rw[← aC];exact Ad H.row H.places (by decide)
 have cf:=Ab (Aa bK E.drew);have bx:B≤E.drew.heap.size:=by have:=H.row.lt;have:=H.low;omega
 clear aC V W;go_region_law (first
  | (refine G5 rfl _ _ _ rfl 143 (.agg #[.int .i64 i,.int .i64 op,.iface t v]) rfl _ bT _ _ bI _ bQ bR bS (fun cg w'=>cg= .int .i64 i∧Below E.heap.size E.drew w') ((Aa cf).mono (fun r w' h=>⟨_,h.1,rfl,h.2⟩)) ?_;rintro cB I ⟨rfl,aW⟩;have Q:=H.below aW;have bz:=bw.trans (Nk.of_all aW bx);have ch:B≤I.heap.size:=Nat.le_trans bx aW.size;have ci:I.cell? ⟨c,1,none⟩=some (.slice X (p).length Y):=(by have:=Q.row.cell 1;rw[Aa al] at this;exact this);have cj:=Q.row.frozen 1;have bA:(I.alloc (.cells #[.int .i64 i] 3)).ownsRow B 3 1 (.slice X (p).length Y) (p).length (At (p)):=(by have:=Q.places;rw[Aa al] at this;exact World.ownsRow.alloc this _);have ck:(I.alloc (.cells #[.int .i64 i] 3)).cell? ⟨c,1,none⟩=some (.slice X (p).length Y):=(by have:=(Q.row.alloc (.cells #[.int .i64 i] 3)).cell 1;rw[Aa al] at this;exact this);have bB:=World.news_of_block (heap_alloc_new I (.cells #[.int .i64 i] 3));have aX:Aj (I.alloc (.cells #[.int .i64 i] 3)) c #[_,_] 161:=Q.row.alloc (.cells #[.int .i64 i] 3))
  | (refine step_append_lies _ rfl _ _ 30 rfl B 3 a8 (.int .i64 0) 1 8 Tryz.underlying30 a9 ba bb bc rfl (by decide) (.slice X (p).length Y) (p).length (At (p)) rfl bA ⟨I.heap.size,0,none⟩ 1 1 [.int .i64 i] rfl rfl bB (by intro u hu;simp at hu;rcases hu with rfl;rfl) (by decide) (by unfold maxLen;omega) (by omega) (by simp;omega) _ rfl ?_;intro g6 bC aY bD aZ bE cl;have a0:Aj aY c #[_,_] 161:=⟨(aZ.block c aX.lt (fun e=>ce e.symm)).trans aX.out⟩;have aB:=a0.cell 1;have aU:=a0.frozen 1))
 all_goals
  have bF:(I.alloc (.cells #[.int .i64 i] 3)).grownBy aY (aG).ownBlock:=by rw[Aa al];exact aZ
  obtain ⟨a2,bG⟩:=Q.pushP (g7:=g6) (c7:=bC) _ i ch bF bD (by rw[Aa al];exact bE.imp id (fun e=>by rw[e];simp));have ak:=bz.trans bG;clear bD aZ bE cl bF cc cd ci cj ck aB aU a0 aX bB bA H Q bw bz bG;generalize aY.setCell ⟨c,1,none⟩ (.slice (some ⟨g6,0,none⟩) ((p).length+1) bC)=cm at a2 ak ⊢;have aB:cm.cell? ⟨c,0,none⟩=some (.slice (some ⟨g7,0,none⟩) ((o).length+1) c7):=a2.row.cell 0;go_wp2_with fail
  go_ret
  obtain ⟨aL,aM⟩:=Aa bW;obtain ⟨ab,T,U,ad,ae⟩:=Aa bX;have cn:x=⟨op,0,⟨#[]⟩, [], [((N.length+y - 1 :Nat):Int)]⟩:=by rw[Aa b2,ab,aq]
  have co:o ++ [x]=N ++(f1 (N.length) ++ [⟨op,0,⟨#[]⟩, [], [((N.length+y - 1 :Nat):Int)]⟩]):=by rw[cn,T];simp only[List.append_assoc]
  have cp:p ++ [i]=P ++(Z ++ [i]):=by rw[U];simp only[List.append_assoc]
  have cq:ac ++ [.slice u x.names.length l]=aD ++(aH ++ [.slice u x.names.length l]):=by rw[ad];simp only[List.append_assoc]
  have cr:aK ++ [.slice (some ⟨d,0,none⟩) 1 f]=aE ++(aI ++ [.slice (some ⟨d,0,none⟩) 1 f]):=by rw[ae];simp only[List.append_assoc]
  refine ⟨congrArg (fun m:Nat=>Ending.returned (.int .i64 (m:Int))) ?_,_,_,aH ++ [.slice u x.names.length l],aI ++ [.slice (some ⟨d,0,none⟩) 1 f], ?_,ak, ?_⟩
  ·simp only[List.length_append,List.length_cons,List.length_nil,aq];omega
  ·rw[← co,← cp,← cq,← cr];exact a2
  ·exact FI (Ey (Aa bY) bV) (L8 (Aa aV))
end Go.Proofs.YtoplnhndilmlcaaGreatDoor
