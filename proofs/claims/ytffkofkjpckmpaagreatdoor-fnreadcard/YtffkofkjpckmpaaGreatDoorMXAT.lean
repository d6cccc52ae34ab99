/-
  NUE1, NUE2, NUE3. Own work.
-/
import Derived.Test.YtffkofkjpckmpaaGreatDoorMXAQ
namespace Go.Proofs.YtffkofkjpckmpaaGreatDoor
set_option maxRecDepth 100000
set_option maxHeartbeats 1600000
open Go.RowKit
set_option linter.unusedVariables false
theorem Acb (B c:Nat)(ao:World)(i op:Int)(t:TypeId)(v:Value)(y:Nat)(f1:Nat→List Nd)(Z:List Int)(aq:∀ b,(f1 b).length=y)(bH:Hid (Zd B c ao (.iface t v) f1 Z y))(a3:Z.length=y)
  (a4:Hid (∀ ks w,Below B ao w→Calls Tryz.prog 128 #[.iface 188 (.agg #[.int .i64 i,.int .i64 op,.iface t v])] w (Sm ⟨op,0,⟨#[]⟩, [],ks⟩ w))):
  Zd B c ao (.iface 188 (.agg #[.int .i64 i,.int .i64 op,.iface t v])) (fun b=>f1 (b) ++ [⟨op,0,⟨#[]⟩, [], [((b+y - 1 :Nat):Int)]⟩]) (Z ++ [i]) (y+1):=by
 intro N P nd a5 aD aE w a6 aF cr cs;have hk:=VF i op t v;have hp:=Y0 i op t v;have bI:=Ab (MH i op t v);have bJ:=Ab (Sd i op t v);have a7:=Ab a6;have ct:=aF.row.lt;have ar:B≤w.heap.size:=by have:=aF.low;omega
 obtain ⟨bK,bL,bM,bN,bO⟩:=info_parts KI;obtain ⟨a8,a9,ba,bb,bc⟩:=info_parts MO;have bP:=Tryz.func246;have bQ:(Tryz.f246.name== "runtime.NumGoroutine")=false:=by kernel_rfl
 have bR: Tryz.f246.body.isNone=false:=by kernel_rfl
 have bS: Tryz.prog.types.size+Made.depth= 429:=by kernel_rfl
 have cu:=Ab (And.intro aq a3);have cv:P.length+(y)+1≤65535:=by omega
 clear a6;go_enter Tryz.func86,Tryz.ntmps86
 go_wp2_with fail
 refine (Aa bI _).mono ?_;rintro r bd ⟨g,rfl,cw,bT,au⟩;have S:Kn B c g w nd a5 N P nd a5 aD aE (.slice none 0 0) [] #[.iface t v] bd:=⟨aF.below au,Nk.of_all au ar,bT,World.ownsRow_nil _ _ _ _,fun q hq=>by cases hq⟩
 have cx:=Ab (rfl:N=N);have cy:∀ j,(J:j < ([]:List Value).length)→∀ q,([]:List Value)[j].ownBlock=some q→w.heap.size≤q:=fun j J=>absurd J (by simp);clear au;dsimp only;go_wp2_with fail
 refine wp_loop_rounds 2 ?_;rw[rounds_succ];have c1:bd.cell? ⟨g,0,none⟩=some (.iface t v):=S.R.cell 0;go_wp2_with fail
 refine (Aa bH _ _ _ _ _ _ _ ((Aa a7).trans S.K.low) S.C (by omega) (by omega)).mono ?_;rintro r bf ⟨rfl,av,aG,aH,aI,bg,bh,aJ⟩;have aa:=S.call bg bh aJ;have bU:=S.K.low.size;obtain ⟨a1,ab⟩:∃ a:Int,a=(((N).length+(f1 (N).length).length - 1 :Nat):Int):=⟨_,rfl⟩
 obtain ⟨o,T⟩:∃ M,M=N ++f1 (N).length:=⟨_,rfl⟩
 obtain ⟨p,U⟩:∃ M,M=P ++Z:=⟨_,rfl⟩
 obtain ⟨ac,ad⟩:∃ M,M=aD ++aH:=⟨_,rfl⟩
 obtain ⟨aK,ae⟩:∃ M,M=aE ++aI:=⟨_,rfl⟩
 rw[← T,← U,← ad,← ae] at aa;rw[← ab];have aL:o.length=(N).length+y:=by rw[T,zB,aq]
 have aM:p.length=(P).length+y:=by rw[U,zB,a3]
 have au:o.length+(1)≤65535:=by omega
 have cz:p.length+(1)≤65535:=by omega
 have bV:=Ab (And.intro aL aM);clear aL aM;have bW:=Ab (And.intro ab (And.intro T (And.intro U (And.intro ad ae))));have bX:=Ab aJ;clear ab T U ad ae aJ bg bh c1 S;dsimp only;go_wp2_with (at_builtin;refine wpList_append_lies _ rfl _ _ 28 rfl w.heap.size 3 a8 (.int .i64 0) 1 8 Tryz.underlying28 a9 ba bb bc rfl (by decide) _ _ _ rfl (World.ownsRow.alloc aa.O _) ⟨bf.heap.size,0,none⟩ 1 1 [.int .i64 a1] rfl rfl ?c1 ?c2 (by decide) ?c3 ?c4 ?c5 (bf.heap.size+1) (by simp) ?_)
 case c1=>exact BD _ _ _ _ (by simp)
 case c2=>intro u hu;simp at hu;subst hu;rfl
 case c3=>unfold maxLen;simp
 case c4=>simp
 case c5=>have:=aa.K.low.size;simp;omega
 intro d f bY bi bj bk bZ;have z:=aa.app ar bi bj bk;clear aa bi bj bk bZ;dsimp only[List.length_nil,List.length_cons,List.nil_append,List.cons_append,zW,Nat.reduceAdd] at z ⊢;go_wp2_with fail
 rw[rounds_succ];go_wp2_with fail
 obtain ⟨x,aw⟩:∃ x:Nd,x=⟨op,0,⟨#[]⟩, [], [a1]⟩:=⟨_,rfl⟩
 have b0:=Ab (show ∀ w,Below B ao w→Calls Tryz.prog 128 #[.iface 188 (.agg #[.int .i64 i,.int .i64 op,.iface t v])] w (Sm x w) from fun w h=>by rw[aw];exact Aa a4 _ w h);have hx:x.kids= [a1]:=by rw[aw]
 have b1:=Ab aw;clear aw a4;have b2:=Ab ((Aa a7).trans z.K.low);have bl:B≤bY.heap.size:=zL ar z.K.low.size;refine (Aa b0 _ (Aa b2)).mono ?_;rintro r A ⟨⟨u,l,rfl,ax⟩,af⟩;have bm:=z.C.below af;have bn:=z.K.trans (Nk.of_all af bl);have aN:=Ac (w':=A) z.O (fun q hq=>af.block q (z.O.lt q hq).2);have b3:=af.size;have ag:=(Below.refl A.heap.size A).alloc NLN (.cells #[.int .i64 x.op,.int .i64 x.num,.string x.text,.slice u x.names.length l,.slice (some ⟨d,0,none⟩) 1 f] 124);have ay:=Am.new A #[.int .i64 x.op,.int .i64 x.num,.string x.text,.slice u x.names.length l,.slice (some ⟨d,0,none⟩) 1 f] 124;have s:=bm.below ag;have aO:=bn.trans (Nk.of_all ag (zL bl b3));have aP:=Ac (w':=A.alloc (.cells #[.int .i64 x.op,.int .i64 x.num,.string x.text,.slice u x.names.length l,.slice (some ⟨d,0,none⟩) 1 f] 124)) ax (fun q hq=>ag.block q (ax.lt q hq).2);have az:=Ac (w':=A.alloc (.cells #[.int .i64 x.op,.int .i64 x.num,.string x.text,.slice u x.names.length l,.slice (some ⟨d,0,none⟩) 1 f] 124)) aN (fun q hq=>ag.block q (aN.lt q hq).2);have b4:A.heap.size < (A.alloc (.cells #[.int .i64 x.op,.int .i64 x.num,.string x.text,.slice u x.names.length l,.slice (some ⟨d,0,none⟩) 1 f] 124)).heap.size:=by simp
 have b5:=Ab (show ∀ j,(J:j < (ac).length)→∀ q,(ac)[j].ownBlock=some q→(Value.slice u x.names.length l).ownBlock≠some q from fun j J q hq e=>by have:=(ax.lt q e).1;have:=(z.C.nodes.lts.2.1 j J q hq).2;omega);clear ax aN bm bn af ag;dsimp only;go_wp2_with fail
 generalize A.alloc (.cells #[.int .i64 x.op,.int .i64 x.num,.string x.text,.slice u x.names.length l,.slice (some ⟨d,0,none⟩) 1 f] 124)=n at s aO aP az ay b4 ⊢;generalize A.heap.size=ah at ay ⊢;obtain ⟨ai,aj,F,_⟩:=Af s.nodes.own;have aQ:=Ab F;clear F;apply Ut
 ·intro b6;have F:=Aa aQ;obtain ⟨bo,e1,e2,e3,e4⟩:=Lu ay;have aR:n.cell? ⟨c,0,none⟩=some (av):=s.row.cell 0;rw[F] at aR;have bp:=s.row.frozen 0;have bq:=World.news_of_block (heap_alloc_new n (.cells #[.int .i64 x.op,.int .i64 x.num,.string x.text,.slice u x.names.length l,.slice (some ⟨d,0,none⟩) 1 f] 124));have b7:n.drew.cell? ⟨c,0,none⟩=some (.slice ai (o).length aj)∧n.drew.frozen? ⟨c,0,none⟩=false:=⟨aR,bp⟩
  have d1:n.drew.cell? ⟨ah,0,none⟩=some (.int .i64 x.op):=bo;have d2:n.drew.cell? ⟨ah,1,none⟩=some (.int .i64 x.num):=e1;have d3:n.drew.cell? ⟨ah,2,none⟩=some (.string x.text):=e2;have d4:n.drew.cell? ⟨ah,3,none⟩=some (.slice u x.names.length l):=e3;have d5:n.drew.cell? ⟨ah,4,none⟩=some (.slice (some ⟨d,0,none⟩) 1 f):=e4;have br:(n.alloc (.cells #[.int .i64 x.op,.int .i64 x.num,.string x.text,.slice u x.names.length l,.slice (some ⟨d,0,none⟩) 1 f] 124)).drew.ownsRow B 124 5 (.slice ai (o).length aj) (o).length (JM (o) (ac) (aK)):=by
   have:=s.nodes.own;rw[F] at this;exact (World.ownsRow.alloc this _).drew
  have aA:Am (n.alloc (.cells #[.int .i64 x.op,.int .i64 x.num,.string x.text,.slice u x.names.length l,.slice (some ⟨d,0,none⟩) 1 f] 124)).drew c #[av,aG] 154:=⟨(s.row.alloc (.cells #[.int .i64 x.op,.int .i64 x.num,.string x.text,.slice u x.names.length l,.slice (some ⟨d,0,none⟩) 1 f] 124)).out⟩
  have b8:(n.alloc (.cells #[.int .i64 x.op,.int .i64 x.num,.string x.text,.slice u x.names.length l,.slice (some ⟨d,0,none⟩) 1 f] 124)).drew.cell? ⟨c,0,none⟩=some (.slice ai (o).length aj):=by
   have:=aA.cell 0;rw[F] at this;exact this
  have bs:(Value.slice ai (o).length aj).ownBlock≠some c:=by rw[← F];exact Ad s.row s.nodes.own (by decide)
  have b9:B≤n.heap.size:=by have:=s.row.lt;have:=s.low;omega
  clear bo e1 e2 e3 e4 aR bp F;go_region_law (refine step_append_lies _ rfl _ _ 24 rfl B 124 bK (.agg #[.int .i64 0,.int .i64 0,.string ByteArray.empty,.slice none 0 0,.slice none 0 0]) 5 80 Tryz.underlying24 bL bM bN bO rfl (by decide) (.slice ai (o).length aj) (o).length (JM (o) (ac) (aK)) rfl br ⟨n.heap.size,0,none⟩ 1 1 [.int .i64 x.op,.int .i64 x.num,.string x.text,.slice u x.names.length l,.slice (some ⟨d,0,none⟩) 1 f] rfl rfl bq (by intro u hu;simp at hu;rcases hu with rfl | rfl | rfl | rfl | rfl <;> rfl) (by decide) (by unfold maxLen;omega) (by omega) (by simp;omega) _ rfl ?_;intro g7 c7 aS bt L bu ca;have aT:Am aS c #[av,aG] 154:=⟨(L.block c aA.lt (fun e=>bs e.symm)).trans aA.out⟩;have aB:=aT.cell 0;have aU:=aT.frozen 0)
  all_goals
   have bv:(n.alloc (.cells #[.int .i64 x.op,.int .i64 x.num,.string x.text,.slice u x.names.length l,.slice (some ⟨d,0,none⟩) 1 f] 124)).grownBy aS (av).ownBlock:=by rw[Aa aQ];exact ⟨L.os,L.tape,L.output,L.size,L.block⟩
   obtain ⟨V,ak⟩:=s.pushN (g7:=g7) (c7:=c7) (x:=x) (u:= .slice u x.names.length l) (k:= .slice (some ⟨d,0,none⟩) 1 f) _ b9 (Cx aP (by omega)) (by rw[hx];exact Cx az (by omega)) (Aa b5) (fun j J q hq e=>(z.ap q e).2 j J hq) (fun q hq=>(z.ap q hq).1) bv bt (by rw[Aa aQ];exact bu.imp id (fun e=>by rw[e];show (n.alloc _).heap.size=_;simp));have W:=aO.trans ak;have aV:=Ab (show ∀ q,(.slice (some ⟨d,0,none⟩) 1 f:Value).ownBlock=some q→w.heap.size≤q from fun q hq=>(az.lt q hq).1);clear bt L bu ca aT aA b8 b7 d1 d2 d3 d4 d5 bq br bv ak;clear aB aU;generalize aS.setCell ⟨c,0,none⟩ (.slice (some ⟨g7,0,none⟩) ((o).length+1) c7)=E at V W ⊢;clear bs;revert aV;revert W;revert V;revert E;revert c7;revert g7;exact b6.out
 intro g7 c7 E V W aV;clear ay s aO aP az;go_wp2_with fail
 obtain ⟨X,Y,aC,_⟩:=Af V.places;have al:=Ab aC;have H:=V.below (Di E);have bw:=W.trans (Nk.of_all (Di E) (zL ar W.low.size));have cb:E.drew.cell? ⟨c,1,none⟩=some (.slice X (p).length Y):=by have:=H.row.cell 1;rw[aC] at this;exact this
 have cc:=H.row.frozen 1;have cd:(Value.slice X (p).length Y).ownBlock≠some c:=by rw[← aC];exact Ad H.row H.places (by decide)
 have ce:=Ab (Aa bJ E.drew);have bx:B≤E.drew.heap.size:=by have:=H.row.lt;have:=H.low;omega
 clear aC V W;go_region_law (first
  |(refine Iy rfl _ _ _ rfl 188 (.agg #[.int .i64 i,.int .i64 op,.iface t v]) rfl _ bS _ _ hp _ bP bQ bR (fun cf w'=>cf= .int .i64 i∧Below E.heap.size E.drew w') ((Aa ce).mono (fun r w' h=>⟨_,h.1,rfl,h.2⟩)) ?_;rintro cA I ⟨rfl,aW⟩;have Q:=H.below aW;have bz:=bw.trans (Nk.of_all aW bx);have cg:B≤I.heap.size:=zL bx aW.size;have ch:I.cell? ⟨c,1,none⟩=some (.slice X (p).length Y):=(by have:=Q.row.cell 1;rw[Aa al] at this;exact this);have ci:=Q.row.frozen 1;have bA:(I.alloc (.cells #[.int .i64 i] 3)).ownsRow B 3 1 (.slice X (p).length Y) (p).length (AF (p)):=(by have:=Q.places;rw[Aa al] at this;exact World.ownsRow.alloc this _);have cj:(I.alloc (.cells #[.int .i64 i] 3)).cell? ⟨c,1,none⟩=some (.slice X (p).length Y):=(by have:=(Q.row.alloc (.cells #[.int .i64 i] 3)).cell 1;rw[Aa al] at this;exact this);have bB:=World.news_of_block (heap_alloc_new I (.cells #[.int .i64 i] 3));have aX:Am (I.alloc (.cells #[.int .i64 i] 3)) c #[_,_] 154:=Q.row.alloc (.cells #[.int .i64 i] 3))
  |(refine step_append_lies _ rfl _ _ 28 rfl B 3 a8 (.int .i64 0) 1 8 Tryz.underlying28 a9 ba bb bc rfl (by decide) (.slice X (p).length Y) (p).length (AF (p)) rfl bA ⟨I.heap.size,0,none⟩ 1 1 [.int .i64 i] rfl rfl bB (by intro u hu;simp at hu;rcases hu with rfl;rfl) (by decide) (by unfold maxLen;omega) (by omega) (by simp;omega) _ rfl ?_;intro g6 bC aY bD aZ bE ck;have a0:Am aY c #[_,_] 154:=⟨(aZ.block c aX.lt (fun e=>cd e.symm)).trans aX.out⟩;have aB:=a0.cell 1;have aU:=a0.frozen 1))
 all_goals
  have bF:(I.alloc (.cells #[.int .i64 i] 3)).grownBy aY (aG).ownBlock:=by rw[Aa al];exact aZ
  obtain ⟨a2,bG⟩:=Q.pushP (g7:=g6) (c7:=bC) _ i cg bF bD (by rw[Aa al];exact bE.imp id (fun e=>by rw[e];simp));have ak:=bz.trans bG;clear bD aZ bE ck bF cb cc ch ci cj aB aU a0 aX bB bA H Q bw bz bG;generalize aY.setCell ⟨c,1,none⟩ (.slice (some ⟨g6,0,none⟩) ((p).length+1) bC)=cl at a2 ak ⊢;have aB:cl.cell? ⟨c,0,none⟩=some (.slice (some ⟨g7,0,none⟩) ((o).length+1) c7):=a2.row.cell 0;go_wp2_with fail
  go_ret
  obtain ⟨aL,aM⟩:=Aa bV;obtain ⟨ab,T,U,ad,ae⟩:=Aa bW;have cm:x=⟨op,0,⟨#[]⟩, [], [((N.length+y - 1 :Nat):Int)]⟩:=by rw[Aa b1,ab,aq]
  have cn:o ++ [x]=N ++(f1 (N.length) ++ [⟨op,0,⟨#[]⟩, [], [((N.length+y - 1 :Nat):Int)]⟩]):=by rw[cm,T];simp only[zC]
  have co:p ++ [i]=P ++(Z ++ [i]):=by rw[U];simp only[zC]
  have cp:ac ++ [.slice u x.names.length l]=aD ++(aH ++ [.slice u x.names.length l]):=by rw[ad];simp only[zC]
  have cq:aK ++ [.slice (some ⟨d,0,none⟩) 1 f]=aE ++(aI ++ [.slice (some ⟨d,0,none⟩) 1 f]):=by rw[ae];simp only[zC]
  refine ⟨congrArg (fun m:Nat=>Ending.returned (.int .i64 (m:Int))) ?_,_,_,aH ++ [.slice u x.names.length l],aI ++ [.slice (some ⟨d,0,none⟩) 1 f], ?_,ak, ?_⟩
  ·simp only[zB,List.length_cons,List.length_nil,aq];omega
  ·rw[← cn,← co,← cp,← cq];exact a2
  ·exact CN (Bi (Aa bX) bU) (EB (Aa aV))
theorem AaL (B c:Nat)(ah:World)(i op:Int)(y:TypeId)(z:Value)(o:Nat)(f1:Nat→List Nd)(ai:List Int)(aG:∀ b,(f1 b).length=o)(b8:Hid (Zd B c ah (.iface y z) f1 ai o))(bu:ai.length=o)(A:TypeId)(E:Value)(t:Nat)(f2:Nat→List Nd)(aj:List Int)(aH:∀ b,(f2 b).length=t)(b9:Hid (Zd B c ah (.iface A E) f2 aj t))(bv:aj.length=t)
  (bw:Hid (∀ ks w,Below B ah w→Calls Tryz.prog 128 #[.iface 191 (.agg #[.int .i64 i,.int .i64 op,.iface y z,.iface A E])] w (Sm ⟨op,0,⟨#[]⟩, [],ks⟩ w))):
  Zd B c ah (.iface 191 (.agg #[.int .i64 i,.int .i64 op,.iface y z,.iface A E])) (fun b=>f1 (b) ++f2 (b+o) ++ [⟨op,0,⟨#[]⟩, [], [((b+o - 1 :Nat):Int),((b+o+t - 1 :Nat):Int)]⟩]) (ai ++aj ++ [i]) (o+t+1):=by
 intro N P nd bx aS aT w bz aU c6 c8;have hk:=RM i op y z A E;have hp:=WZ i op y z A E;have ca:=Ab (Lq i op y z A E);have cb:=Ab (Qq i op y z A E);have aV:=Ab bz;have c9:=aU.row.lt;have ak:B≤w.heap.size:=by have:=aU.low;omega
 obtain ⟨cc,cd,ce,cf,cg⟩:=info_parts KI;obtain ⟨aW,aX,aY,aZ,a0⟩:=info_parts MO;have ch:=Tryz.func248;have ci:(Tryz.f248.name== "runtime.NumGoroutine")=false:=by kernel_rfl
 have cj: Tryz.f248.body.isNone=false:=by kernel_rfl
 have ck: Tryz.prog.types.size+Made.depth= 429:=by kernel_rfl
 have da:=Ab (And.intro aG (And.intro aH (And.intro bu bv)));have db:P.length+(o+t)+1≤65535:=by omega
 clear bz;go_enter Tryz.func86,Tryz.ntmps86
 go_wp2_with fail
 refine (Aa ca _).mono ?_;rintro r bA ⟨g,rfl,dc,cl,aI⟩;have X:Kn B c g w nd bx N P nd bx aS aT (.slice none 0 0) [] #[.iface y z,.iface A E] bA:=⟨aU.below aI,Nk.of_all aI ak,cl,World.ownsRow_nil _ _ _ _,fun q hq=>by cases hq⟩
 have dd:=Ab (rfl:N=N);have de:∀ j,(S:j < ([]:List Value).length)→∀ q,([]:List Value)[j].ownBlock=some q→w.heap.size≤q:=fun j S=>absurd S (by simp);clear aI;dsimp only;go_wp2_with fail
 refine wp_loop_rounds 3 ?_;rw[rounds_succ];have c1:bA.cell? ⟨g,0,none⟩=some (.iface y z):=X.R.cell 0;go_wp2_with fail
 refine (Aa b8 _ _ _ _ _ _ _ ((Aa aV).trans X.K.low) X.C (by omega) (by omega)).mono ?_;rintro r bB ⟨rfl,df,dg,a3,a4,bC,bD,a5⟩;have al:=X.call bC bD a5;have cm:=X.K.low.size;obtain ⟨a1,ao⟩:∃ a:Int,a=(((N).length+(f1 (N).length).length - 1 :Nat):Int):=⟨_,rfl⟩
 obtain ⟨T,Y⟩:∃ M,M=N ++f1 (N).length:=⟨_,rfl⟩
 obtain ⟨aJ,Z⟩:∃ M,M=P ++ai:=⟨_,rfl⟩
 obtain ⟨cn,aq⟩:∃ M,M=aS ++a3:=⟨_,rfl⟩
 obtain ⟨co,ar⟩:∃ M,M=aT ++a4:=⟨_,rfl⟩
 rw[← Y,← Z,← aq,← ar] at al;rw[← ao];have au:T.length=(N).length+o:=by rw[Y,zB,aG]
 have a6:aJ.length=(P).length+o:=by rw[Z,zB,bu]
 have aI:T.length+(t+1)≤65535:=by omega
 have dh:aJ.length+(t+1)≤65535:=by omega
 have cp:=Ab (And.intro au a6);clear au a6;have cq:=Ab (And.intro ao (And.intro Y (And.intro Z (And.intro aq ar))));have cr:=Ab a5;clear ao Y Z aq ar a5 bC bD c1 X;dsimp only;go_wp2_with (at_builtin;refine wpList_append_lies _ rfl _ _ 28 rfl w.heap.size 3 aW (.int .i64 0) 1 8 Tryz.underlying28 aX aY aZ a0 rfl (by decide) _ _ _ rfl (World.ownsRow.alloc al.O _) ⟨bB.heap.size,0,none⟩ 1 1 [.int .i64 a1] rfl rfl ?c1 ?c2 (by decide) ?c3 ?c4 ?c5 (bB.heap.size+1) (by simp) ?_)
 case c1=>exact BD _ _ _ _ (by simp)
 case c2=>intro u hu;simp at hu;subst hu;rfl
 case c3=>unfold maxLen;simp
 case c4=>simp
 case c5=>have:=al.K.low.size;simp;omega
 intro di dj cs bE bF bG ct;have U:=al.app ak bE bF bG;clear al bE bF bG ct;dsimp only[List.length_nil,List.length_cons,List.nil_append,List.cons_append,zW,Nat.reduceAdd] at U ⊢;go_wp2_with fail
 rw[rounds_succ];have c2:cs.cell? ⟨g,1,none⟩=some (.iface A E):=U.R.cell 1;go_wp2_with fail
 refine (Aa b9 _ _ _ _ _ _ _ ((Aa aV).trans U.K.low) U.C (by omega) (by omega)).mono ?_;rintro r bH ⟨rfl,aK,a7,a8,a9,bI,bJ,ba⟩;have av:=U.call bI bJ ba;have cu:=U.K.low.size;obtain ⟨a2,aw⟩:∃ a:Int,a=(((T).length+(f2 (T).length).length - 1 :Nat):Int):=⟨_,rfl⟩
 obtain ⟨p,aa⟩:∃ M,M=T ++f2 (T).length:=⟨_,rfl⟩
 obtain ⟨s,ab⟩:∃ M,M=aJ ++aj:=⟨_,rfl⟩
 obtain ⟨ax,ay⟩:∃ M,M=cn ++a8:=⟨_,rfl⟩
 obtain ⟨bb,az⟩:∃ M,M=co ++a9:=⟨_,rfl⟩
 rw[← aa,← ab,← ay,← az] at av;rw[← aw];have bc:p.length=(T).length+t:=by rw[aa,zB,aH]
 have bd:s.length=(aJ).length+t:=by rw[ab,zB,bv]
 have ac:p.length+(1)≤65535:=by omega
 have dk:s.length+(1)≤65535:=by omega
 have cv:=Ab (And.intro bc bd);clear bc bd;have cw:=Ab (And.intro aw (And.intro aa (And.intro ab (And.intro ay az))));have cx:=Ab ba;clear aw aa ab ay az ba bI bJ c2 U;dsimp only;go_wp2_with (at_builtin;refine wpList_append_lies _ rfl _ _ 28 rfl w.heap.size 3 aW (.int .i64 0) 1 8 Tryz.underlying28 aX aY aZ a0 rfl (by decide) _ _ _ rfl (World.ownsRow.alloc av.O _) ⟨bH.heap.size,0,none⟩ 1 1 [.int .i64 a2] rfl rfl ?c1 ?c2 (by decide) ?c3 ?c4 ?c5 (bH.heap.size+1) (by simp) ?_)
 case c1=>exact BD _ _ _ _ (by simp)
 case c2=>intro u hu;simp at hu;subst hu;rfl
 case c3=>unfold maxLen;simp
 case c4=>simp
 case c5=>have:=av.K.low.size;simp;omega
 intro d f cy bK bL bM cz;have F:=av.app ak bK bL bM;clear av bK bL bM cz;dsimp only[List.length_nil,List.length_cons,List.nil_append,List.cons_append,zW,Nat.reduceAdd] at F ⊢;go_wp2_with fail
 rw[rounds_succ];go_wp2_with fail
 obtain ⟨x,aL⟩:∃ x:Nd,x=⟨op,0,⟨#[]⟩, [], [a1,a2]⟩:=⟨_,rfl⟩
 have cA:=Ab (show ∀ w,Below B ah w→Calls Tryz.prog 128 #[.iface 191 (.agg #[.int .i64 i,.int .i64 op,.iface y z,.iface A E])] w (Sm x w) from fun w h=>by rw[aL];exact Aa bw _ w h);have hx:x.kids= [a1,a2]:=by rw[aL]
 have cB:=Ab aL;clear aL bw;have cC:=Ab ((Aa aV).trans F.K.low);have bN:B≤cy.heap.size:=zL ak F.K.low.size;refine (Aa cA _ (Aa cC)).mono ?_;rintro r H ⟨⟨u,l,rfl,aM⟩,ac⟩;have bO:=F.C.below ac;have bP:=F.K.trans (Nk.of_all ac bN);have bf:=Ac (w':=H) F.O (fun q hq=>ac.block q (F.O.lt q hq).2);have cD:=ac.size;have aA:=(Below.refl H.heap.size H).alloc NLN (.cells #[.int .i64 x.op,.int .i64 x.num,.string x.text,.slice u x.names.length l,.slice (some ⟨d,0,none⟩) 2 f] 124);have aN:=Am.new H #[.int .i64 x.op,.int .i64 x.num,.string x.text,.slice u x.names.length l,.slice (some ⟨d,0,none⟩) 2 f] 124;have v:=bO.below aA;have bg:=bP.trans (Nk.of_all aA (zL bN cD));have bh:=Ac (w':=H.alloc (.cells #[.int .i64 x.op,.int .i64 x.num,.string x.text,.slice u x.names.length l,.slice (some ⟨d,0,none⟩) 2 f] 124)) aM (fun q hq=>aA.block q (aM.lt q hq).2);have aO:=Ac (w':=H.alloc (.cells #[.int .i64 x.op,.int .i64 x.num,.string x.text,.slice u x.names.length l,.slice (some ⟨d,0,none⟩) 2 f] 124)) bf (fun q hq=>aA.block q (bf.lt q hq).2);have cE:H.heap.size < (H.alloc (.cells #[.int .i64 x.op,.int .i64 x.num,.string x.text,.slice u x.names.length l,.slice (some ⟨d,0,none⟩) 2 f] 124)).heap.size:=by simp
 have cF:=Ab (show ∀ j,(S:j < (ax).length)→∀ q,(ax)[j].ownBlock=some q→(Value.slice u x.names.length l).ownBlock≠some q from fun j S q hq e=>by have:=(aM.lt q e).1;have:=(F.C.nodes.lts.2.1 j S q hq).2;omega);clear aM bf bO bP ac aA;dsimp only;go_wp2_with fail
 generalize H.alloc (.cells #[.int .i64 x.op,.int .i64 x.num,.string x.text,.slice u x.names.length l,.slice (some ⟨d,0,none⟩) 2 f] 124)=n at v bg bh aO aN cE ⊢;generalize H.heap.size=aB at aN ⊢;obtain ⟨aC,aD,J,_⟩:=Af v.nodes.own;have bi:=Ab J;clear J;apply Ut
 ·intro cG;have J:=Aa bi;obtain ⟨bQ,e1,e2,e3,e4⟩:=Lu aN;have bj:n.cell? ⟨c,0,none⟩=some (aK):=v.row.cell 0;rw[J] at bj;have bR:=v.row.frozen 0;have bS:=World.news_of_block (heap_alloc_new n (.cells #[.int .i64 x.op,.int .i64 x.num,.string x.text,.slice u x.names.length l,.slice (some ⟨d,0,none⟩) 2 f] 124));have cH:n.drew.cell? ⟨c,0,none⟩=some (.slice aC (p).length aD)∧n.drew.frozen? ⟨c,0,none⟩=false:=⟨bj,bR⟩
  have d1:n.drew.cell? ⟨aB,0,none⟩=some (.int .i64 x.op):=bQ;have d2:n.drew.cell? ⟨aB,1,none⟩=some (.int .i64 x.num):=e1;have d3:n.drew.cell? ⟨aB,2,none⟩=some (.string x.text):=e2;have d4:n.drew.cell? ⟨aB,3,none⟩=some (.slice u x.names.length l):=e3;have d5:n.drew.cell? ⟨aB,4,none⟩=some (.slice (some ⟨d,0,none⟩) 2 f):=e4;have bT:(n.alloc (.cells #[.int .i64 x.op,.int .i64 x.num,.string x.text,.slice u x.names.length l,.slice (some ⟨d,0,none⟩) 2 f] 124)).drew.ownsRow B 124 5 (.slice aC (p).length aD) (p).length (JM (p) (ax) (bb)):=by
   have:=v.nodes.own;rw[J] at this;exact (World.ownsRow.alloc this _).drew
  have aP:Am (n.alloc (.cells #[.int .i64 x.op,.int .i64 x.num,.string x.text,.slice u x.names.length l,.slice (some ⟨d,0,none⟩) 2 f] 124)).drew c #[aK,a7] 154:=⟨(v.row.alloc (.cells #[.int .i64 x.op,.int .i64 x.num,.string x.text,.slice u x.names.length l,.slice (some ⟨d,0,none⟩) 2 f] 124)).out⟩
  have cI:(n.alloc (.cells #[.int .i64 x.op,.int .i64 x.num,.string x.text,.slice u x.names.length l,.slice (some ⟨d,0,none⟩) 2 f] 124)).drew.cell? ⟨c,0,none⟩=some (.slice aC (p).length aD):=by
   have:=aP.cell 0;rw[J] at this;exact this
  have bU:(Value.slice aC (p).length aD).ownBlock≠some c:=by rw[← J];exact Ad v.row v.nodes.own (by decide)
  have cJ:B≤n.heap.size:=by have:=v.row.lt;have:=v.low;omega
  clear bQ e1 e2 e3 e4 bj bR J;go_region_law (refine step_append_lies _ rfl _ _ 24 rfl B 124 cc (.agg #[.int .i64 0,.int .i64 0,.string ByteArray.empty,.slice none 0 0,.slice none 0 0]) 5 80 Tryz.underlying24 cd ce cf cg rfl (by decide) (.slice aC (p).length aD) (p).length (JM (p) (ax) (bb)) rfl bT ⟨n.heap.size,0,none⟩ 1 1 [.int .i64 x.op,.int .i64 x.num,.string x.text,.slice u x.names.length l,.slice (some ⟨d,0,none⟩) 2 f] rfl rfl bS (by intro u hu;simp at hu;rcases hu with rfl | rfl | rfl | rfl | rfl <;> rfl) (by decide) (by unfold maxLen;omega) (by omega) (by simp;omega) _ rfl ?_;intro g7 c7 bk bV V bW cK;have bl:Am bk c #[aK,a7] 154:=⟨(V.block c aP.lt (fun e=>bU e.symm)).trans aP.out⟩;have aQ:=bl.cell 0;have bm:=bl.frozen 0)
  all_goals
   have bX:(n.alloc (.cells #[.int .i64 x.op,.int .i64 x.num,.string x.text,.slice u x.names.length l,.slice (some ⟨d,0,none⟩) 2 f] 124)).grownBy bk (aK).ownBlock:=by rw[Aa bi];exact ⟨V.os,V.tape,V.output,V.size,V.block⟩
   obtain ⟨ad,aE⟩:=v.pushN (g7:=g7) (c7:=c7) (x:=x) (u:= .slice u x.names.length l) (k:= .slice (some ⟨d,0,none⟩) 2 f) _ cJ (Cx bh (by omega)) (by rw[hx];exact Cx aO (by omega)) (Aa cF) (fun j S q hq e=>(F.ap q e).2 j S hq) (fun q hq=>(F.ap q hq).1) bX bV (by rw[Aa bi];exact bW.imp id (fun e=>by rw[e];show (n.alloc _).heap.size=_;simp));have ae:=bg.trans aE;have bn:=Ab (show ∀ q,(.slice (some ⟨d,0,none⟩) 2 f:Value).ownBlock=some q→w.heap.size≤q from fun q hq=>(aO.lt q hq).1);clear bV V bW cK bl aP cI cH d1 d2 d3 d4 d5 bS bT bX aE;clear aQ bm;generalize bk.setCell ⟨c,0,none⟩ (.slice (some ⟨g7,0,none⟩) ((p).length+1) c7)=I at ad ae ⊢;clear bU;revert bn;revert ae;revert ad;revert I;revert c7;revert g7;exact cG.out
 intro g7 c7 I ad ae bn;clear aN v bg bh aO;go_wp2_with fail
 obtain ⟨af,ag,aR,_⟩:=Af ad.places;have aF:=Ab aR;have L:=ad.below (Di I);have bY:=ae.trans (Nk.of_all (Di I) (zL ak ae.low.size));have cL:I.drew.cell? ⟨c,1,none⟩=some (.slice af (s).length ag):=by have:=L.row.cell 1;rw[aR] at this;exact this
 have cM:=L.row.frozen 1;have cN:(Value.slice af (s).length ag).ownBlock≠some c:=by rw[← aR];exact Ad L.row L.places (by decide)
 have cO:=Ab (Aa cb I.drew);have bZ:B≤I.drew.heap.size:=by have:=L.row.lt;have:=L.low;omega
 clear aR ad ae;go_region_law (first
  |(refine Iy rfl _ _ _ rfl 191 (.agg #[.int .i64 i,.int .i64 op,.iface y z,.iface A E]) rfl _ ck _ _ hp _ ch ci cj (fun cP w'=>cP= .int .i64 i∧Below I.heap.size I.drew w') ((Aa cO).mono (fun r w' h=>⟨_,h.1,rfl,h.2⟩)) ?_;rintro dl Q ⟨rfl,bo⟩;have W:=L.below bo;have b0:=bY.trans (Nk.of_all bo bZ);have cQ:B≤Q.heap.size:=zL bZ bo.size;have cR:Q.cell? ⟨c,1,none⟩=some (.slice af (s).length ag):=(by have:=W.row.cell 1;rw[Aa aF] at this;exact this);have cS:=W.row.frozen 1;have b1:(Q.alloc (.cells #[.int .i64 i] 3)).ownsRow B 3 1 (.slice af (s).length ag) (s).length (AF (s)):=(by have:=W.places;rw[Aa aF] at this;exact World.ownsRow.alloc this _);have cT:(Q.alloc (.cells #[.int .i64 i] 3)).cell? ⟨c,1,none⟩=some (.slice af (s).length ag):=(by have:=(W.row.alloc (.cells #[.int .i64 i] 3)).cell 1;rw[Aa aF] at this;exact this);have b2:=World.news_of_block (heap_alloc_new Q (.cells #[.int .i64 i] 3));have bp:Am (Q.alloc (.cells #[.int .i64 i] 3)) c #[_,_] 154:=W.row.alloc (.cells #[.int .i64 i] 3))
  |(refine step_append_lies _ rfl _ _ 28 rfl B 3 aW (.int .i64 0) 1 8 Tryz.underlying28 aX aY aZ a0 rfl (by decide) (.slice af (s).length ag) (s).length (AF (s)) rfl b1 ⟨Q.heap.size,0,none⟩ 1 1 [.int .i64 i] rfl rfl b2 (by intro u hu;simp at hu;rcases hu with rfl;rfl) (by decide) (by unfold maxLen;omega) (by omega) (by simp;omega) _ rfl ?_;intro g6 b3 bq b4 br b5 cU;have bs:Am bq c #[_,_] 154:=⟨(br.block c bp.lt (fun e=>cN e.symm)).trans bp.out⟩;have aQ:=bs.cell 1;have bm:=bs.frozen 1))
 all_goals
  have b6:(Q.alloc (.cells #[.int .i64 i] 3)).grownBy bq (a7).ownBlock:=by rw[Aa aF];exact br
  obtain ⟨bt,b7⟩:=W.pushP (g7:=g6) (c7:=b3) _ i cQ b6 b4 (by rw[Aa aF];exact b5.imp id (fun e=>by rw[e];simp));have aE:=b0.trans b7;clear b4 br b5 cU b6 cL cM cR cS cT aQ bm bs bp b2 b1 L W bY b0 b7;generalize bq.setCell ⟨c,1,none⟩ (.slice (some ⟨g6,0,none⟩) ((s).length+1) b3)=cV at bt aE ⊢;have aQ:cV.cell? ⟨c,0,none⟩=some (.slice (some ⟨g7,0,none⟩) ((p).length+1) c7):=bt.row.cell 0;go_wp2_with fail
  go_ret
  obtain ⟨au,a6⟩:=Aa cp;obtain ⟨ao,Y,Z,aq,ar⟩:=Aa cq;obtain ⟨bc,bd⟩:=Aa cv;obtain ⟨aw,aa,ab,ay,az⟩:=Aa cw;have cW:x=⟨op,0,⟨#[]⟩, [], [((N.length+o - 1 :Nat):Int),((N.length+o+t - 1 :Nat):Int)]⟩:=by rw[Aa cB,aw,ao,aG,aH,au]
  have cX:p ++ [x]=N ++(f1 (N.length) ++f2 (N.length+o) ++ [⟨op,0,⟨#[]⟩, [], [((N.length+o - 1 :Nat):Int),((N.length+o+t - 1 :Nat):Int)]⟩]):=by rw[cW,aa,au,Y];simp only[zC]
  have cY:s ++ [i]=P ++(ai ++aj ++ [i]):=by rw[ab,Z];simp only[zC]
  have cZ:ax ++ [.slice u x.names.length l]=aS ++(a3 ++a8 ++ [.slice u x.names.length l]):=by rw[ay,aq];simp only[zC]
  have c0:bb ++ [.slice (some ⟨d,0,none⟩) 2 f]=aT ++(a4 ++a9 ++ [.slice (some ⟨d,0,none⟩) 2 f]):=by rw[az,ar];simp only[zC]
  refine ⟨congrArg (fun m:Nat=>Ending.returned (.int .i64 (m:Int))) ?_,_,_,a3 ++a8 ++ [.slice u x.names.length l],a4 ++a9 ++ [.slice (some ⟨d,0,none⟩) 2 f], ?_,aE, ?_⟩
  ·simp only[zB,List.length_cons,List.length_nil,aG,aH];omega
  ·rw[← cX,← cY,← cZ,← c0];exact bt
  ·exact CN (CN (Bi (Aa cr) cm) (Bi (Aa cx) cu)) (EB (Aa bn))
theorem AaM (B c:Nat)(ac:World)(i:Int)(z:TypeId)(A:Value)(d:Nat)(f1:Nat→List Nd)(aw:List Int)(aU:∀ b,(f1 b).length=d)(cA:Hid (Zd B c ac (.iface z A) f1 aw d))(bQ:aw.length=d)(E:TypeId)(F:Value)(o:Nat)(f2:Nat→List Nd)(ax:List Int)(aV:∀ b,(f2 b).length=o)(cB:Hid (Zd B c ac (.iface E F) f2 ax o))(bR:ax.length=o)(H:TypeId)(I:Value)(s:Nat)(ad:Nat→List Nd)(ay:List Int)(aW:∀ b,(ad b).length=s)(cC:Hid (Zd B c ac (.iface H I) ad ay s))(bS:ay.length=s)
  (bT:Hid (∀ ks w,Below B ac w→Calls Tryz.prog 128 #[.iface 194 (.agg #[.int .i64 i,.iface z A,.iface E F,.iface H I])] w (Sm ⟨27,0,⟨#[]⟩, [],ks⟩ w))):
  Zd B c ac (.iface 194 (.agg #[.int .i64 i,.iface z A,.iface E F,.iface H I])) (fun b=>f1 (b) ++f2 (b+d) ++ad (b+d+o) ++ [⟨27,0,⟨#[]⟩, [], [((b+d - 1 :Nat):Int),((b+d+o - 1 :Nat):Int),((b+d+o+s - 1 :Nat):Int)]⟩]) (aw ++ax ++ay ++ [i]) (d+o+s+1):=by
 intro N P nd bU bi bj w bV bk dJ dK;have hk:=RR i z A E F H I;have hp:=W6 i z A E F H I;have cD:=Ab (Lr i z A E F H I);have cE:=Ab (Qr i z A E F H I);have aX:=Ab bV;have dM:=bk.row.lt;have ae:B≤w.heap.size:=by have:=bk.low;omega
 obtain ⟨cF,cG,cH,cI,cJ⟩:=info_parts KI;obtain ⟨aY,aZ,a0,a4,a5⟩:=info_parts MO;have cK:=Tryz.func250;have cL:(Tryz.f250.name== "runtime.NumGoroutine")=false:=by kernel_rfl
 have cM: Tryz.f250.body.isNone=false:=by kernel_rfl
 have cN: Tryz.prog.types.size+Made.depth= 429:=by kernel_rfl
 have dN:=Ab (And.intro aU (And.intro aV (And.intro aW (And.intro bQ (And.intro bR bS)))));have dO:P.length+(d+o+s)+1≤65535:=by omega
 clear bV;go_enter Tryz.func86,Tryz.ntmps86
 go_wp2_with fail
 refine (Aa cD _).mono ?_;rintro r bW ⟨g,rfl,dP,cO,a6⟩;have af:Kn B c g w nd bU N P nd bU bi bj (.slice none 0 0) [] #[.iface z A,.iface E F,.iface H I] bW:=⟨bk.below a6,Nk.of_all a6 ae,cO,World.ownsRow_nil _ _ _ _,fun q hq=>by cases hq⟩
 have dQ:=Ab (rfl:N=N);have dR:∀ j,(V:j < ([]:List Value).length)→∀ q,([]:List Value)[j].ownBlock=some q→w.heap.size≤q:=fun j V=>absurd V (by simp);clear a6;dsimp only;go_wp2_with fail
 refine wp_loop_rounds 4 ?_;rw[rounds_succ];have c1:bW.cell? ⟨g,0,none⟩=some (.iface z A):=af.R.cell 0;go_wp2_with fail
 refine (Aa cA _ _ _ _ _ _ _ ((Aa aX).trans af.K.low) af.C (by omega) (by omega)).mono ?_;rintro r bX ⟨rfl,dS,dT,bl,bm,bY,bZ,bn⟩;have az:=af.call bY bZ bn;have cP:=af.K.low.size;obtain ⟨a1,aA⟩:∃ a:Int,a=(((N).length+(f1 (N).length).length - 1 :Nat):Int):=⟨_,rfl⟩
 obtain ⟨W,ag⟩:∃ M,M=N ++f1 (N).length:=⟨_,rfl⟩
 obtain ⟨a7,ah⟩:∃ M,M=P ++aw:=⟨_,rfl⟩
 obtain ⟨cQ,aB⟩:∃ M,M=bi ++bl:=⟨_,rfl⟩
 obtain ⟨cR,aC⟩:∃ M,M=bj ++bm:=⟨_,rfl⟩
 rw[← ag,← ah,← aB,← aC] at az;rw[← aA];have aD:W.length=(N).length+d:=by rw[ag,zB,aU]
 have bo:a7.length=(P).length+d:=by rw[ah,zB,bQ]
 have a6:W.length+(o+s+1)≤65535:=by omega
 have dU:a7.length+(o+s+1)≤65535:=by omega
 have cS:=Ab (And.intro aD bo);clear aD bo;have cT:=Ab (And.intro aA (And.intro ag (And.intro ah (And.intro aB aC))));have cU:=Ab bn;clear aA ag ah aB aC bn bY bZ c1 af;dsimp only;go_wp2_with (at_builtin;refine wpList_append_lies _ rfl _ _ 28 rfl w.heap.size 3 aY (.int .i64 0) 1 8 Tryz.underlying28 aZ a0 a4 a5 rfl (by decide) _ _ _ rfl (World.ownsRow.alloc az.O _) ⟨bX.heap.size,0,none⟩ 1 1 [.int .i64 a1] rfl rfl ?c1 ?c2 (by decide) ?c3 ?c4 ?c5 (bX.heap.size+1) (by simp) ?_)
 case c1=>exact BD _ _ _ _ (by simp)
 case c2=>intro u hu;simp at hu;subst hu;rfl
 case c3=>unfold maxLen;simp
 case c4=>simp
 case c5=>have:=az.K.low.size;simp;omega
 intro dV dW cV b0 b1 b2 cW;have X:=az.app ae b0 b1 b2;clear az b0 b1 b2 cW;dsimp only[List.length_nil,List.length_cons,List.nil_append,List.cons_append,zW,Nat.reduceAdd] at X ⊢;go_wp2_with fail
 rw[rounds_succ];have c2:cV.cell? ⟨g,1,none⟩=some (.iface E F):=X.R.cell 1;go_wp2_with fail
 refine (Aa cB _ _ _ _ _ _ _ ((Aa aX).trans X.K.low) X.C (by omega) (by omega)).mono ?_;rintro r b3 ⟨rfl,dX,dY,bp,bq,b4,b5,br⟩;have aE:=X.call b4 b5 br;have cX:=X.K.low.size;obtain ⟨a2,aF⟩:∃ a:Int,a=(((W).length+(f2 (W).length).length - 1 :Nat):Int):=⟨_,rfl⟩
 obtain ⟨Y,ai⟩:∃ M,M=W ++f2 (W).length:=⟨_,rfl⟩
 obtain ⟨a8,aj⟩:∃ M,M=a7 ++ax:=⟨_,rfl⟩
 obtain ⟨cY,aG⟩:∃ M,M=cQ ++bp:=⟨_,rfl⟩
 obtain ⟨cZ,aH⟩:∃ M,M=cR ++bq:=⟨_,rfl⟩
 rw[← ai,← aj,← aG,← aH] at aE;rw[← aF];have aI:Y.length=(W).length+o:=by rw[ai,zB,aV]
 have bs:a8.length=(a7).length+o:=by rw[aj,zB,bR]
 have ak:Y.length+(s+1)≤65535:=by omega
 have dZ:a8.length+(s+1)≤65535:=by omega
 have c0:=Ab (And.intro aI bs);clear aI bs;have c6:=Ab (And.intro aF (And.intro ai (And.intro aj (And.intro aG aH))));have c8:=Ab br;clear aF ai aj aG aH br b4 b5 c2 X;dsimp only;go_wp2_with (at_builtin;refine wpList_append_lies _ rfl _ _ 28 rfl w.heap.size 3 aY (.int .i64 0) 1 8 Tryz.underlying28 aZ a0 a4 a5 rfl (by decide) _ _ _ rfl (World.ownsRow.alloc aE.O _) ⟨b3.heap.size,0,none⟩ 1 1 [.int .i64 a2] rfl rfl ?c1 ?c2 (by decide) ?c3 ?c4 ?c5 (b3.heap.size+1) (by simp) ?_)
 case c1=>exact BD _ _ _ _ (by simp)
 case c2=>intro u hu;simp at hu;subst hu;rfl
 case c3=>unfold maxLen;simp
 case c4=>simp
 case c5=>have:=aE.K.low.size;simp;omega
 intro d0 d6 c9 b6 b7 b8 da;have Z:=aE.app ae b6 b7 b8;clear aE b6 b7 b8 da;dsimp only[List.length_nil,List.length_cons,List.nil_append,List.cons_append,zW,Nat.reduceAdd] at Z ⊢;go_wp2_with fail
 rw[rounds_succ];have c3:c9.cell? ⟨g,2,none⟩=some (.iface H I):=Z.R.cell 2;go_wp2_with fail
 refine (Aa cC _ _ _ _ _ _ _ ((Aa aX).trans Z.K.low) Z.C (by omega) (by omega)).mono ?_;rintro r b9 ⟨rfl,a9,bt,bu,bv,ca,cb,bw⟩;have aJ:=Z.call ca cb bw;have db:=Z.K.low.size;obtain ⟨a3,aK⟩:∃ a:Int,a=(((Y).length+(ad (Y).length).length - 1 :Nat):Int):=⟨_,rfl⟩
 obtain ⟨t,al⟩:∃ M,M=Y ++ad (Y).length:=⟨_,rfl⟩
 obtain ⟨v,ao⟩:∃ M,M=a8 ++ay:=⟨_,rfl⟩
 obtain ⟨aL,aM⟩:∃ M,M=cY ++bu:=⟨_,rfl⟩
 obtain ⟨bx,aN⟩:∃ M,M=cZ ++bv:=⟨_,rfl⟩
 rw[← al,← ao,← aM,← aN] at aJ;rw[← aK];have bz:t.length=(Y).length+s:=by rw[al,zB,aW]
 have bA:v.length=(a8).length+s:=by rw[ao,zB,bS]
 have d7:t.length+(1)≤65535:=by omega
 have d8:v.length+(1)≤65535:=by omega
 have dc:=Ab (And.intro bz bA);clear bz bA;have dd:=Ab (And.intro aK (And.intro al (And.intro ao (And.intro aM aN))));have de:=Ab bw;clear aK al ao aM aN bw ca cb c3 Z;dsimp only;go_wp2_with (at_builtin;refine wpList_append_lies _ rfl _ _ 28 rfl w.heap.size 3 aY (.int .i64 0) 1 8 Tryz.underlying28 aZ a0 a4 a5 rfl (by decide) _ _ _ rfl (World.ownsRow.alloc aJ.O _) ⟨b9.heap.size,0,none⟩ 1 1 [.int .i64 a3] rfl rfl ?c1 ?c2 (by decide) ?c3 ?c4 ?c5 (b9.heap.size+1) (by simp) ?_)
 case c1=>exact BD _ _ _ _ (by simp)
 case c2=>intro u hu;simp at hu;subst hu;rfl
 case c3=>unfold maxLen;simp
 case c4=>simp
 case c5=>have:=aJ.K.low.size;simp;omega
 intro f l df cc cd ce dg;have J:=aJ.app ae cc cd ce;clear aJ cc cd ce dg;dsimp only[List.length_nil,List.length_cons,List.nil_append,List.cons_append,zW,Nat.reduceAdd] at J ⊢;go_wp2_with fail
 rw[rounds_succ];go_wp2_with fail
 obtain ⟨x,ba⟩:∃ x:Nd,x=⟨27,0,⟨#[]⟩, [], [a1,a2,a3]⟩:=⟨_,rfl⟩
 have dh:=Ab (show ∀ w,Below B ac w→Calls Tryz.prog 128 #[.iface 194 (.agg #[.int .i64 i,.iface z A,.iface E F,.iface H I])] w (Sm x w) from fun w h=>by rw[ba];exact Aa bT _ w h);have hx:x.kids= [a1,a2,a3]:=by rw[ba]
 have di:=Ab ba;clear ba bT;have dj:=Ab ((Aa aX).trans J.K.low);have cf:B≤df.heap.size:=zL ae J.K.low.size;refine (Aa dh _ (Aa dj)).mono ?_;rintro r L ⟨⟨u,n,rfl,bb⟩,ak⟩;have cg:=J.C.below ak;have ch:=J.K.trans (Nk.of_all ak cf);have bB:=Ac (w':=L) J.O (fun q hq=>ak.block q (J.O.lt q hq).2);have dk:=ak.size;have aO:=(Below.refl L.heap.size L).alloc NLN (.cells #[.int .i64 x.op,.int .i64 x.num,.string x.text,.slice u x.names.length n,.slice (some ⟨f,0,none⟩) 3 l] 124);have bc:=Am.new L #[.int .i64 x.op,.int .i64 x.num,.string x.text,.slice u x.names.length n,.slice (some ⟨f,0,none⟩) 3 l] 124;have y:=cg.below aO;have bC:=ch.trans (Nk.of_all aO (zL cf dk));have bD:=Ac (w':=L.alloc (.cells #[.int .i64 x.op,.int .i64 x.num,.string x.text,.slice u x.names.length n,.slice (some ⟨f,0,none⟩) 3 l] 124)) bb (fun q hq=>aO.block q (bb.lt q hq).2);have bd:=Ac (w':=L.alloc (.cells #[.int .i64 x.op,.int .i64 x.num,.string x.text,.slice u x.names.length n,.slice (some ⟨f,0,none⟩) 3 l] 124)) bB (fun q hq=>aO.block q (bB.lt q hq).2);have dl:L.heap.size < (L.alloc (.cells #[.int .i64 x.op,.int .i64 x.num,.string x.text,.slice u x.names.length n,.slice (some ⟨f,0,none⟩) 3 l] 124)).heap.size:=by simp
 have dm:=Ab (show ∀ j,(V:j < (aL).length)→∀ q,(aL)[j].ownBlock=some q→(Value.slice u x.names.length n).ownBlock≠some q from fun j V q hq e=>by have:=(bb.lt q e).1;have:=(J.C.nodes.lts.2.1 j V q hq).2;omega);clear bb bB cg ch ak aO;dsimp only;go_wp2_with fail
 generalize L.alloc (.cells #[.int .i64 x.op,.int .i64 x.num,.string x.text,.slice u x.names.length n,.slice (some ⟨f,0,none⟩) 3 l] 124)=p at y bC bD bd bc dl ⊢;generalize L.heap.size=aP at bc ⊢;obtain ⟨aQ,aR,S,_⟩:=Af y.nodes.own;have bE:=Ab S;clear S;apply Ut
 ·intro dn;have S:=Aa bE;obtain ⟨ci,e1,e2,e3,e4⟩:=Lu bc;have bF:p.cell? ⟨c,0,none⟩=some (a9):=y.row.cell 0;rw[S] at bF;have cj:=y.row.frozen 0;have ck:=World.news_of_block (heap_alloc_new p (.cells #[.int .i64 x.op,.int .i64 x.num,.string x.text,.slice u x.names.length n,.slice (some ⟨f,0,none⟩) 3 l] 124));have dp:p.drew.cell? ⟨c,0,none⟩=some (.slice aQ (t).length aR)∧p.drew.frozen? ⟨c,0,none⟩=false:=⟨bF,cj⟩
  have d1:p.drew.cell? ⟨aP,0,none⟩=some (.int .i64 x.op):=ci;have d2:p.drew.cell? ⟨aP,1,none⟩=some (.int .i64 x.num):=e1;have d3:p.drew.cell? ⟨aP,2,none⟩=some (.string x.text):=e2;have d4:p.drew.cell? ⟨aP,3,none⟩=some (.slice u x.names.length n):=e3;have d5:p.drew.cell? ⟨aP,4,none⟩=some (.slice (some ⟨f,0,none⟩) 3 l):=e4;have cl:(p.alloc (.cells #[.int .i64 x.op,.int .i64 x.num,.string x.text,.slice u x.names.length n,.slice (some ⟨f,0,none⟩) 3 l] 124)).drew.ownsRow B 124 5 (.slice aQ (t).length aR) (t).length (JM (t) (aL) (bx)):=by
   have:=y.nodes.own;rw[S] at this;exact (World.ownsRow.alloc this _).drew
  have bf:Am (p.alloc (.cells #[.int .i64 x.op,.int .i64 x.num,.string x.text,.slice u x.names.length n,.slice (some ⟨f,0,none⟩) 3 l] 124)).drew c #[a9,bt] 154:=⟨(y.row.alloc (.cells #[.int .i64 x.op,.int .i64 x.num,.string x.text,.slice u x.names.length n,.slice (some ⟨f,0,none⟩) 3 l] 124)).out⟩
  have dq:(p.alloc (.cells #[.int .i64 x.op,.int .i64 x.num,.string x.text,.slice u x.names.length n,.slice (some ⟨f,0,none⟩) 3 l] 124)).drew.cell? ⟨c,0,none⟩=some (.slice aQ (t).length aR):=by
   have:=bf.cell 0;rw[S] at this;exact this
  have cm:(Value.slice aQ (t).length aR).ownBlock≠some c:=by rw[← S];exact Ad y.row y.nodes.own (by decide)
  have dr:B≤p.heap.size:=by have:=y.row.lt;have:=y.low;omega
  clear ci e1 e2 e3 e4 bF cj S;go_region_law (refine step_append_lies _ rfl _ _ 24 rfl B 124 cF (.agg #[.int .i64 0,.int .i64 0,.string ByteArray.empty,.slice none 0 0,.slice none 0 0]) 5 80 Tryz.underlying24 cG cH cI cJ rfl (by decide) (.slice aQ (t).length aR) (t).length (JM (t) (aL) (bx)) rfl cl ⟨p.heap.size,0,none⟩ 1 1 [.int .i64 x.op,.int .i64 x.num,.string x.text,.slice u x.names.length n,.slice (some ⟨f,0,none⟩) 3 l] rfl rfl ck (by intro u hu;simp at hu;rcases hu with rfl | rfl | rfl | rfl | rfl <;> rfl) (by decide) (by unfold maxLen;omega) (by omega) (by simp;omega) _ rfl ?_;intro g7 c7 bG cn aa co ds;have bH:Am bG c #[a9,bt] 154:=⟨(aa.block c bf.lt (fun e=>cm e.symm)).trans bf.out⟩;have bg:=bH.cell 0;have bI:=bH.frozen 0)
  all_goals
   have cp:(p.alloc (.cells #[.int .i64 x.op,.int .i64 x.num,.string x.text,.slice u x.names.length n,.slice (some ⟨f,0,none⟩) 3 l] 124)).grownBy bG (a9).ownBlock:=by rw[Aa bE];exact ⟨aa.os,aa.tape,aa.output,aa.size,aa.block⟩
   obtain ⟨aq,aS⟩:=y.pushN (g7:=g7) (c7:=c7) (x:=x) (u:= .slice u x.names.length n) (k:= .slice (some ⟨f,0,none⟩) 3 l) _ dr (Cx bD (by omega)) (by rw[hx];exact Cx bd (by omega)) (Aa dm) (fun j V q hq e=>(J.ap q e).2 j V hq) (fun q hq=>(J.ap q hq).1) cp cn (by rw[Aa bE];exact co.imp id (fun e=>by rw[e];show (p.alloc _).heap.size=_;simp));have ar:=bC.trans aS;have bJ:=Ab (show ∀ q,(.slice (some ⟨f,0,none⟩) 3 l:Value).ownBlock=some q→w.heap.size≤q from fun q hq=>(bd.lt q hq).1);clear cn aa co ds bH bf dq dp d1 d2 d3 d4 d5 ck cl cp aS;clear bg bI;generalize bG.setCell ⟨c,0,none⟩ (.slice (some ⟨g7,0,none⟩) ((t).length+1) c7)=Q at aq ar ⊢;clear cm;revert bJ;revert ar;revert aq;revert Q;revert c7;revert g7;exact dn.out
 intro g7 c7 Q aq ar bJ;clear bc y bC bD bd;go_wp2_with fail
 obtain ⟨au,av,bh,_⟩:=Af aq.places;have aT:=Ab bh;have T:=aq.below (Di Q);have cq:=ar.trans (Nk.of_all (Di Q) (zL ae ar.low.size));have dt:Q.drew.cell? ⟨c,1,none⟩=some (.slice au (v).length av):=by have:=T.row.cell 1;rw[bh] at this;exact this
 have du:=T.row.frozen 1;have dv:(Value.slice au (v).length av).ownBlock≠some c:=by rw[← bh];exact Ad T.row T.places (by decide)
 have dw:=Ab (Aa cE Q.drew);have cr:B≤Q.drew.heap.size:=by have:=T.row.lt;have:=T.low;omega
 clear bh aq ar;go_region_law (first
  |(refine Iy rfl _ _ _ rfl 194 (.agg #[.int .i64 i,.iface z A,.iface E F,.iface H I]) rfl _ cN _ _ hp _ cK cL cM (fun dx w'=>dx= .int .i64 i∧Below Q.heap.size Q.drew w') ((Aa dw).mono (fun r w' h=>⟨_,h.1,rfl,h.2⟩)) ?_;rintro d9 U ⟨rfl,bK⟩;have ab:=T.below bK;have cs:=cq.trans (Nk.of_all bK cr);have dy:B≤U.heap.size:=zL cr bK.size;have dz:U.cell? ⟨c,1,none⟩=some (.slice au (v).length av):=(by have:=ab.row.cell 1;rw[Aa aT] at this;exact this);have dA:=ab.row.frozen 1;have ct:(U.alloc (.cells #[.int .i64 i] 3)).ownsRow B 3 1 (.slice au (v).length av) (v).length (AF (v)):=(by have:=ab.places;rw[Aa aT] at this;exact World.ownsRow.alloc this _);have dB:(U.alloc (.cells #[.int .i64 i] 3)).cell? ⟨c,1,none⟩=some (.slice au (v).length av):=(by have:=(ab.row.alloc (.cells #[.int .i64 i] 3)).cell 1;rw[Aa aT] at this;exact this);have cu:=World.news_of_block (heap_alloc_new U (.cells #[.int .i64 i] 3));have bL:Am (U.alloc (.cells #[.int .i64 i] 3)) c #[_,_] 154:=ab.row.alloc (.cells #[.int .i64 i] 3))
  |(refine step_append_lies _ rfl _ _ 28 rfl B 3 aY (.int .i64 0) 1 8 Tryz.underlying28 aZ a0 a4 a5 rfl (by decide) (.slice au (v).length av) (v).length (AF (v)) rfl ct ⟨U.heap.size,0,none⟩ 1 1 [.int .i64 i] rfl rfl cu (by intro u hu;simp at hu;rcases hu with rfl;rfl) (by decide) (by unfold maxLen;omega) (by omega) (by simp;omega) _ rfl ?_;intro g6 cv bM cw bN cx dC;have bO:Am bM c #[_,_] 154:=⟨(bN.block c bL.lt (fun e=>dv e.symm)).trans bL.out⟩;have bg:=bO.cell 1;have bI:=bO.frozen 1))
 all_goals
  have cy:(U.alloc (.cells #[.int .i64 i] 3)).grownBy bM (bt).ownBlock:=by rw[Aa aT];exact bN
  obtain ⟨bP,cz⟩:=ab.pushP (g7:=g6) (c7:=cv) _ i dy cy cw (by rw[Aa aT];exact cx.imp id (fun e=>by rw[e];simp));have aS:=cs.trans cz;clear cw bN cx dC cy dt du dz dA dB bg bI bO bL cu ct T ab cq cs cz;generalize bM.setCell ⟨c,1,none⟩ (.slice (some ⟨g6,0,none⟩) ((v).length+1) cv)=dD at bP aS ⊢;have bg:dD.cell? ⟨c,0,none⟩=some (.slice (some ⟨g7,0,none⟩) ((t).length+1) c7):=bP.row.cell 0;go_wp2_with fail
  go_ret
  obtain ⟨aD,bo⟩:=Aa cS;obtain ⟨aA,ag,ah,aB,aC⟩:=Aa cT;obtain ⟨aI,bs⟩:=Aa c0;obtain ⟨aF,ai,aj,aG,aH⟩:=Aa c6;obtain ⟨bz,bA⟩:=Aa dc;obtain ⟨aK,al,ao,aM,aN⟩:=Aa dd;have dE:x=⟨27,0,⟨#[]⟩, [], [((N.length+d - 1 :Nat):Int),((N.length+d+o - 1 :Nat):Int),((N.length+d+o+s - 1 :Nat):Int)]⟩:=by rw[Aa di,aK,aF,aA,aU,aV,aW,aI,aD]
  have dF:t ++ [x]=N ++(f1 (N.length) ++f2 (N.length+d) ++ad (N.length+d+o) ++ [⟨27,0,⟨#[]⟩, [], [((N.length+d - 1 :Nat):Int),((N.length+d+o - 1 :Nat):Int),((N.length+d+o+s - 1 :Nat):Int)]⟩]):=by rw[dE,al,aI,ai,aD,ag];simp only[zC]
  have dG:v ++ [i]=P ++(aw ++ax ++ay ++ [i]):=by rw[ao,aj,ah];simp only[zC]
  have dH:aL ++ [.slice u x.names.length n]=bi ++(bl ++bp ++bu ++ [.slice u x.names.length n]):=by rw[aM,aG,aB];simp only[zC]
  have dI:bx ++ [.slice (some ⟨f,0,none⟩) 3 l]=bj ++(bm ++bq ++bv ++ [.slice (some ⟨f,0,none⟩) 3 l]):=by rw[aN,aH,aC];simp only[zC]
  refine ⟨congrArg (fun m:Nat=>Ending.returned (.int .i64 (m:Int))) ?_,_,_,bl ++bp ++bu ++ [.slice u x.names.length n],bm ++bq ++bv ++ [.slice (some ⟨f,0,none⟩) 3 l], ?_,aS, ?_⟩
  ·simp only[zB,List.length_cons,List.length_nil,aU,aV,aW];omega
  ·rw[← dF,← dG,← dH,← dI];exact bP
  ·exact CN (CN (CN (Bi (Aa cU) cP) (Bi (Aa c8) cX)) (Bi (Aa de) db)) (EB (Aa bJ))
end Go.Proofs.YtffkofkjpckmpaaGreatDoor
