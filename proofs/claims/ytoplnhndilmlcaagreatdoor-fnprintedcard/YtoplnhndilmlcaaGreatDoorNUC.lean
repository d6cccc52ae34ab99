/-
  Numbering: a tree is added. Own work.
-/
import Derived.Test.YtoplnhndilmlcaaGreatDoorMXAI
import Derived.Test.YtoplnhndilmlcaaGreatDoorMXAJ
namespace Go.Proofs.YtoplnhndilmlcaaGreatDoor
set_option maxRecDepth 100000
set_option maxHeartbeats 1600000
open Go.RowKit
set_option linter.unusedVariables false
def Fc:Ex→Nat→List Nd
 | .un i op k,b=>Fc k b ++ [⟨op,0,⟨#[]⟩, [], [((b+k.cnt - 1 :Nat):Int)]⟩]
 | .bin i op l r,b=>Fc l b ++Fc r (b+l.cnt) ++ [⟨op,0,⟨#[]⟩, [], [((b+l.cnt - 1 :Nat):Int),((b+l.cnt+r.cnt - 1 :Nat):Int)]⟩]
 | .ite i c t e,b=>Fc c b ++Fc t (b+c.cnt) ++Fc e (b+c.cnt+t.cnt) ++ [⟨27,0,⟨#[]⟩, [], [((b+c.cnt - 1 :Nat):Int),((b+c.cnt+t.cnt - 1 :Nat):Int),((b+c.cnt+t.cnt+e.cnt - 1 :Nat):Int)]⟩]
 | e,_=> [VI e]
def Jw:Ex→List Int
 | .int i _=> [i] | .text i _=> [i] | .bool i _=> [i] | .set i .. => [i] | .name i _=> [i] | .attr i _=> [i] | .lett i _=> [i]
 | .un i _ k=>Jw k ++ [i]
 | .bin i _ l r=>Jw l ++Jw r ++ [i]
 | .ite i c t e=>Jw c ++Jw t ++Jw e ++ [i]
theorem LJ:(Tryz.prog.info? 80).map (fun i=>(i.zero,i.size,i.bytes))=some (some (.agg #[.int .i64 0,.int .i64 0,.string ByteArray.empty,.slice none 0 0,.slice none 0 0]),5,80):=by kernel_rfl
theorem Po:(Tryz.prog.info? 3).map (fun i=>(i.zero,i.size,i.bytes))=some (some (.int .i64 0),1,8):=by kernel_rfl
theorem Cb (w:World):Below w.heap.size w w.drew:=⟨rfl,rfl,rfl,NLN,fun _ _=>rfl⟩
def AdO (B nb:Nat) (N:List Nd) (P:List Int) (nd pl:Value) (nv kv:List Value) (M:List Nd) (Q:List Int) (w:World) (r:Ending) (w':World):Prop:=
 r= .returned (.int .i64 ((N.length+M.length - 1 :Nat):Int))∧∃ nd' pl' nv' kv',KH w' B nb (N ++M) (P ++Q) nd' pl' (nv ++nv') (kv ++kv')∧Nk B nb nd pl w nd' pl' w'∧∀ j,(hj:j < kv'.length)→∀ q,kv'[j].ownBlock=some q→w.heap.size≤q
def XM (B nb:Nat) (w0:World) (v:Value) (fl:Nat→List Nd) (Q:List Int) (n:Nat):Prop:=
 ∀ (N:List Nd) (P:List Int) (nd pl:Value) (nv kv:List Value) (w:World),Below B w0 w→KH w B nb N P nd pl nv kv→N.length+n≤65535→P.length+n≤65535→Calls Tryz.prog 79 #[.pointer (some ⟨nb,0,none⟩),v] w (AdO B nb N P nd pl nv kv (fl N.length) Q w)
theorem EI (B a:Nat)(ap:World)(T:TypeId)(v:Value)(i:Int)(x:Nd)(hx:x.kids= [])
  (hk:∀ w,(method 409 T v "loop.example/s01308/impl.kids").run Tryz.prog w= .ok (219,.int .i64 i) w)
  (aS:∀ w,(method 409 T v "loop.example/s01308/impl.place").run Tryz.prog w= .ok (220,.int .i64 i) w)
  (aT:Hid (∀ w,Below B ap w→Calls Tryz.prog 116 #[.iface T v] w (QS x w))):
  XM B a ap (.iface T v) (fun _=> [x]) [i] 1:=by
 intro N P nd C M O w aq Q bx bz;have aU:=Ab aq;have bA:=Q.row.lt;have ar:B≤w.heap.size:=by have:=Q.low;omega
 clear aq;go_enter Tryz.func79,Tryz.ntmps79
 go_wp2_with fail
 refine (Di i _).mono ?_;rintro r bB ⟨rfl,au⟩;rw[au];clear au;dsimp only;go_wp2_with fail
 refine wp_loop_rounds 1 ?_;rw[rounds_succ];go_wp2_with fail
 have aV:=Nk.refl B a nd C w;have av:w.ownsRow w.heap.size 3 1 (.slice none 0 0) 0 (At []):=World.ownsRow_nil _ _ _ _;have aw:∀ q,(Value.slice none 0 0).ownBlock=some q→C.ownBlock≠some q∧∀ j,(l:j < O.length)→O[j].ownBlock≠some q:=fun q hq=>by cases hq
 have aW:=aU;have ax:=ar;obtain ⟨aX,aY,aZ,a0,a1⟩:=info_parts LJ;obtain ⟨a2,a3,a4,a5,a6⟩:=info_parts Po;have a7:=Tryz.func220;have a8:(Tryz.f220.name== "runtime.NumGoroutine")=false:=by kernel_rfl
 have a9: Tryz.f220.body.isNone=false:=by kernel_rfl
 have ba:=Ab (fun w=>(Td i w).mono (R':=fun r w'=>r= .returned (.int .i64 i)∧Below w.heap.size w w') (fun r w' ⟨h1,h2⟩=>⟨h1,by rw[h2];exact BRN⟩));have bb: Tryz.prog.types.size+Made.depth= 409:=by kernel_rfl
 refine (Aa aT _ (Aa aW)).mono ?_;rintro r f ⟨⟨u,b,rfl,R⟩,E⟩;have ay:=Q.below E;have az:=aV.trans (Nk.of_all E ax);have Y:=Ac (w':=f) av (fun q hq=>E.block q (av.lt q hq).2);have bc:=E.size;have F:=(Below.refl f.heap.size f).alloc NLN (.cells #[.int .i64 x.op,.int .i64 x.num,.string x.text,.slice u x.names.length b,.slice none 0 0] 80);have S:=Aj.new f #[.int .i64 x.op,.int .i64 x.num,.string x.text,.slice u x.names.length b,.slice none 0 0] 80;have d:=ay.below F;have Z:=az.trans (Nk.of_all F (Nat.le_trans ax bc));have aa:=Ac (w':=f.alloc (.cells #[.int .i64 x.op,.int .i64 x.num,.string x.text,.slice u x.names.length b,.slice none 0 0] 80)) R (fun q hq=>F.block q (R.lt q hq).2);have U:=Ac (w':=f.alloc (.cells #[.int .i64 x.op,.int .i64 x.num,.string x.text,.slice u x.names.length b,.slice none 0 0] 80)) Y (fun q hq=>F.block q (Y.lt q hq).2);have bd:f.heap.size < (f.alloc (.cells #[.int .i64 x.op,.int .i64 x.num,.string x.text,.slice u x.names.length b,.slice none 0 0] 80)).heap.size:=by simp
 have bf:=Ab (show ∀ j,(l:j < (M).length)→∀ q,(M)[j].ownBlock=some q→(Value.slice u x.names.length b).ownBlock≠some q from fun j l q hq e=>by have:=(R.lt q e).1;have:=(Q.nodes.lts.2.1 j l q hq).2;omega);clear R Y ay az E F;dsimp only;go_wp2_with fail
 generalize f.alloc (.cells #[.int .i64 x.op,.int .i64 x.num,.string x.text,.slice u x.names.length b,.slice none 0 0] 80)=c at d Z aa U S bd ⊢;generalize f.heap.size=H at S ⊢;obtain ⟨I,J,m,_⟩:=Af d.nodes.own;have ab:=Ab m;clear m;apply VD
 ·intro bg;have m:=Aa ab;obtain ⟨aA,e1,e2,e3,e4⟩:=LL S;have ac:c.cell? ⟨a,0,none⟩=some (nd):=d.row.cell 0;rw[m] at ac;have aB:=d.row.frozen 0;have aC:=World.news_of_block (heap_alloc_new c (.cells #[.int .i64 x.op,.int .i64 x.num,.string x.text,.slice u x.names.length b,.slice none 0 0] 80));have bh:c.drew.cell? ⟨a,0,none⟩=some (.slice I (N).length J)∧c.drew.frozen? ⟨a,0,none⟩=false:=⟨ac,aB⟩
  have d1:c.drew.cell? ⟨H,0,none⟩=some (.int .i64 x.op):=aA;have d2:c.drew.cell? ⟨H,1,none⟩=some (.int .i64 x.num):=e1;have d3:c.drew.cell? ⟨H,2,none⟩=some (.string x.text):=e2;have d4:c.drew.cell? ⟨H,3,none⟩=some (.slice u x.names.length b):=e3;have d5:c.drew.cell? ⟨H,4,none⟩=some (.slice none 0 0):=e4;have aD:(c.alloc (.cells #[.int .i64 x.op,.int .i64 x.num,.string x.text,.slice u x.names.length b,.slice none 0 0] 80)).drew.ownsRow B 80 5 (.slice I (N).length J) (N).length (DA (N) (M) (O)):=by
   have:=d.nodes.own;rw[m] at this;exact (World.ownsRow.alloc this _).drew
  have V:Aj (c.alloc (.cells #[.int .i64 x.op,.int .i64 x.num,.string x.text,.slice u x.names.length b,.slice none 0 0] 80)).drew a #[nd,C] 161:=⟨(d.row.alloc (.cells #[.int .i64 x.op,.int .i64 x.num,.string x.text,.slice u x.names.length b,.slice none 0 0] 80)).out⟩
  have bi:(c.alloc (.cells #[.int .i64 x.op,.int .i64 x.num,.string x.text,.slice u x.names.length b,.slice none 0 0] 80)).drew.cell? ⟨a,0,none⟩=some (.slice I (N).length J):=by
   have:=V.cell 0;rw[m] at this;exact this
  have aE:(Value.slice I (N).length J).ownBlock≠some a:=by rw[← m];exact Ad d.row d.nodes.own (by decide)
  have bj:B≤c.heap.size:=by have:=d.row.lt;have:=d.low;omega
  clear aA e1 e2 e3 e4 ac aB m;go_region_law (refine step_append_lies _ rfl _ _ 23 rfl B 80 aX (.agg #[.int .i64 0,.int .i64 0,.string ByteArray.empty,.slice none 0 0,.slice none 0 0]) 5 80 Tryz.underlying23 aY aZ a0 a1 rfl (by decide) (.slice I (N).length J) (N).length (DA (N) (M) (O)) rfl aD ⟨c.heap.size,0,none⟩ 1 1 [.int .i64 x.op,.int .i64 x.num,.string x.text,.slice u x.names.length b,.slice none 0 0] rfl rfl aC (by intro u hu;simp at hu;rcases hu with rfl | rfl | rfl | rfl | rfl <;> rfl) (by decide) (by unfold maxLen;omega) (by omega) (by simp;omega) _ rfl ?_;intro g7 c7 ad aF p aG bk;have ae:Aj ad a #[nd,C] 161:=⟨(p.block a V.lt (fun e=>aE e.symm)).trans V.out⟩;have W:=ae.cell 0;have af:=ae.frozen 0)
  all_goals
   have aH:(c.alloc (.cells #[.int .i64 x.op,.int .i64 x.num,.string x.text,.slice u x.names.length b,.slice none 0 0] 80)).grownBy ad (nd).ownBlock:=by rw[Aa ab];exact ⟨p.os,p.tape,p.output,p.size,p.block⟩
   obtain ⟨t,K⟩:=d.pushN (g7:=g7) (c7:=c7) (x:=x) (u:= .slice u x.names.length b) (k:= .slice none 0 0) _ bj (CA aa (by omega)) (by rw[hx];exact CA U (by omega)) (Aa bf) (fun j l q hq e=>(aw q e).2 j l hq) (fun q hq=>(aw q hq).1) aH aF (by rw[Aa ab];exact aG.imp id (fun e=>by rw[e];show (c.alloc _).heap.size=_;simp));have y:=Z.trans K;have ag:=Ab (show ∀ q,(.slice none 0 0 :Value).ownBlock=some q→w.heap.size≤q from fun q hq=>(U.lt q hq).1);clear aF p aG bk ae V bi bh d1 d2 d3 d4 d5 aC aD aH K;clear W af;generalize ad.setCell ⟨a,0,none⟩ (.slice (some ⟨g7,0,none⟩) ((N).length+1) c7)=g at t y ⊢;clear aE;revert ag;revert y;revert t;revert g;revert c7;revert g7;exact bg.out
 intro g7 c7 g t y ag;clear S d Z aa U;go_wp2_with fail
 obtain ⟨z,A,X,_⟩:=Af t.places;have L:=Ab X;have n:=t.below (Cb g);have aI:=y.trans (Nk.of_all (Cb g) (Nat.le_trans ar y.low.size));have bl:g.drew.cell? ⟨a,1,none⟩=some (.slice z (P).length A):=by have:=n.row.cell 1;rw[X] at this;exact this
 have bm:=n.row.frozen 1;have bn:(Value.slice z (P).length A).ownBlock≠some a:=by rw[← X];exact Ad n.row n.places (by decide)
 have bo:=Ab (Aa ba g.drew);have aJ:B≤g.drew.heap.size:=by have:=n.row.lt;have:=n.low;omega
 clear X t y;go_region_law (first
  | (refine G5 rfl _ _ _ rfl T (v) rfl _ bb _ _ aS _ a7 a8 a9 (fun bp w'=>bp= .int .i64 i∧Below g.heap.size g.drew w') ((Aa bo).mono (fun r w' h=>⟨_,h.1,rfl,h.2⟩)) ?_;rintro bC o ⟨rfl,ah⟩;have s:=n.below ah;have aK:=aI.trans (Nk.of_all ah aJ);have bq:B≤o.heap.size:=Nat.le_trans aJ ah.size;have br:o.cell? ⟨a,1,none⟩=some (.slice z (P).length A):=(by have:=s.row.cell 1;rw[Aa L] at this;exact this);have bs:=s.row.frozen 1;have aL:(o.alloc (.cells #[.int .i64 i] 3)).ownsRow B 3 1 (.slice z (P).length A) (P).length (At (P)):=(by have:=s.places;rw[Aa L] at this;exact World.ownsRow.alloc this _);have bt:(o.alloc (.cells #[.int .i64 i] 3)).cell? ⟨a,1,none⟩=some (.slice z (P).length A):=(by have:=(s.row.alloc (.cells #[.int .i64 i] 3)).cell 1;rw[Aa L] at this;exact this);have aM:=World.news_of_block (heap_alloc_new o (.cells #[.int .i64 i] 3));have ai:Aj (o.alloc (.cells #[.int .i64 i] 3)) a #[_,_] 161:=s.row.alloc (.cells #[.int .i64 i] 3))
  | (refine step_append_lies _ rfl _ _ 30 rfl B 3 a2 (.int .i64 0) 1 8 Tryz.underlying30 a3 a4 a5 a6 rfl (by decide) (.slice z (P).length A) (P).length (At (P)) rfl aL ⟨o.heap.size,0,none⟩ 1 1 [.int .i64 i] rfl rfl aM (by intro u hu;simp at hu;rcases hu with rfl;rfl) (by decide) (by unfold maxLen;omega) (by omega) (by simp;omega) _ rfl ?_;intro g6 aN aj aO ak aP bu;have al:Aj aj a #[_,_] 161:=⟨(ak.block a ai.lt (fun e=>bn e.symm)).trans ai.out⟩;have W:=al.cell 1;have af:=al.frozen 1))
 all_goals
  have aQ:(o.alloc (.cells #[.int .i64 i] 3)).grownBy aj (C).ownBlock:=by rw[Aa L];exact ak
  obtain ⟨ao,aR⟩:=s.pushP (g7:=g6) (c7:=aN) _ i bq aQ aO (by rw[Aa L];exact aP.imp id (fun e=>by rw[e];simp));have K:=aK.trans aR;clear aO ak aP bu aQ bl bm br bs bt W af al ai aM aL n s aI aK aR;generalize aj.setCell ⟨a,1,none⟩ (.slice (some ⟨g6,0,none⟩) ((P).length+1) aN)=bv at ao K ⊢;have W:bv.cell? ⟨a,0,none⟩=some (.slice (some ⟨g7,0,none⟩) ((N).length+1) c7):=ao.row.cell 0;go_wp2_with fail
  go_ret
  refine ⟨by simp,_,_, [_], [_],ao,K, ?_⟩;intro j l q hq;have bw:j=0:=by simp at l;exact l
  subst bw;exact Aa ag q hq
end Go.Proofs.YtoplnhndilmlcaaGreatDoor
