/-
  Numbering: number. Own work.
-/
import Derived.Test.YtoplnhndilmlcaaGreatDoorMXAN
namespace Go.Proofs.YtoplnhndilmlcaaGreatDoor
set_option maxRecDepth 100000
set_option maxHeartbeats 3200000
open Go.RowKit
set_option linter.unusedVariables false
theorem ZE:(Tryz.prog.info? 51).map (fun i=>(i.zero,i.size,i.bytes))=some (some (.agg #[.int .i64 0,.string ByteArray.empty,.int .i64 0,.int .i64 0]),4,40):=by kernel_rfl
def Aco (S:List Sx) (w:World) (r:Ending) (w':World):Prop:=
 (∃ nd pl nv kv sv,r= .returned (.tuple #[.agg #[nd,sv],pl])∧A6 w' w.heap.size nd (A9 0 S) nv kv∧w'.ownsRow w.heap.size 51 4 sv S.length (AR (Dn 0 S))∧w'.ownsRow w.heap.size 3 1 pl (De S).length (At (De S))∧(∀ q,pl.ownBlock=some q→∀ j,(hj:j < kv.length)→kv[j].ownBlock≠some q))∧Below w.heap.size w w'
theorem IU (a:Option Ex):(DG a).oneCell'=true:=by
 cases a with
 | none=>rfl
 | some e=>obtain ⟨t,u,h⟩:=Ex.form e;rw[DG,h];rfl
theorem SQ (S:List Sx)(g m c:Nat)(aP:Array Value)(w:World)(hm:S.length=m)(R:Aj w g aP 47)(aQ:∀ (r:Nat) (u:Value),(NE S)[r]? =some u→aP[r]? =some u)(aR:∀ x∈S,Vm w x.cond∧Vm w x.grant)(aS:Dt S≤65535)(b3:m≤65535):
  Calls Tryz.prog 41 #[.slice (some ⟨g,0,none⟩) m c] w (Aco S w):=by
 have al:=Ab hm;have bp:=Ab aQ;have bq:=Ab aS;have br:=Ab aR;obtain ⟨bs,bt,bu,bv,bw⟩:=info_parts ZE;have aT:=(Below.refl w.heap.size w).alloc NLN (.cells #[.slice none 0 0,.slice none 0 0] 26);have ao:=aT.alloc aT.size (.cells #[.slice none 0 0,.slice none 0 0] 161);have bx:=(Aj.new w #[.slice none 0 0,.slice none 0 0] 26).alloc (.cells #[.slice none 0 0,.slice none 0 0] 161);have ap:=Aj.new (w.alloc (.cells #[.slice none 0 0,.slice none 0 0] 26)) #[.slice none 0 0,.slice none 0 0] 161;simp only[World.size_alloc] at ap;have bz:KH ((w.alloc (.cells #[.slice none 0 0,.slice none 0 0] 26)).alloc (.cells #[.slice none 0 0,.slice none 0 0] 161)) w.heap.size (w.heap.size+1) [] [] (.slice none 0 0) (.slice none 0 0) [] []:=⟨ap,A6.nil _ _,World.ownsRow_nil _ _ _ _,(fun q hq=>by cases hq),Nat.le_succ _⟩
 have bA:(Tryz.f79.name== "runtime.NumGoroutine")=false:=by kernel_rfl
 have bB: Tryz.f79.body.isNone=false:=by kernel_rfl
 clear hm aQ aS aR ap;go_enter Tryz.func41,Tryz.ntmps41
 go_wp2_with fail
 go_loopw [5,11] (fun v i wr=>∃ (k:Nat) (nd N:Value) (t y:List Value),k≤m∧i= .int .i64 k∧wr.ownsRow w.heap.size 51 4 v k (AR (Dn 0 (S.take k)))∧KH wr w.heap.size (w.heap.size+1) (A9 0 (S.take k)) (De (S.take k)) nd N t y∧Aj wr w.heap.size #[.slice none 0 0,.slice none 0 0] 26∧Below w.heap.size w wr) (fun _ i _=>m - (intOf i).toNat)
 case atStart=>exact ⟨0,_,_,_,_,by omega,rfl,World.ownsRow_nil _ _ _ _,bz,bx,ao⟩
 case round=>
  obtain ⟨k,nd,N,t,y,hk,rfl,z,a,PR,B⟩:=hrel;by_cases O:k < m
  ·have b5:(k:Int) < (m:Int):=by omega
   have ad:k < S.length:=by rw[Aa al];exact O
   have aU:=R.after B NLN;have C:∀ r,r < 5→∀ u,(Xa S[k])[r]? =some u→wr.cell? ⟨g,k * 5+r,none⟩=some u:=fun r bC u hu=>by
    rw[aU.cell];refine Aa bp _ _ ?_;rw[SM S k ad r bC];exact hu
   have aq:=C 0 (by decide) _ rfl;have c1:=C 1 (by decide) _ rfl;have c2:=C 2 (by decide) _ rfl;have c3:=C 3 (by decide) _ rfl;have c4:=C 4 (by decide) _ rfl;simp only[Nat.add_zero] at aq;have ar:S.take (k+1)=S.take k ++ [S[k]]:=List.take_succ_eq_append_getElem ad;have bD:(S.take k).length=k:=by rw[List.length_take];omega
   have au:Dt (S.take k)+(AU S[k].cond+AU S[k].grant)≤65535:=by
    have h1:=Aa bq;have h2:S=S.take (k+1) ++S.drop (k+1):=(List.take_append_drop _ _).symm;rw[h2,ar,QT,QT,Cq] at h1;omega
   have ae:=JI S[k] (S.take k) 0;have av:=NS S[k] (S.take k);have eT:=JJ S[k] (S.take k) 0;rw[← ar] at ae av eT;rw[Nat.zero_add,← EF (S.take k) 0] at ae eT;have aw:(A9 0 (S.take k)).length+(AU S[k].cond+AU S[k].grant)≤65535:=by rw[EF];exact au
   have ax:(De (S.take k)).length+(AU S[k].cond+AU S[k].grant)≤65535:=by rw[Gx];exact au
   have ay:=VO (Dn 0 (S.take k)) ⟨S[k].kind,S[k].name,LC S[k].cond (A9 0 (S.take k)).length,LC S[k].grant ((A9 0 (S.take k)).length+AU S[k].cond)⟩;rw[← eT] at ay;have E:=Ab (And.intro ae (And.intro av ay));obtain ⟨aV,aW⟩:=Aa br S[k] (List.getElem_mem ad);have az:=Ab (And.intro aV aW);have aX:=Ab O;have b6:=aU.lt;clear C ae av eT ay ar bD au aV aW O;generalize S[k]=x at aq c1 c2 c3 c4 aw ax E az;dsimp only at E;have F:=Ab (show ∀ v A H I P Q,A.ownsRow w.heap.size 51 4 v (k+1) (AR (Dn 0 (S.take k)) ++ [.int .i64 x.kind,.string x.name,.int .i64 (LC x.cond (A9 0 (S.take k)).length),.int .i64 (LC x.grant ((A9 0 (S.take k)).length+AU x.cond))])→KH A w.heap.size (w.heap.size+1) (A9 0 (S.take k) ++IV x.cond (A9 0 (S.take k)).length ++IV x.grant ((A9 0 (S.take k)).length+AU x.cond)) (De (S.take k) ++PT x.cond ++PT x.grant) H I P Q→A.ownsRow w.heap.size 51 4 v (k+1) (AR (Dn 0 (S.take (k+1))))∧KH A w.heap.size (w.heap.size+1) (A9 0 (S.take (k+1))) (De (S.take (k+1))) H I P Q from fun v A H I P Q h1 h2=>by
    obtain ⟨e1,e2,e3⟩:=Aa E;rw[e1,e2,e3];exact ⟨h1,h2⟩)
   generalize AR (Dn 0 (S.take k))=ao at z F;generalize A9 0 (S.take k)=M at a F aw ax E;generalize De (S.take k)=aA at a F aw ax E;clear E ad;obtain ⟨q3,af⟩:∃ v,v=DG x.cond:=⟨_,rfl⟩
   obtain ⟨q4,ag⟩:∃ v,v=DG x.grant:=⟨_,rfl⟩
   rw[← af] at c3;rw[← ag] at c4;have aB:=B.alloc B.size (.cells #[.int .i64 x.at',.int .i64 x.kind,.string x.name,q3,q4] 47);have ah:=(Below.refl wr.heap.size wr).alloc NLN (.cells #[.int .i64 x.at',.int .i64 x.kind,.string x.name,q3,q4] 47);have aY:=Aj.new wr #[.int .i64 x.at',.int .i64 x.kind,.string x.name,q3,q4] 47;have aC:=Ab (AbR w.heap.size (w.heap.size+1) w NLN x.cond (Aa az).1 M aA nd N t y _ aB (a.below ah) (by omega) (by omega));have T:=Ab (fun nd N t y aZ (bE:Below w.heap.size w aZ) h=>AbR w.heap.size (w.heap.size+1) w NLN x.grant (Aa az).2 (M ++IV x.cond M.length) (aA ++PT x.cond) nd N t y aZ bE h (by rw[List.length_append,GX];omega) (by rw[List.length_append,IX];omega));have a0:(M ++IV x.cond M.length).length=M.length+AU x.cond:=by rw[List.length_append,GX]
   rw[a0] at T;rw[← af] at aC;rw[← ag] at T;have a3:=IU x.cond;have a4:=IU x.grant;rw[← af] at a3;rw[← ag] at a4;have ai:=World.ownsRow.alloc z (.cells #[.int .i64 x.at',.int .i64 x.kind,.string x.name,q3,q4] 47);have s:=a.below ah;have n:=PR.after ah NLN;clear af ag ah a0;go_wp2_with fail
   rw[run_store _ _ _ _ _ a3];go_simp
   rw[run_store _ _ _ _ _ a4];go_simp
   go_wp2_with fail
   refine (Aa aC).mono ?_;rintro r o ⟨rfl,bF,bG,bH,bI,a5,U⟩;have a6:=U.row s aY (by decide) (by decide) (by decide);have J:=U.row s n (by decide) (by decide) (by decide);have aD:=U.stm s ai;have aE:=aB.trans U.low;clear U s aY n ai aB aC aq c1 c2 c3 c4;generalize LC x.cond M.length=aj at F ⊢;generalize LC x.grant (M.length+AU x.cond)=V at F T;obtain ⟨f,l,rfl,_⟩:=Af aD;have W:=a5.below (Cb o);have X:=a6.after (Cb o) NLN;have a7:=J.after (Cb o) NLN;have a8:=Ac (w':=o.drew) aD (fun q hq=>rfl);have aF:=aE.trans ((Cb o).mono aE.size);have a9:=Ab ((Aa T _ _ _ _ _ aF W).mono (R':=fun e w'=>∃ v,e= .returned v∧(v= .int .i64 V∧∃ H I P Q,KH w' w.heap.size (w.heap.size+1) (M ++IV x.cond M.length ++IV x.grant (M.length+AU x.cond)) (aA ++PT x.cond ++PT x.grant) H I (t ++bH ++P) (y ++bI ++Q)∧Nk w.heap.size (w.heap.size+1) bF bG o.drew H I w')) (fun r w' h=>⟨_,h.1,rfl,h.2⟩));have b1:o.drew.cell? ⟨wr.heap.size,1,none⟩=some (.int .i64 x.kind):=X.cell 1;have b2:o.drew.cell? ⟨wr.heap.size,2,none⟩=some (.string x.name):=X.cell 2;have b4:o.drew.cell? ⟨wr.heap.size,4,none⟩=some q4:=X.cell 4;clear a5 a6 J aD aE T;dsimp only;go_wp2_with fail
   apply VD
   ·intro bJ;go_region_law (first
     | (refine D0 rfl 79 _ Tryz.func79 bA bB _ _ _ rfl (.pointer (some ⟨w.heap.size+1,0,none⟩)) q4 rfl rfl _ (Aa a9) ?_;rintro b7 Y ⟨rfl,Gi,aG,ba,bb,bc,Z⟩;have aH:=Z.row W X (by decide) (by decide) (by decide);have ak:=Z.row W a7 (by decide) (by decide) (by decide);have aa:=Z.stm W a8;have ab:=aF.trans Z.low;have a1:Y.cell? ⟨wr.heap.size,1,none⟩=some (.int .i64 x.kind):=aH.cell 1;have a2:Y.cell? ⟨wr.heap.size,2,none⟩=some (.string x.name):=aH.cell 2;have bd:=World.news_of_block (heap_alloc_new Y (.cells #[.int .i64 x.kind,.string x.name,.int .i64 aj,.int .i64 V] 51));have bf:=World.ownsRow.alloc aa (.cells #[.int .i64 x.kind,.string x.name,.int .i64 aj,.int .i64 V] 51))
     | (refine step_append_lies _ rfl _ _ 24 rfl w.heap.size 51 bs (.agg #[.int .i64 0,.string ByteArray.empty,.int .i64 0,.int .i64 0]) 4 40 Tryz.underlying24 bt bu bv bw rfl (by decide) (.slice f k l) k ao rfl bf ⟨Y.heap.size,0,none⟩ 1 1 [.int .i64 x.kind,.string x.name,.int .i64 aj,.int .i64 V] rfl rfl bd (by intro u hu;simp at hu;rcases hu with rfl | rfl | rfl | rfl <;> rfl) (by decide) (by unfold maxLen;omega) (by omega) (by have:=ab.size;simp;omega) _ rfl ?_;intro g7 c7 aI bg aJ bK O))
    all_goals
     have aK:=Ao aJ;have bh:=bc.other aa aK;have bi:Aj aI w.heap.size #[.slice none 0 0,.slice none 0 0] 26:=⟨(aK _ ak.lt (Ad ak aa (by decide))).trans ak.out⟩
     have bj:=(ab.alloc ab.size (.cells #[.int .i64 x.kind,.string x.name,.int .i64 aj,.int .i64 V] 51)).grown aJ (by have:=ab.size;simp;omega) (fun q hq=>(aa.lt q hq).1);have K:=Ab (And.intro (Aa F _ _ _ _ _ _ bg bh) (And.intro bi bj));clear aK bh bi bj bg aJ bK O bd bf aa a1 a2 ab aH ak bc Z;generalize Y.heap.size=h5;revert K;revert bb;revert ba;revert aG;revert Gi;revert aI;revert c7;revert g7;revert h5;exact bJ.out
   intro h5 g7 c7 aI Gi aG ba bb K;clear b1 b2 b4 W X a7 a8 aF a9;go_wp2_with fail
   go_roundw
   case rel=>exact ⟨k+1,Gi,aG,_,_,Aa aX,by go_num,(Aa K).1.1,(Aa K).1.2,(Aa K).2.1,(Aa K).2.2⟩
   case measure=>have:=Aa aX;simp[intOf];omega
  ·have e:k=m:=by omega
   subst e;have eT:S.take k=S:=by rw[← Aa al,List.take_length]
   rw[eT] at z a;obtain ⟨f,l,rfl,_⟩:=Af z;obtain ⟨b,d,rfl,_⟩:=Af a.nodes.own;obtain ⟨aL,aM,rfl,_⟩:=Af a.places;have s:=a.below (Cb wr);have n:=PR.after (Cb wr) NLN;have ai:=Ac (w':=wr.drew) z (fun q hq=>rfl);have bL:=B.trans ((Cb wr).mono B.size);have bM:wr.drew.cell? ⟨w.heap.size+1,0,none⟩=some (.slice b (A9 0 S).length d):=s.row.cell 0;have bN:wr.drew.cell? ⟨w.heap.size+1,1,none⟩=some (.slice aL (De S).length aM):=s.row.cell 1;have bO:wr.drew.cell? ⟨w.heap.size,0,none⟩=some (.slice none 0 0):=n.cell 0;have bP:wr.drew.cell? ⟨w.heap.size,1,none⟩=some (.slice none 0 0):=n.cell 1;have bQ:=n.frozen 0;have bR:=n.frozen 1;have J:=n.set 0 (.slice b (A9 0 S).length d);have bS:(wr.drew.setCell ⟨w.heap.size,0,none⟩ (.slice b (A9 0 S).length d)).cell? ⟨w.heap.size,1,none⟩=some (.slice none 0 0):=J.cell 1;have bT:=J.frozen 1;have bU:wr.cell? ⟨w.heap.size+1,0,none⟩=some (.slice b (A9 0 S).length d):=a.row.cell 0;have bV:wr.cell? ⟨w.heap.size+1,1,none⟩=some (.slice aL (De S).length aM):=a.row.cell 1;have bW:wr.cell? ⟨w.heap.size,0,none⟩=some (.slice none 0 0):=PR.cell 0;have bX:wr.cell? ⟨w.heap.size,1,none⟩=some (.slice none 0 0):=PR.cell 1;have bY:=PR.frozen 0;have bZ:=PR.frozen 1;clear bS bT;go_wp2_with fail
   go_region_law fail
   all_goals
    have L:∀ q,q≠w.heap.size→((wr.setCell ⟨w.heap.size,0,none⟩ (.slice b (A9 0 S).length d)).setCell ⟨w.heap.size,1,none⟩ (.slice f k l)).heap[q]? =wr.heap[q]? :=fun q hq=>(heap_setCell_other _ ⟨w.heap.size,1,none⟩ q _ hq).trans (heap_setCell_other wr ⟨w.heap.size,0,none⟩ q _ hq);have aN:=(PR.set 0 (.slice b (A9 0 S).length d)).set 1 (.slice f k l);have bk:((wr.setCell ⟨w.heap.size,0,none⟩ (.slice b (A9 0 S).length d)).setCell ⟨w.heap.size,1,none⟩ (.slice f k l)).cell? ⟨w.heap.size,0,none⟩=some (.slice b (A9 0 S).length d):=aN.cell 0;have bl:((wr.setCell ⟨w.heap.size,0,none⟩ (.slice b (A9 0 S).length d)).setCell ⟨w.heap.size,1,none⟩ (.slice f k l)).cell? ⟨w.heap.size,1,none⟩=some (.slice f k l):=aN.cell 1;have aO:=(B.setCell (p:=⟨w.heap.size,0,none⟩) NLN (.slice b (A9 0 S).length d)).setCell (p:=⟨w.heap.size,1,none⟩) NLN (.slice f k l);have bm:=a.nodes.upto (fun q hq=>L q (fun e=>Ad PR a.nodes.own (by decide) (by rw[hq,e]))) (fun j ac q hq=>L q (fun e=>Ad PR (a.nodes.names j (by rw[← a.nodes.len];exact ac) ac) (by decide) (by rw[hq,e]))) (fun j ac q hq=>L q (fun e=>Ad PR (a.nodes.kids j (by rw[← a.nodes.lenk];exact ac) ac) (by decide) (by rw[hq,e])));have bn:=Ac z (fun q hq=>L q (fun e=>Ad PR z (by decide) (by rw[hq,e])));have bo:=Ac a.places (fun q hq=>L q (fun e=>Ad PR a.places (by decide) (by rw[hq,e])));have b0:=a.apart;clear L aN bM bN bU bV bO bP bW bX bQ bR bY bZ J n s ai bL;generalize (wr.setCell ⟨w.heap.size,0,none⟩ (.slice b (A9 0 S).length d)).setCell ⟨w.heap.size,1,none⟩ (.slice f k l)=A at bk bl aO bm bn bo ⊢;go_wp2_with fail
    refine bodyPost_ret (v:= .tuple #[.agg #[.slice b (A9 0 S).length d,.slice f k l],.slice aL (De S).length aM]) (by simp[results,Tryz.results41,go_sem,bk,bl]) rfl ⟨⟨_,_,t,y,_,rfl, ?_, ?_, ?_,b0⟩, ?_⟩
    ·exact bm.blocks (fun q _ _=>rfl)
    ·rw[Aa al];exact Ac bn (fun q hq=>rfl)
    ·exact Ac bo (fun q hq=>rfl)
    ·exact aO.trans ((Cb A).mono aO.size)
end Go.Proofs.YtoplnhndilmlcaaGreatDoor
