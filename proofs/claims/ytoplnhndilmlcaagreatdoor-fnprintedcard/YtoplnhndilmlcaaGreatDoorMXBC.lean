/-
  HB, HC. Own work.
-/
import Derived.Test.YtoplnhndilmlcaaGreatDoorMXAY
import Derived.Test.YtoplnhndilmlcaaGreatDoorMXBB
import Derived.Test.YtoplnhndilmlcaaGreatDoorMXAL
namespace Go.Proofs.YtoplnhndilmlcaaGreatDoor
set_option maxRecDepth 100000
set_option maxHeartbeats 6400000
open Go.RowKit
set_option linter.unusedVariables false
variable {a1 a2 a3 a4 a5 a6 : Addr}
structure YU (w:World) (a1 a2 a3 a4 a5 a6:Addr):Prop where
 s6:S6 w a1 a2 a3 a4 a5 a6
 tab:∀ k,w.cell? ⟨10,k,none⟩=Eh[k]?
theorem YU.below {w w':World}(h:YU w a1 a2 a3 a4 a5 a6)(a:Below w.heap.size w w'):YU w' a1 a2 a3 a4 a5 a6:=
 ⟨h.s6.below a NLN,fun k=>(a.cell (p:=⟨10,k,none⟩) (by have:=h.s6.big;show 10 < _;omega)).trans (h.tab k)⟩
theorem YU.gy {w:World}(h:YU w a1 a2 a3 a4 a5 a6):Gy w a4:=⟨h.s6.g4,h.s6.big,h.tab⟩
def PqA (a1 a2 a3 a4 a5 a6:Addr) (R:List Nd × List St × List Int × Int × Int) (w:World) (r:Ending) (w':World):Prop:=
 ((R.2.2.2.1=0∧R.2.2.2.2=0∧∃ nd pl nv kv sv,r= .returned (.tuple #[.agg #[nd,sv],pl,.nilIface])∧A6 w' w.heap.size nd R.1 nv kv∧w'.ownsRow w.heap.size 51 4 sv R.2.1.length (AR R.2.1)∧w'.ownsRow w.heap.size 3 1 pl R.2.2.1.length (At R.2.2.1)∧(∀ q,pl.ownBlock=some q→∀ j,(hj:j < kv.length)→kv[j].ownBlock≠some q))∨
   (R.1= []∧R.2.1= []∧R.2.2.1= []∧1≤R.2.2.2.1∧R.2.2.2.1≤3∧∃ b,r= .returned (.tuple #[.agg #[.slice none 0 0,.slice none 0 0],.slice none 0 0,By b])∧Aj w' b #[.int .i64 R.2.2.2.2,Il a1 a2 a3 R.2.2.2.1] 107)∨
   (R.1= []∧R.2.1= []∧R.2.2.1= []∧4≤R.2.2.2.1∧R.2.2.2.1≤6∧∃ b,r= .returned (.tuple #[.agg #[.slice none 0 0,.slice none 0 0],.slice none 0 0,By b])∧ErP a4 a5 a6 R.2.2.2.1 R.2.2.2.2 b w'))∧Below w.heap.size w w'
theorem Pc {w:World}{b c:Nat}{cs f:Array Value}{t d:TypeId}(R:Aj w b cs t)(R':Aj w c f d)(h:t≠d):b≠c:=fun e=>by
 have a:=R.out;have g:=R'.out;rw[e,g] at a;injection a with a;injection a with _ a;exact h a.symm
theorem A6.low {w:World}{lo d:Nat}{v:Value}{N:List Nd}{f g:List Value}(h:A6 w lo v N f g)(a:d≤lo):A6 w d v N f g:=
 ⟨h.len,h.lenk,CB h.own a,fun j b c=>CB (h.names j b c) a,fun j b c=>CB (h.kids j b c) a,h.apart,h.apartk⟩
theorem LE {d:Func}{a u v:Tmp}(h:d.results= #[.cell a 26,.tmp u,.tmp v]){c:Array Value}{w:World}{b:Nat}{v0 v1 e f:Value}(g:c.getD a undef= .pointer (some ⟨b,0,none⟩))(hu:c.getD u undef=e)(i:c.getD v undef=f)
  (R:Aj w b #[v0,v1] 26):(results d c).run Tryz.prog w= .ok (.tuple #[.agg #[v0,v1],e,f]) w:=by
 rw[Array.getD_eq_getD_getElem?] at g hu i;have j:w.cell? ⟨b,0,none⟩=some v0:=R.cell 0;have g1:w.cell? ⟨b,1,none⟩=some v1:=R.cell 1;simp[results,h,g,hu,i,go_sem,j,g1]
theorem Vn (t:ByteArray)(x:QR)(d:DP (AW t).toks x)(w:World)(aQ:YU w a1 a2 a3 a4 a5 a6):
  Calls Tryz.prog 17 #[.string t] w (PqA a1 a2 a3 a4 a5 a6 (PU t x) w):=by
 have f:=(Below.refl w.heap.size w).alloc NLN (.cells #[.slice none 0 0,.slice none 0 0] 26);have L:=Aj.new w #[.slice none 0 0,.slice none 0 0] 26;have B:=Ab (aQ.below f);have ay:=Ab d;have bC:=Ab (QA t);clear aQ d;go_enter Tryz.func17,Tryz.ntmps17
 go_wp2_with fail
 generalize aR:w.alloc (.cells #[.slice none 0 0,.slice none 0 0] 26)=n at *;have ca:w.heap.size < n.heap.size:=by rw[← aR];simp
 clear aR;refine (Xk t n (Aa B).s6.snt).mono ?_;rintro e aS (⟨hc,bD,cb,cc,rfl,az,aT,m⟩ | ⟨bE,h1,h3,b,rfl,aU,m⟩)
 ·have M:=L.after m NLN;have aV:=f.trans (m.mono f.size);have ad:=Ab hc;have cd:=Ab ((Aa B).below m);have bF:=Aa bC;have bG:=Ab aT;generalize bH:(AW t).toks=T at *;clear hc bD aT bH;obtain ⟨i,hi,bI,bJ,bK⟩:=info_parts AaE;have aW:=m.alloc m.size (.cells #[.int .i64 0,.int .i64 0,.string ⟨#[]⟩,.int .i64 (t.size:Int)] 93);have aX:=az.alloc (.cells #[.int .i64 0,.int .i64 0,.string ⟨#[]⟩,.int .i64 (t.size:Int)] 93);have aY:=Aj.new aS #[.int .i64 0,.int .i64 0,.string ⟨#[]⟩,.int .i64 (t.size:Int)] 93;dsimp only;go_wp2_with (at_builtin;refine wpList_append_own _ rfl _ _ 89 rfl n.heap.size 93 i (.agg #[.int .i64 0,.int .i64 0,.string ByteArray.empty,.int .i64 0]) 4 40 Tryz.underlying89 hi bI bJ bK rfl (by decide) _ _ _ rfl aX ⟨aS.heap.size,0,none⟩ 1 1 (JE (eT t.size)) rfl rfl ?c1 ?c2 ?c3 ?c4 ?c5 ?_)
  case c1=>exact NM (x:=eT t.size) aY
  case c2=>exact Uq _
  case c3=>unfold maxLen;omega
  case c4=>omega
  case c5=>have:=m.size;simp;omega
  intro ce C ae aZ _;have af:Below n.heap.size n C:=aW.grown aZ (by simp;have:=m.size;omega) (fun q hq=>(az.lt q hq).1);rw[← NN] at ae;obtain ⟨cf,ag,bL,a0⟩:=Af ae;obtain ⟨ah,bM,cg,_⟩:=a0 (by omega);subst bM;subst bL;clear aZ az aX aY aW a0;have U:=af.alloc af.size (.cells #[.slice (some ⟨ah,0,none⟩) (T.length+1) ag,.int .i64 0] 95);have a7:Pp (C.alloc (.cells #[.slice (some ⟨ah,0,none⟩) (T.length+1) ag,.int .i64 0] 95)) C.heap.size ah ag T t.size T 0:=⟨Aj.new C _ _,CB (ae.alloc _) (Nat.zero_le _),by simp,by simp,bF⟩
  have aA:=(Aa B).below U;have bN: 16≤C.heap.size:=Nat.le_trans (Aa B).s6.big af.size;have a8:=Ab (SG bN T x (Aa ay) _ 0 a7 aA.gy);have ch:=Ab aA;clear a7 aA ae;go_wp2_with fail
  generalize a9:C.alloc (.cells #[.slice (some ⟨ah,0,none⟩) (T.length+1) ag,.int .i64 0] 95)=aB at *;have ci:C.heap.size < aB.heap.size:=by rw[← a9];simp
  clear a9;have ba:=af.size;refine (Aa a8).mono ?_;intro aC N bb;cases x with
  | bad q=>
   obtain ⟨⟨b,rfl,V⟩,ai⟩:=bb;have E:Below n.heap.size n N:=Fd U ai ba U.size;have W:=L.after E NLN;have F:=f.trans (E.mono f.size);have o:=Ab (Up (t:=t) (q:=q) (Aa ad));have s:=W.cell 0;have v:=W.cell 1;have aj:=fun j=>W.frozen j;simp only[List.getElem?_toArray,List.getElem?_cons_zero,List.getElem?_cons_succ] at s v;have A:Aj N b #[.int .i64 ((CX t.size q).at_:Int),.iface 256 (.pointer (some a4))] 107:=V;dsimp only[By];go_wp2_with fail
   have y:=(W.set 0 (.slice none 0 0)).set 1 (.slice none 0 0);have z:=(F.setCell (p:=⟨w.heap.size,0,none⟩) NLN (.slice none 0 0)).setCell (p:=⟨w.heap.size,1,none⟩) NLN (.slice none 0 0);have h:b≠w.heap.size:=Pc A W (by decide);have H:=(A.setFar (p:=⟨w.heap.size,0,none⟩) h (.slice none 0 0)).setFar (p:=⟨w.heap.size,1,none⟩) h (.slice none 0 0);rw[Aa o];exact bodyPost_ret (LE Tryz.results17 rfl rfl rfl y) rfl ⟨.inr (.inr ⟨rfl,rfl,rfl,by show (4 :Int)≤4;omega,by show (4 :Int)≤6;omega,b,rfl,H⟩),z⟩
  | ok S=>
   obtain ⟨⟨X,a,ak,rfl,aD,al,bO⟩,ai⟩:=bb;have E:Below n.heap.size n N:=Fd U ai ba U.size;have aE:=(Aa ay).cut S rfl;have bP:=aE.cnt;obtain ⟨bc,bd,bf,Y,bg⟩:=Cy.same X S al;have bQ:=Cy.len X S al;have bh:X.length≠0:=fun e=>(Aa ay).ne S rfl (List.eq_nil_of_length_eq_zero (by omega));have bi:=Cy.sok X S al (fun q hq=>by rw[← aE.sets] at hq;exact LD T (Aa bG) (by omega) q hq);rcases aD.2 with ⟨_,h0⟩ | ⟨g,cap,aF,bj,bR,bk,bS,bT,bU,bl⟩
   ·exact absurd h0 bh
   simp only[Value.slice.injEq,true_and] at bj;obtain ⟨rfl,rfl⟩:=bj;have bm:Aj N g aF 47:=⟨bk⟩
   have bn:∀ (r:Nat) (u:Value),(NE X)[r]? =some u→aF[r]? =some u:=fun r u hu=>by
    rw[← bl,List.getElem?_take] at hu;split at hu
    ·simpa using hu
    ·cases hu
   have bo:=Ab (SQ X g X.length ak aF N rfl bm bn bi (by rw[Y];omega) (by omega));have l:=Ab (And.intro bc (And.intro bd (And.intro bf (And.intro Y bg))));have bV:=Ab (show ∀ x∈X,AU x.cond≤65535∧AU x.grant≤65535 from fun x hx=>by have:=Xi hx;rw[Y] at this;omega);have bW:=Ab (show Dt X≤65535 by rw[Y];omega);have ao:=Ab aD;have cj:=Ab ((Aa B).below E);clear bk bn bl bU bT bS bi aE bP bc bd bf Y bg al bm ai aD a8 bQ bh bR;dsimp only;go_wp2_with fail
   refine (Aa bo).mono ?_;rintro aC O ⟨⟨nd,ck,bp,bq,cl,rfl,aG,ap,aq,br⟩,aH⟩;obtain ⟨I,J,rfl,_⟩:=Af aG.own;obtain ⟨cm,cn,rfl,_⟩:=Af aq;obtain ⟨K,cs,rfl,_⟩:=Af ap;have aI:=E.trans (aH.mono E.size);have ar:=(Below.refl O.heap.size O).alloc NLN (.cells #[.slice I (A9 0 X).length J,.slice K X.length cs] 26);have bX:=Aj.new O #[.slice I (A9 0 X).length J,.slice K X.length cs] 26;have aJ:=aI.alloc aI.size (.cells #[.slice I (A9 0 X).length J,.slice K X.length cs] 26);have aK:=aG.blocks (fun k _ hk=>ar.block k hk);have aL:=Ac aq (fun q hq=>ar.block q (aq.lt q hq).2);have bs:=Ac ap (fun q hq=>ar.block q (ap.lt q hq).2);have bY:=Ab (SN (A9 0 X) (De X) _ _ bp bq _ _ aK aL (by rw[EF,Gx]) (by rw[EF];exact Aa bW) ((Aa B).below aJ).s6);have bZ:=Ab aK;have bt:=Ab aL;have bu:=Ab bs;have b0:=Ab br;have bv:=Ab (Ac (Aa ao) (fun q hq=>by rw[ar.block q (Nat.lt_of_lt_of_le ((Aa ao).lt q hq).2 aH.size),aH.block q ((Aa ao).lt q hq).2]):World.ownsRow _ aB.heap.size 47 5 (.slice (some ⟨g,0,none⟩) X.length ak) X.length (NE X));have co:=E.size;clear aG aq ap aK aL bs br bo ao;dsimp only;go_wp2_with fail
   generalize b1:O.alloc (.cells #[.slice I (A9 0 X).length J,.slice K X.length cs] 26)=cp at *;clear b1;refine (Aa bY).mono ?_;rintro aC aM ⟨au,Z⟩;have aa:=aJ.trans (Z.mono aJ.size);have b2:=bX.after Z NLN;cases P:(Jv (A9 0 X) (De X)).head? with
   | some i=>
    rw[P] at au;obtain ⟨b,rfl,V⟩:=au;have o:=Ab (Qy (t:=t) (S:=S) (i:=i) (Aa ad) (by rw[← IW S 0,← (Aa l).1 0,← (Aa l).2.2.1];exact P));clear P;have c:=L.after aa NLN;have F:=f.trans (aa.mono f.size);have s:=c.cell 0;have v:=c.cell 1;have aj:=fun j=>c.frozen j;simp only[List.getElem?_toArray,List.getElem?_cons_zero,List.getElem?_cons_succ] at s v;have A:Aj aM b _ 107:=V;dsimp only[By];go_wp2_with fail
    have y:=(c.set 0 (.slice none 0 0)).set 1 (.slice none 0 0);have z:=(F.setCell (p:=⟨w.heap.size,0,none⟩) NLN (.slice none 0 0)).setCell (p:=⟨w.heap.size,1,none⟩) NLN (.slice none 0 0);have h:b≠w.heap.size:=Pc A c (by decide);have H:=(A.setFar (p:=⟨w.heap.size,0,none⟩) h (.slice none 0 0)).setFar (p:=⟨w.heap.size,1,none⟩) h (.slice none 0 0);rw[Aa o];exact bodyPost_ret (LE Tryz.results17 rfl rfl rfl y) rfl ⟨.inr (.inr ⟨rfl,rfl,rfl,by show (4 :Int)≤5;omega,by show (5 :Int)≤6;omega,b,rfl,H⟩),z⟩
   | none=>
    rw[P] at au;subst au;have b3:=Ab (Ac (Aa bv) (fun q hq=>Z.block q ((Aa bv).lt q hq).2):aM.ownsRow aB.heap.size 47 5 (.slice (some ⟨g,0,none⟩) X.length ak) X.length (NE X));have bw:=Ab P;have b4:=Ab (Qv X (.nilIface) aM _ _ ak (Aa b3) (Aa bV) bO ((Aa B).below aa).s6);clear P;dsimp only;go_wp2_with fail
    refine (Aa b4).mono ?_;rintro aC av ⟨aw,aN⟩;have ax:=aa.trans (aN.mono aa.size);have bx:=b2.after aN NLN;cases Q:KS X with
    | some i=>
     rw[Q] at aw;obtain ⟨b,rfl,V⟩:=aw;have o:=Ab (Qz (t:=t) (S:=S) (i:=i) (Aa ad) (by rw[← IW S 0,← (Aa l).1 0,← (Aa l).2.2.1];exact Aa bw) (by rw[← (Aa l).2.2.2.2];exact Q));clear Q;have c:=L.after ax NLN;have F:=f.trans (ax.mono f.size);have s:=c.cell 0;have v:=c.cell 1;have aj:=fun j=>c.frozen j;simp only[List.getElem?_toArray,List.getElem?_cons_zero,List.getElem?_cons_succ] at s v;have A:Aj av b _ 107:=V;dsimp only[By];go_wp2_with fail
     have y:=(c.set 0 (.slice none 0 0)).set 1 (.slice none 0 0);have z:=(F.setCell (p:=⟨w.heap.size,0,none⟩) NLN (.slice none 0 0)).setCell (p:=⟨w.heap.size,1,none⟩) NLN (.slice none 0 0);have h:b≠w.heap.size:=Pc A c (by decide);have H:=(A.setFar (p:=⟨w.heap.size,0,none⟩) h (.slice none 0 0)).setFar (p:=⟨w.heap.size,1,none⟩) h (.slice none 0 0);rw[Aa o];exact bodyPost_ret (LE Tryz.results17 rfl rfl rfl y) rfl ⟨.inr (.inr ⟨rfl,rfl,rfl,by show (4 :Int)≤6;omega,by show (6 :Int)≤6;omega,b,rfl,H⟩),z⟩
    | none=>
     rw[Q] at aw;subst aw;have o:=Ab (SP (t:=t) (S:=S) (Aa ad) (by rw[← IW S 0,← (Aa l).1 0,← (Aa l).2.2.1];exact Aa bw) (by rw[← (Aa l).2.2.2.2];exact Q));clear Q;have c:=L.after ax NLN;have F:=f.trans (ax.mono f.size);have s:=c.cell 0;have v:=c.cell 1;have aj:=fun j=>c.frozen j;have b5:=bx.cell 0;have b6:=bx.cell 1;simp only[List.getElem?_toArray,List.getElem?_cons_zero,List.getElem?_cons_succ] at s v b5 b6;have nz:O.heap.size≠w.heap.size:=by have:=aI.size;omega
     have cq:w.heap.size≠O.heap.size:=fun e=>nz e.symm;dsimp only;go_wp2_with fail
     have aO:=Z.trans (aN.mono Z.size);have R:=(Aa bZ).blocks (fun k _ hk=>aO.block k hk);have bz:=Ac (Aa bt) (fun q hq=>aO.block q ((Aa bt).lt q hq).2);have bA:=Ac (Aa bu) (fun q hq=>aO.block q ((Aa bu).lt q hq).2);have ab:∀ q,q≠w.heap.size→((av.setCell ⟨w.heap.size,0,none⟩ (.slice I (A9 0 X).length J)).setCell ⟨w.heap.size,1,none⟩ (.slice K X.length cs)).heap[q]? =av.heap[q]? :=fun q hq=>(heap_setCell_other _ ⟨w.heap.size,1,none⟩ q _ hq).trans (heap_setCell_other av ⟨w.heap.size,0,none⟩ q _ hq);have y:=(c.set 0 (.slice I (A9 0 X).length J)).set 1 (.slice K X.length cs);have z:=(F.setCell (p:=⟨w.heap.size,0,none⟩) NLN (.slice I (A9 0 X).length J)).setCell (p:=⟨w.heap.size,1,none⟩) NLN (.slice K X.length cs);have b7:=R.upto (fun q hq=>ab q (fun e=>Ad c R.own (by decide) (by rw[hq,e]))) (fun j ac q hq=>ab q (fun e=>Ad c (R.names j (by rw[← R.len];exact ac) ac) (by decide) (by rw[hq,e]))) (fun j ac q hq=>ab q (fun e=>Ad c (R.kids j (by rw[← R.lenk];exact ac) ac) (by decide) (by rw[hq,e])));have b8:=Ac bz (fun q hq=>ab q (fun e=>Ad c bz (by decide) (by rw[hq,e])));have b9:=Ac bA (fun q hq=>ab q (fun e=>Ad c bA (by decide) (by rw[hq,e])));have aP:w.heap.size≤N.heap.size:=by omega
     rw[Aa o,← (Aa l).1 0,← (Aa l).2.1 0,← (Aa l).2.2.1];refine bodyPost_ret (LE Tryz.results17 rfl rfl rfl y) rfl ⟨.inl ⟨rfl,rfl,_,_,bp,bq,_,rfl,b7.low aP, ?_,CB b8 aP,Aa b0⟩,z⟩;show World.ownsRow _ _ _ _ _ (Dn 0 X).length _;rw[LF];exact CB b9 aP
 ·have M:=L.after m NLN;have aV:=f.trans (m.mono f.size);have o:=Ab (show PU t x=([], [], [],(AW t).code,((AW t).at_:Int)) from Qx (by omega));have bB:=Ab (And.intro h1 h3);have s:=M.cell 0;have v:=M.cell 1;have aj:=fun j=>M.frozen j;simp only[List.getElem?_toArray,List.getElem?_cons_zero,List.getElem?_cons_succ] at s v;clear bE h1 h3;dsimp only;go_wp2_with fail
  have y:=(M.set 0 (.slice none 0 0)).set 1 (.slice none 0 0);have z:=(aV.setCell (p:=⟨w.heap.size,0,none⟩) NLN (.slice none 0 0)).setCell (p:=⟨w.heap.size,1,none⟩) NLN (.slice none 0 0);have h:b≠w.heap.size:=Pc aU M (by decide);have H:=(aU.setFar (p:=⟨w.heap.size,0,none⟩) h (.slice none 0 0)).setFar (p:=⟨w.heap.size,1,none⟩) h (.slice none 0 0);rw[Aa o];exact bodyPost_ret (LE Tryz.results17 rfl rfl rfl y) rfl ⟨.inr (.inl ⟨rfl,rfl,rfl,(Aa bB).1,(Aa bB).2,b,rfl,H⟩),z⟩
end Go.Proofs.YtoplnhndilmlcaaGreatDoor
namespace Go.Proofs.YtoplnhndilmlcaaGreatDoor
set_option maxRecDepth 100000
set_option maxHeartbeats 3200000
open Go.RowKit
set_option linter.unusedVariables false
variable {a1 a2 a3 a4 a5 a6 : Addr}
def IpA (R:List Nd × List St × List Int × Int × Int) (w:World) (r:Ending) (w':World):Prop:=
 (∃ nd pl nv kv sv,r= .returned (.tuple #[.agg #[nd,sv],pl,.agg #[.int .i64 R.2.2.2.1,.int .i64 R.2.2.2.2]])∧A6 w' w.heap.size nd R.1 nv kv∧w'.ownsRow w.heap.size 51 4 sv R.2.1.length (AR R.2.1)∧w'.ownsRow w.heap.size 3 1 pl R.2.2.1.length (At R.2.2.1)∧(∀ q,pl.ownBlock=some q→∀ j,(hj:j < kv.length)→kv[j].ownBlock≠some q))∧Below w.heap.size w w'
theorem Xl {g:Func}{a u v:Tmp}(h:g.results= #[.cell a 26,.tmp u,.cell v 32]){c:Array Value}{w:World}{b d:Nat}{v0 v1 e f f1:Value}(i:c.getD a undef= .pointer (some ⟨b,0,none⟩))(hu:c.getD u undef=e)(j:c.getD v undef= .pointer (some ⟨d,0,none⟩))
  (R:Aj w b #[v0,v1] 26)(F:Aj w d #[f,f1] 32):(results g c).run Tryz.prog w= .ok (.tuple #[.agg #[v0,v1],e,.agg #[f,f1]]) w:=by
 rw[Array.getD_eq_getD_getElem?] at i hu j;have k:w.cell? ⟨b,0,none⟩=some v0:=R.cell 0;have g1:w.cell? ⟨b,1,none⟩=some v1:=R.cell 1;have g2:w.cell? ⟨d,0,none⟩=some f:=F.cell 0;have g3:w.cell? ⟨d,1,none⟩=some f1:=F.cell 1;simp[results,h,i,hu,j,go_sem,k,g1,g2,g3]
theorem PqA.uni {R:List Nd × List St × List Int × Int × Int}{w a:World}{r:Ending}(h:PqA a1 a2 a3 a4 a5 a6 R w r a)(m:YU a a1 a2 a3 a4 a5 a6):
  ∃ nd c k d i l,r= .returned (.tuple #[.agg #[nd,i],c,l])∧Gs l∧A6 a w.heap.size nd R.1 k d∧a.ownsRow w.heap.size 51 4 i R.2.1.length (AR R.2.1)∧a.ownsRow w.heap.size 3 1 c R.2.2.1.length (At R.2.2.1)∧(∀ q,c.ownBlock=some q→∀ j,(p:j < d.length)→d[j].ownBlock≠some q)∧
   (∀ w',Below a.heap.size a w'→Calls Tryz.prog 18 #[l] w' fun e o=>e= .returned (.agg #[.int .i64 R.2.2.2.1,.int .i64 R.2.2.2.2])∧Below w'.heap.size w' o):=by
 obtain ⟨N,L,O,n,at_⟩:=R;rcases h with ⟨⟨h1,h2,nd,c,k,d,i,rfl,g1,g2,g3,g4⟩ | ⟨h1,h2,h3,h4,h5,b,rfl,f⟩ | ⟨h1,h2,h3,h4,h5,b,rfl,f⟩,s⟩
 ·dsimp only at h1 h2;subst h1 h2;exact ⟨nd,c,k,d,i,.nilIface,rfl,.inl rfl,g1,g2,g3,g4,fun w' _=>QB w'⟩
 ·dsimp only at h1 h2 h3 h4 h5 f;subst h1 h2 h3;exact ⟨_,_, [], [],_,_,rfl,.inr ⟨_,_,rfl⟩,A6.nil _ _,World.ownsRow_nil _ _ _ _,World.ownsRow_nil _ _ _ _,(fun q hq=>by cases hq),fun w' g=>QC b at_ n w' (m.below g).s6.snt (f.after g NLN) ⟨h4,h5⟩⟩
 ·dsimp only at h1 h2 h3 h4 h5 f;subst h1 h2 h3;exact ⟨_,_, [], [],_,_,rfl,.inr ⟨_,_,rfl⟩,A6.nil _ _,World.ownsRow_nil _ _ _ _,World.ownsRow_nil _ _ _ _,(fun q hq=>by cases hq),fun w' g=>WP b n at_ w' (m.below g).s6 (Aj.after f g NLN) ⟨h4,h5⟩⟩
theorem ST (t:ByteArray)(x:QR)(d:DP (AW t).toks x)(w:World)(S:YU w a1 a2 a3 a4 a5 a6):
  Calls Tryz.prog 8 #[.string t] w (IpA (PU t x) w):=by
 have m:=((Below.refl w.heap.size w).alloc NLN (.cells #[.slice none 0 0,.slice none 0 0] 26)).alloc (by simp) (.cells #[.int .i64 0,.int .i64 0] 32);have aG:=(Aj.new w #[.slice none 0 0,.slice none 0 0] 26).alloc (.cells #[.int .i64 0,.int .i64 0] 32);have au:=Aj.new (w.alloc (.cells #[.slice none 0 0,.slice none 0 0] 26)) #[.int .i64 0,.int .i64 0] 32;simp only[World.size_alloc] at au;have aH:=Ab (S.below m);have T:=Ab (Vn t x d _ (S.below m));generalize PU t x=R at T ⊢;obtain ⟨N,L,O,k,at_⟩:=R;clear S d;go_enter Tryz.func8,Tryz.ntmps8
 go_wp2_with fail
 generalize av:(w.alloc (.cells #[.slice none 0 0,.slice none 0 0] 26)).alloc (.cells #[.int .i64 0,.int .i64 0] 32)=C at *;have aw:C.heap.size=w.heap.size+2:=by rw[← av];simp
 have U:=Ab aw;clear av aw;refine (Aa T).mono ?_;intro aQ a V;have u:=V.2;obtain ⟨nd,aR,ax,ay,aS,aT,rfl,aI,J,K,M,az,hf⟩:=V.uni ((Aa aH).below u);clear V T;obtain ⟨b,c,rfl,_⟩:=Af J.own;obtain ⟨aU,aV,rfl,_⟩:=Af M;obtain ⟨f,cs,rfl,_⟩:=Af K;dsimp only at J K M hf ⊢;have aJ:=aG.after u NLN;have aK:=au.after u NLN;have aA:=Ab hf;have aB:=Ab J;have z:=Ab K;have A:=Ab M;have v:=(Below.refl a.heap.size a).alloc NLN (.cells #[.slice b N.length c,.slice f L.length cs] 26);have B:=Aj.new a #[.slice b N.length c,.slice f L.length cs] 26;clear hf J K M;have aW:w.heap.size+2≤a.heap.size:=by have:=u.size;have:=Aa U;omega
 have aC:(Tryz.f18.name== "runtime.NumGoroutine")=false:=by kernel_rfl
 have aD: Tryz.f18.body.isNone=false:=by kernel_rfl
 have aE:=aJ.alloc (.cells #[.slice b N.length c,.slice f L.length cs] 26);have aF:=aK.alloc (.cells #[.slice b N.length c,.slice f L.length cs] 26);have P:w.heap.size≠w.heap.size+1:=by omega
 have Q:w.heap.size+1≠w.heap.size:=by omega
 have aX:a.heap.size≠w.heap.size:=by omega
 have aY:a.heap.size≠w.heap.size+1:=by omega
 rcases aI with rfl | ⟨aL,aM,rfl⟩
 ·go_wp2_with fail
  generalize W:a.alloc (.cells #[.slice b N.length c,.slice f L.length cs] 26)=g at *;clear W;have X:g.cell? ⟨a.heap.size,0,none⟩=some (.slice b N.length c):=B.cell 0;have Y:g.cell? ⟨a.heap.size,1,none⟩=some (.slice f L.length cs):=B.cell 1;have Z:Below g.heap.size g g.drew:=BRN.drew;go_region_law (refine Im rfl 18 _ Tryz.func18 aC aD _ _ rfl (.nilIface) rfl (fun aa w'=>aa= .agg #[.int .i64 k,.int .i64 at_]∧Below g.heap.size g w') ((Aa aA g.drew v.drew).mono (fun r w' h=>⟨_,h.1,rfl,Z.trans h.2⟩)) ?_;rintro aN i ⟨rfl,l⟩;have E:=B.after l NLN;have n:=aE.after l NLN;have o:=aF.after l NLN;have ab:i.cell? ⟨a.heap.size,0,none⟩=some (.slice b N.length c):=E.cell 0;have ac:i.cell? ⟨a.heap.size,1,none⟩=some (.slice f L.length cs):=E.cell 1;have ad:i.cell? ⟨w.heap.size,0,none⟩=some (.slice none 0 0):=n.cell 0;have ae:i.cell? ⟨w.heap.size,1,none⟩=some (.slice none 0 0):=n.cell 1;have af:=fun j=>n.frozen j;have ag:i.cell? ⟨w.heap.size+1,0,none⟩=some (.int .i64 0):=o.cell 0;have ah:i.cell? ⟨w.heap.size+1,1,none⟩=some (.int .i64 0):=o.cell 1;have ai:=fun j=>o.frozen j)
  all_goals
   have aj:=(((n.set 0 (.slice b N.length c)).set 1 (.slice f L.length cs)).setFar (p:=⟨w.heap.size+1,0,none⟩) P (.int .i64 k)).setFar (p:=⟨w.heap.size+1,1,none⟩) P (.int .i64 at_);have ak:=(((o.setFar (p:=⟨w.heap.size,0,none⟩) Q (.slice b N.length c)).setFar (p:=⟨w.heap.size,1,none⟩) Q (.slice f L.length cs)).set 0 (.int .i64 k)).set 1 (.int .i64 at_);have F:=(m.trans (u.mono m.size)).trans (v.mono (Nat.le_trans m.size u.size));have al:=F.trans (l.mono F.size);have ao:=(((al.setCell (p:=⟨w.heap.size,0,none⟩) NLN (.slice b N.length c)).setCell (p:=⟨w.heap.size,1,none⟩) NLN (.slice f L.length cs)).setCell (p:=⟨w.heap.size+1,0,none⟩) (Nat.le_succ _) (.int .i64 k)).setCell (p:=⟨w.heap.size+1,1,none⟩) (Nat.le_succ _) (.int .i64 at_);have s:∀ q,C.heap.size≤q→q < a.heap.size→((((i.setCell ⟨w.heap.size,0,none⟩ (.slice b N.length c)).setCell ⟨w.heap.size,1,none⟩ (.slice f L.length cs)).setCell ⟨w.heap.size+1,0,none⟩ (.int .i64 k)).setCell ⟨w.heap.size+1,1,none⟩ (.int .i64 at_)).heap[q]? =a.heap[q]? :=fun q h1 h2=>by
    have aO:=Aa U;have H:q≠w.heap.size:=by omega
    have I:q≠w.heap.size+1:=by omega
    rw[heap_setCell_other _ _ q _ I,heap_setCell_other _ _ q _ I,heap_setCell_other _ _ q _ H,heap_setCell_other _ _ q _ H,l.block q (Nat.lt_of_lt_of_le h2 v.size),v.block q h2]
   have ap:=(Aa aB).blocks s;have aq:=Ac (Aa z) (fun q hq=>s q ((Aa z).lt q hq).1 ((Aa z).lt q hq).2);have ar:=Ac (Aa A) (fun q hq=>s q ((Aa A).lt q hq).1 ((Aa A).lt q hq).2);clear ab ac ad ae af ag ah ai X Y s;generalize (((i.setCell ⟨w.heap.size,0,none⟩ (.slice b N.length c)).setCell ⟨w.heap.size,1,none⟩ (.slice f L.length cs)).setCell ⟨w.heap.size+1,0,none⟩ (.int .i64 k)).setCell ⟨w.heap.size+1,1,none⟩ (.int .i64 at_)=aP at *;go_wp2_with fail
   have y:w.heap.size≤C.heap.size:=m.size;exact bodyPost_ret (Xl Tryz.results8 rfl rfl rfl aj ak) rfl ⟨⟨_,_,ax,ay,_,rfl,ap.low y,CB aq y,CB ar y,az⟩,ao⟩
 ·go_wp2_with fail
  generalize W:a.alloc (.cells #[.slice b N.length c,.slice f L.length cs] 26)=g at *;clear W;have X:g.cell? ⟨a.heap.size,0,none⟩=some (.slice b N.length c):=B.cell 0;have Y:g.cell? ⟨a.heap.size,1,none⟩=some (.slice f L.length cs):=B.cell 1;have Z:Below g.heap.size g g.drew:=BRN.drew;go_region_law (refine Im rfl 18 _ Tryz.func18 aC aD _ _ rfl (.iface aL aM) rfl (fun aa w'=>aa= .agg #[.int .i64 k,.int .i64 at_]∧Below g.heap.size g w') ((Aa aA g.drew v.drew).mono (fun r w' h=>⟨_,h.1,rfl,Z.trans h.2⟩)) ?_;rintro aN i ⟨rfl,l⟩;have E:=B.after l NLN;have n:=aE.after l NLN;have o:=aF.after l NLN;have ab:i.cell? ⟨a.heap.size,0,none⟩=some (.slice b N.length c):=E.cell 0;have ac:i.cell? ⟨a.heap.size,1,none⟩=some (.slice f L.length cs):=E.cell 1;have ad:i.cell? ⟨w.heap.size,0,none⟩=some (.slice none 0 0):=n.cell 0;have ae:i.cell? ⟨w.heap.size,1,none⟩=some (.slice none 0 0):=n.cell 1;have af:=fun j=>n.frozen j;have ag:i.cell? ⟨w.heap.size+1,0,none⟩=some (.int .i64 0):=o.cell 0;have ah:i.cell? ⟨w.heap.size+1,1,none⟩=some (.int .i64 0):=o.cell 1;have ai:=fun j=>o.frozen j)
  all_goals
   have aj:=(((n.set 0 (.slice b N.length c)).set 1 (.slice f L.length cs)).setFar (p:=⟨w.heap.size+1,0,none⟩) P (.int .i64 k)).setFar (p:=⟨w.heap.size+1,1,none⟩) P (.int .i64 at_);have ak:=(((o.setFar (p:=⟨w.heap.size,0,none⟩) Q (.slice b N.length c)).setFar (p:=⟨w.heap.size,1,none⟩) Q (.slice f L.length cs)).set 0 (.int .i64 k)).set 1 (.int .i64 at_);have F:=(m.trans (u.mono m.size)).trans (v.mono (Nat.le_trans m.size u.size));have al:=F.trans (l.mono F.size);have ao:=(((al.setCell (p:=⟨w.heap.size,0,none⟩) NLN (.slice b N.length c)).setCell (p:=⟨w.heap.size,1,none⟩) NLN (.slice f L.length cs)).setCell (p:=⟨w.heap.size+1,0,none⟩) (Nat.le_succ _) (.int .i64 k)).setCell (p:=⟨w.heap.size+1,1,none⟩) (Nat.le_succ _) (.int .i64 at_);have s:∀ q,C.heap.size≤q→q < a.heap.size→((((i.setCell ⟨w.heap.size,0,none⟩ (.slice b N.length c)).setCell ⟨w.heap.size,1,none⟩ (.slice f L.length cs)).setCell ⟨w.heap.size+1,0,none⟩ (.int .i64 k)).setCell ⟨w.heap.size+1,1,none⟩ (.int .i64 at_)).heap[q]? =a.heap[q]? :=fun q h1 h2=>by
    have aO:=Aa U;have H:q≠w.heap.size:=by omega
    have I:q≠w.heap.size+1:=by omega
    rw[heap_setCell_other _ _ q _ I,heap_setCell_other _ _ q _ I,heap_setCell_other _ _ q _ H,heap_setCell_other _ _ q _ H,l.block q (Nat.lt_of_lt_of_le h2 v.size),v.block q h2]
   have ap:=(Aa aB).blocks s;have aq:=Ac (Aa z) (fun q hq=>s q ((Aa z).lt q hq).1 ((Aa z).lt q hq).2);have ar:=Ac (Aa A) (fun q hq=>s q ((Aa A).lt q hq).1 ((Aa A).lt q hq).2);clear ab ac ad ae af ag ah ai X Y s;generalize (((i.setCell ⟨w.heap.size,0,none⟩ (.slice b N.length c)).setCell ⟨w.heap.size,1,none⟩ (.slice f L.length cs)).setCell ⟨w.heap.size+1,0,none⟩ (.int .i64 k)).setCell ⟨w.heap.size+1,1,none⟩ (.int .i64 at_)=aP at *;go_wp2_with fail
   have y:w.heap.size≤C.heap.size:=m.size;exact bodyPost_ret (Xl Tryz.results8 rfl rfl rfl aj ak) rfl ⟨⟨_,_,ax,ay,_,rfl,ap.low y,CB aq y,CB ar y,az⟩,ao⟩
end Go.Proofs.YtoplnhndilmlcaaGreatDoor
