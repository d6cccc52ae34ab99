/-
  Drawn policies: whole ones (written by mkkti.py). Own work.
-/
import Derived.Test.YtdldimphcpojoaaGreatDoorMXAS
import Derived.Deep.AppendLies
import Derived.Test.YtdldimphcpojoaaGreatDoorMXAF
import Derived.Test.YtdldimphcpojoaaGreatDoorMXAP
namespace Go.Proofs.YtdldimphcpojoaaGreatDoor
set_option maxRecDepth 100000
set_option maxHeartbeats 12800000
open Go.RowKit
set_option linter.unusedVariables false
theorem WP {x:Int}(a: 0≤x)(b:x≤255){j:Nat}(c:j=(x / 12 % 4).toNat):(IntKind.i64.wrap (x.tdiv 12)).tmod 4=(j:Int):=by
 have e1:x.tdiv 12=x / 12:=Int.tdiv_eq_ediv_of_nonneg a;have e2:IntKind.i64.wrap (x / 12)=x / 12:=by
  simp[IntKind.wrap,IntKind.bits,IntKind.signed];omega
 have e3:(x / 12).tmod 4=x / 12 % 4:=Int.tmod_eq_emod_of_nonneg (by omega);rw[e1,e2,e3];omega
theorem Vy (w:World)(k:Nat)(hk:k < 3):∃ s:ByteArray,s.size≤10∧(w.alloc (.cells #[.string ⟨#[118,48]⟩,.string ⟨#[97,115,107,101,100]⟩,.string ⟨#[110,111,119]⟩] 9)).cell? ⟨w.heap.size,k,none⟩=some (.string s):=by
 have h:=(An.new w #[.string ⟨#[118,48]⟩,.string ⟨#[97,115,107,101,100]⟩,.string ⟨#[110,111,119]⟩] 9).cell k
 match k,hk with
 | 0,_=>exact ⟨_,by decide,h⟩
 | 1,_=>exact ⟨_,by decide,h⟩
 | 2,_=>exact ⟨_,by decide,h⟩
theorem WQ (k:Nat)(hk:k < 4):∃ s:ByteArray,s.size≤10∧∀ w:World,(w.alloc (.cells #[.string ⟨#[118]⟩,.string ⟨#[119]⟩,.string ⟨#[98,97,115,101]⟩,.string ⟨#[120,95,49]⟩] 9)).cell? ⟨w.heap.size,k,none⟩=some (.string s):=by
 have h:=fun w:World=>(An.new w #[.string ⟨#[118]⟩,.string ⟨#[119]⟩,.string ⟨#[98,97,115,101]⟩,.string ⟨#[120,95,49]⟩] 9).cell k
 match k,hk with
 | 0,_=>exact ⟨_,by decide,h⟩
 | 1,_=>exact ⟨_,by decide,h⟩
 | 2,_=>exact ⟨_,by decide,h⟩
 | 3,_=>exact ⟨_,by decide,h⟩
def XE (B R gb pb b0:Nat) (a:Option Addr) (n c:Nat) (w wr:World):Prop:=
 ∃ (m:Nat) (L:List (ByteArray × Int)) (nd lt:Value) (S:List St) (sv:Value),GF B R gb a n c m L nd lt wr∧Wf wr B pb S sv∧An wr b0 #[.slice none 0 0,.slice none 0 0] 27∧S.length≤14∧L.length≤S.length∧m≤800 * S.length∧Below B w wr
theorem OY {B R:Nat}{a:Option Addr}{n c:Nat}{w:World}(cl:Cr w R a n c)(cW:B≤R)(cX: 0 < n→∀ q,a=some q→q.block < B)(bb:Bool):
  Calls Tryz.prog 19 #[.pointer (some ⟨R,0,none⟩),.bool bb] w fun r w'=>(∃ nd b4 N S a0 a3,r= .returned (.agg #[nd,b4])∧BY w' B nd N a0 a3∧w'.ownsRow B 49 4 b4 S.length (CA S)∧(∀ x∈N,YF x)∧(∀ s∈S,s.name.size≤1048576)∧N.length≤20000∧S.length≤15)∧Below B w w':=by
 have cY:=cl.lt;have cm:=(Below.refl w.heap.size w).alloc NLN (.cells #[.slice none 0 0,.slice none 0 0] 27);have cn:=cm.alloc cm.size (.cells #[.pointer (some ⟨R,0,none⟩),.slice none 0 0,.slice none 0 0,.bool bb] 99);have b5:=cn.alloc cn.size (.cells #[.slice none 0 0,.slice none 0 0] 27);have co:=((An.new w #[.slice none 0 0,.slice none 0 0] 27).alloc (.cells #[.pointer (some ⟨R,0,none⟩),.slice none 0 0,.slice none 0 0,.bool bb] 99)).alloc (.cells #[.slice none 0 0,.slice none 0 0] 27);have b6:=(An.new (w.alloc (.cells #[.slice none 0 0,.slice none 0 0] 27)) #[.pointer (some ⟨R,0,none⟩),.slice none 0 0,.slice none 0 0,.bool bb] 99).alloc (.cells #[.slice none 0 0,.slice none 0 0] 27);have b7:=An.new ((w.alloc (.cells #[.slice none 0 0,.slice none 0 0] 27)).alloc (.cells #[.pointer (some ⟨R,0,none⟩),.slice none 0 0,.slice none 0 0,.bool bb] 99)) #[.slice none 0 0,.slice none 0 0] 27;simp only[World.size_alloc] at b6 b7;have bC:=cl.after b5 cY;go_enter Tryz.func19,Tryz.ntmps19
 go_wp2_with fail
 generalize ((w.alloc (.cells #[.slice none 0 0,.slice none 0 0] 27)).alloc (.cells #[.pointer (some ⟨R,0,none⟩),.slice none 0 0,.slice none 0 0,.bool bb] 99)).alloc (.cells #[.slice none 0 0,.slice none 0 0] 27)=bN at b5 co b6 b7 bC ⊢;clear cm cn;have cC:=Ab (show XE B R (w.heap.size+1) (w.heap.size+1+1) w.heap.size a n c w bN from ⟨0, [],_,_, [],_,⟨[], [], [],bb,⟨b6,bC,BY.nil _ _,World.ownsRow_nil _ _ _ _,⟨⟨by omega,cW⟩,cX⟩,(fun x hx=>by cases hx),(fun x hx=>by cases hx)⟩,rfl⟩,⟨b7,World.ownsRow_nil _ _ _ _,fun s hs=>by cases hs⟩,co,by simp,by simp,by simp,b5.mono (by omega)⟩);clear co b6 b7 bC b5 cl;go_loopw [] (fun wr=>XE B R (w.heap.size+1) (w.heap.size+1+1) w.heap.size a n c w wr) (fun wr=>14 - Eg ((wr.cell? ⟨w.heap.size+1+1,1,none⟩).getD undef))
 case atStart=>exact Aa cC
 case round=>
  clear cC;obtain ⟨m,L,nd,lt,S,b4,bc,bo,b8,dq,dr,ds,b9⟩:=hrel;obtain ⟨ab,cs,cD,-⟩:=Ah bo.st;have ca:=bo.row.cell 1;have bD:=Ab (show Eg ((wr.cell? ⟨w.heap.size+1+1,1,none⟩).getD undef)=S.length by
   have:wr.cell? ⟨w.heap.size+1+1,1,none⟩=some b4:=ca;rw[this,cD];rfl)
  subst cD;by_cases h14:S.length < 14
  ·have cZ:(S.length:Int) < 14:=by omega
   go_wp2_with fail
   refine (OX R a n c wr bc.lt.2.2).mono ?_;rintro r aO ⟨y,rfl,dt,du,bO⟩;have aP:=bc.below bO;have bP:=bo.below bO;have cb:=b8.after bO NLN;have cc:=b9.trans (bO.mono bc.lt.1.1);clear bc bo b8 b9 bO;dsimp only;by_cases hy: 4 < y
   ·go_wp2_with fail
    refine (BA R a n c aO aP.lt.2.2).mono ?_;rintro r Q ⟨x,rfl,cp,cq,bC,ag⟩;have cd:Gk B R (w.heap.size+1) lt nd aO nd Q:=Gk.of_touch ag aP.lt.2.1.2 aP.lt.1.2.2;have bd:=aP.touch ag bC;have bE:=bP.gk cd aP;have ce:=cd.row aP cb (by decide) (by decide) (by decide) (by decide);have cf:=cc.trans cd.low;clear aP bP cb cc cd ag bC ca;dsimp only;by_cases e3:x % 3=0
    ·have bp:(x % 3== 0)=true:=beq_iff_eq.2 e3;have a4:L.length≤100:=by omega
     clear e3;have ac:=(Below.refl Q.heap.size Q).alloc NLN (.cells #[.int .i64 1,.string ⟨#[]⟩,.int .i64 (-1),.int .i64 (-1)] 49);have ad:KZ B R (w.heap.size+1) (w.heap.size+1+1) w.heap.size Q.heap.size a n c m L nd lt S (.slice ab S.length cs) (.int .i64 1) (.string ⟨#[]⟩) (.int .i64 (-1)) (.int .i64 (-1)) w (Q.alloc (.cells #[.int .i64 1,.string ⟨#[]⟩,.int .i64 (-1),.int .i64 (-1)] 49)):=
      ⟨bd.below ac,bE.below ac,ce.after ac NLN,An.new Q _ _,cf.trans (ac.mono bd.lt.1.1),⟨fun e=>by have:=(bE.st.lt _ e).2;omega,bd.lt.1.1,by omega,by omega⟩⟩
     clear bd bE ce cf ac;go_wp2_with fail
     generalize Q.alloc (.cells #[.int .i64 1,.string ⟨#[]⟩,.int .i64 (-1),.int .i64 (-1)] 49)=bq at ad ⊢;refine (Fr a4 4 (by omega) (1+x / 3 % 4) m nd _ (by omega) (by show m+121≤1000000;omega) ad.G).mono ?_;rintro r H ⟨⟨d,rfl⟩,aF,aj,a1,a2,aA,aB⟩;have bQ:aF≤m+121:=a2;have ae:=ad.gk aA aB;have f:=ae.set 2 (.int .i64 d) rfl;obtain ⟨⟨br,bs,bt,bu⟩,aC,-⟩:=ae.cells;have bv:=aC 2;clear a1 a2 aA aB ad ae aC;obtain ⟨⟨au,av,ag,aw⟩,T,⟨U,V,I⟩,⟨aD,ax,A⟩⟩:=f.cells;have cE:=T 1;clear T U V I A aD;dsimp only;go_wp2_with fail
     generalize H.setCell ⟨Q.heap.size,2,none⟩ (.int .i64 d)=aY at f au av ag aw ax cE ⊢;clear br bs bt bu bv;apply QN
     ·intro c0;have c1:(Tryz.f42.name== "runtime.NumGoroutine")=false:=by kernel_rfl
      have c2: Tryz.f42.body.isNone=false:=by kernel_rfl
      have cr:=Ab (fun (bN:World)=>(CY (S.length:Int) bN (by omega) (by omega)).mono (R':=fun e w'=>∃ v,e= .returned v∧(v= .string (H6 (S.length:Int).toNat)∧Below bN.heap.size bN w')) (fun r w' h=>⟨_,h.1,rfl,h.2⟩));obtain ⟨l,c3,cg⟩:=WQ (x / 12 % 4).toNat (by omega);obtain ⟨a5,ct⟩:∃ a5:Nat,a5=(x / 12 % 4).toNat:=⟨_,rfl⟩
      have hq:(IntKind.i64.wrap (x.tdiv 12)).tmod 4=(a5:Int):=WP cp cq ct;have c4:(a5:Int) < 4:=by omega
      have c5:a5 < 4:=by omega
      rw[← ct] at cg;clear ct;have cF:=f.below (CK aY);have cu:=f.below ((Below.refl aY.heap.size aY).alloc NLN (.cells #[.string ⟨#[118]⟩,.string ⟨#[119]⟩,.string ⟨#[98,97,115,101]⟩,.string ⟨#[120,95,49]⟩] 9));have cG:=cg aY;obtain ⟨⟨c6,bw,c7,c8⟩,cH,-,⟨c9,da,db⟩⟩:=cu.cells;have dc:=cH 1;clear cH db c9;have cI:=cu.below (CK _);have cJ:=Dy (S.length:Int).toNat;generalize H6 (S.length:Int).toNat=o at cr cJ;have dd: ¬ (9223372036854775807 < l.size+o.size):=by omega
      have aN:=Ab (show (l ++o).size≤100 by rw[Ao];omega);go_region_law (refine GR rfl 42 _ Tryz.func42 c1 c2 _ _ rfl (.int .i64 (S.length:Int)) rfl _ (Aa cr _) ?_;rintro dv aJ ⟨rfl,ch⟩;first | (have bR:=cI.below ch;have cK:aJ.cell? ⟨aY.heap.size,a5,none⟩=some (.string l):=(ch.cell (p:=⟨aY.heap.size,a5,none⟩) (by show aY.heap.size < (aY.alloc _).heap.size;simp)).trans cG;obtain ⟨⟨bF,bG,bH,bI⟩,bS,-,-⟩:=bR.cells;have cL:=bS 1;clear bS) | (have cM:=cF.below ch;have bR:=cM.below ((Below.refl aJ.heap.size aJ).alloc NLN (.cells #[.string ⟨#[118]⟩,.string ⟨#[119]⟩,.string ⟨#[98,97,115,101]⟩,.string ⟨#[120,95,49]⟩] 9));obtain ⟨⟨bF,bG,bH,bI⟩,bS,-,-⟩:=bR.cells;have cL:=bS 1;have cK:=cg aJ;clear bS))
      all_goals
       have W:=bR.set 1 (.string (l ++o)) rfl;have bJ:=Ab W;clear c6 bw c7 c8 da dc cG cK bR W bF bG bH bI cL cg c3 cJ dd hq c4 c5 cr cF cu cI
       first
       | (clear cM;generalize (aJ.alloc (.cells #[.string ⟨#[118]⟩,.string ⟨#[119]⟩,.string ⟨#[98,97,115,101]⟩,.string ⟨#[120,95,49]⟩] 9)).setCell ⟨Q.heap.size,1,none⟩ (.string (l ++o))=aL at bJ ⊢;generalize aJ.heap.size=cv)
       | (generalize aJ.setCell ⟨Q.heap.size,1,none⟩ (.string (l ++o))=aL at bJ ⊢;generalize aY.heap.size=cv)
       clear ch;revert bJ;revert aL;revert aN;revert o;revert l;revert a5;revert cv;exact c0.out
     intro cv a5 l o aN aL bJ;have W:=Aa bJ;clear bJ f au av ag aw ax cE;have dw:=Aa aN;clear aN;cases bb
     ·skip;obtain ⟨bK,bL,ay,az,bM,aM,a6,-⟩:=W.G.cells;subst a6;obtain ⟨⟨au,av,ag,aw⟩,T,⟨U,V,I⟩,⟨aD,ax,A⟩⟩:=W.cells;have bT:=I 2;obtain ⟨cN,cO,cP,bU,aQ,bV⟩:=W.G;have aR:=aQ.lets;have aE:=aQ.row;clear aQ bV;have bf:=(World.ownsRow.alloc aR (.cells #[.string (l ++o),.int .i64 (1+x / 3 % 4)] 102)).drew;have bg:=World.news_of_block (heap_alloc_new aL (.cells #[.string (l ++o),.int .i64 (1+x / 3 % 4)] 102));have ah:=W.G.lt.1.1;have bh:=aE.alloc (.cells #[.string (l ++o),.int .i64 (1+x / 3 % 4)] 102);have bW:=bh.cell 2;have bw:=(W.s.alloc (.cells #[.string (l ++o),.int .i64 (1+x / 3 % 4)] 102)).cell 1;have bi:(Value.slice ay L.length az).ownBlock≠some (w.heap.size+1):=Ad aE aR (by decide);obtain ⟨bX,bY,bZ,b0,b1⟩:=info_parts La;clear T U I A aD ax aM au ag aw;go_wp2_with fail
      go_region_law (refine step_append_lies _ rfl _ _ 97 rfl B 102 bX (.agg #[.string ByteArray.empty,.int .i64 0]) 2 24 Tryz.underlying97 bY bZ b0 b1 rfl (by decide) (.slice ay L.length az) L.length (J1 L) rfl bf ⟨aL.heap.size,0,none⟩ 1 1 [.string (l ++o),.int .i64 (1+x / 3 % 4)] rfl rfl bg (by intro u hu;simp at hu;rcases hu with rfl | rfl <;> rfl) (by decide) (by unfold maxLen;omega) (by omega) (by simp;omega) _ rfl ?_;intro g8 bj aS bk b Y Z;have i:(aL.alloc (.cells #[.string (l ++o),.int .i64 (1+x / 3 % 4)] 102)).grownBy aS (Value.slice ay L.length az).ownBlock:=⟨b.os,b.tape,b.output,b.size,b.block⟩;have aT:An aS (w.heap.size+1) #[.pointer (some ⟨R,0,none⟩),aj,.slice ay L.length az,.bool bU] 99:=⟨(Ap i _ aE.lt bi).trans aE.out⟩;have bp:=aT.cell 2;have b2:=aT.frozen 2)
      all_goals
       have X:=W.pushL (.cells #[.string (l ++o),.int .i64 (1+x / 3 % 4)] 102) ((l ++o),1+x / 3 % 4) (by show (l ++o).size≤1000;omega) i bk;clear bh bW bw bi aE aR bf bg b Y Z i aT bp b2 W av V bT bk;generalize aS.setCell ⟨w.heap.size+1,2,none⟩ (.slice (some ⟨g8,0,none⟩) (L.length+1) bj)=ai at X ⊢;obtain ⟨⟨au,av,ag,aw⟩,T,⟨U,V,I⟩,⟨aD,ax,A⟩⟩:=X.cells;have a7:=A 1;have J:=World.ownsRow.alloc X.P.st (.cells #[.int .i64 1,.string (l ++o),.int .i64 d,.int .i64 (-1)] 49);have t:=World.news_of_block (heap_alloc_new ai (.cells #[.int .i64 1,.string (l ++o),.int .i64 d,.int .i64 (-1)] 49));have ah:=X.G.lt.1.1;have a8:B≤ai.heap.size:=by simpa using ah
       have K:ai.heap.size=ai.heap.size:=by first | rfl | simp
       rw[K] at t;clear K;obtain ⟨ak,al,ao,ap,aq⟩:=info_parts Df;have k:=X.P.row;clear T U V I A;go_wp2_with (at_builtin;refine wpList_append_lies _ rfl _ _ 25 rfl B 49 ak (.agg #[.int .i64 0,.string ByteArray.empty,.int .i64 0,.int .i64 0]) 4 40 Tryz.underlying25 al ao ap aq rfl (by decide) (.slice ab S.length cs) S.length (CA S) rfl J.drew ⟨ai.heap.size,0,none⟩ 1 1 [.int .i64 1,.string (l ++o),.int .i64 d,.int .i64 (-1)] rfl rfl t ?q2 (by decide) ?q3 ?q4 ?q5 _ rfl ?_)
       case q2=>first | exact ⟨rfl,rfl,rfl,rfl⟩ | trivial | (simp;done) | (refine ⟨?_, ?_, ?_⟩ <;> rfl) | (intro u hu;simp at hu;rcases hu with rfl | rfl | rfl | rfl <;> rfl)
       case q3=>unfold maxLen;omega
       case q4=>omega
       case q5=>omega
       intro C E j M b Y Z;have i:(ai.alloc (.cells #[.int .i64 1,.string (l ++o),.int .i64 d,.int .i64 (-1)] 49)).grownBy j (Value.slice ab S.length cs).ownBlock:=⟨b.os,b.tape,b.output,b.size,b.block⟩
       have z:An j (w.heap.size+1+1) _ _:=⟨(Ap i _ k.lt (Ad k X.P.st (by decide))).trans k.out⟩
       have a9:=z.cell 1;have ba:=z.frozen 1;obtain ⟨aa,g,F,O⟩:=X.pushS (.cells #[.int .i64 1,.string (l ++o),.int .i64 d,.int .i64 (-1)] 49) (by show ((l ++o):ByteArray).size≤1048576;first | omega | decide) i M
       have aU:=Ab (show XE B R (w.heap.size+1) (w.heap.size+1+1) w.heap.size a n c w (j.setCell ⟨w.heap.size+1+1,1,none⟩ (.slice (some ⟨C,0,none⟩) (S.length+1) E)) from ⟨aF,(L ++ [((l ++o),1+x / 3 % 4)]),aj,(.slice (some ⟨g8,0,none⟩) (L.length+1) bj),S ++ [⟨1,(l ++o),d,(-1)⟩],_,aa,g,F,by simp;omega,by simp;omega,by simp;omega,O⟩);have aV:=Ab (show 14 - Eg (((j.setCell ⟨w.heap.size+1+1,1,none⟩ (.slice (some ⟨C,0,none⟩) (S.length+1) E)).cell? ⟨w.heap.size+1+1,1,none⟩).getD undef) < 14 - Eg ((wr.cell? ⟨w.heap.size+1+1,1,none⟩).getD undef) by
        have e:(j.setCell ⟨w.heap.size+1+1,1,none⟩ (.slice (some ⟨C,0,none⟩) (S.length+1) E)).cell? ⟨w.heap.size+1+1,1,none⟩=some (.slice (some ⟨C,0,none⟩) (S.length+1) E):=g.row.cell 1;rw[e,Aa bD];show 14 - (S.length+1) < 14 - S.length;omega)
       clear aa g F O z k M b Y Z i J t X;go_wp2_with fail
       exact ⟨Aa aU,Aa aV⟩
     ·by_cases dx: 245 < x
      ·obtain ⟨ns,dy,de⟩:=Vy aL (x % 3).toNat (by omega);have cw:=W.below ((Below.refl aL.heap.size aL).alloc NLN (.cells #[.string ⟨#[118,48]⟩,.string ⟨#[97,115,107,101,100]⟩,.string ⟨#[110,111,119]⟩] 9));have bl:=cw.set 1 (.string ns) rfl;obtain ⟨⟨df,dg,dh,di⟩,cQ,-,-⟩:=cw.cells;have dj:=cQ 1;clear cQ W cw;go_wp2_with fail
       generalize (aL.alloc (.cells #[.string ⟨#[118,48]⟩,.string ⟨#[97,115,107,101,100]⟩,.string ⟨#[110,111,119]⟩] 9)).setCell ⟨Q.heap.size,1,none⟩ (.string ns)=cx at bl ⊢;clear df dg dh di dj de;obtain ⟨bK,bL,ay,az,bM,aM,a6,-⟩:=bl.G.cells;subst a6;obtain ⟨⟨au,av,ag,aw⟩,T,⟨U,V,I⟩,⟨aD,ax,A⟩⟩:=bl.cells;have bT:=I 2;obtain ⟨cN,cO,cP,bU,aQ,bV⟩:=bl.G;have aR:=aQ.lets;have aE:=aQ.row;clear aQ bV;have bf:=(World.ownsRow.alloc aR (.cells #[.string ns,.int .i64 (1+x / 3 % 4)] 102)).drew;have bg:=World.news_of_block (heap_alloc_new cx (.cells #[.string ns,.int .i64 (1+x / 3 % 4)] 102));have ah:=bl.G.lt.1.1;have bh:=aE.alloc (.cells #[.string ns,.int .i64 (1+x / 3 % 4)] 102);have bW:=bh.cell 2;have bw:=(bl.s.alloc (.cells #[.string ns,.int .i64 (1+x / 3 % 4)] 102)).cell 1;have bi:(Value.slice ay L.length az).ownBlock≠some (w.heap.size+1):=Ad aE aR (by decide);obtain ⟨bX,bY,bZ,b0,b1⟩:=info_parts La;clear T U I A aD ax aM au ag aw;skip;go_region_law (refine step_append_lies _ rfl _ _ 97 rfl B 102 bX (.agg #[.string ByteArray.empty,.int .i64 0]) 2 24 Tryz.underlying97 bY bZ b0 b1 rfl (by decide) (.slice ay L.length az) L.length (J1 L) rfl bf ⟨cx.heap.size,0,none⟩ 1 1 [.string ns,.int .i64 (1+x / 3 % 4)] rfl rfl bg (by intro u hu;simp at hu;rcases hu with rfl | rfl <;> rfl) (by decide) (by unfold maxLen;omega) (by omega) (by simp;omega) _ rfl ?_;intro g8 bj aS bk b Y Z;have i:(cx.alloc (.cells #[.string ns,.int .i64 (1+x / 3 % 4)] 102)).grownBy aS (Value.slice ay L.length az).ownBlock:=⟨b.os,b.tape,b.output,b.size,b.block⟩;have aT:An aS (w.heap.size+1) #[.pointer (some ⟨R,0,none⟩),aj,.slice ay L.length az,.bool bU] 99:=⟨(Ap i _ aE.lt bi).trans aE.out⟩;have bp:=aT.cell 2;have b2:=aT.frozen 2)
       all_goals
        have X:=bl.pushL (.cells #[.string ns,.int .i64 (1+x / 3 % 4)] 102) (ns,1+x / 3 % 4) (by show ns.size≤1000;omega) i bk;clear bh bW bw bi aE aR bf bg b Y Z i aT bp b2 bl av V bT bk;generalize aS.setCell ⟨w.heap.size+1,2,none⟩ (.slice (some ⟨g8,0,none⟩) (L.length+1) bj)=ai at X ⊢;obtain ⟨⟨au,av,ag,aw⟩,T,⟨U,V,I⟩,⟨aD,ax,A⟩⟩:=X.cells;have a7:=A 1;have J:=World.ownsRow.alloc X.P.st (.cells #[.int .i64 1,.string ns,.int .i64 d,.int .i64 (-1)] 49);have t:=World.news_of_block (heap_alloc_new ai (.cells #[.int .i64 1,.string ns,.int .i64 d,.int .i64 (-1)] 49));have ah:=X.G.lt.1.1;have a8:B≤ai.heap.size:=by simpa using ah
        have K:ai.heap.size=ai.heap.size:=by first | rfl | simp
        rw[K] at t;clear K;obtain ⟨ak,al,ao,ap,aq⟩:=info_parts Df;have k:=X.P.row;clear T U V I A;go_wp2_with (at_builtin;refine wpList_append_lies _ rfl _ _ 25 rfl B 49 ak (.agg #[.int .i64 0,.string ByteArray.empty,.int .i64 0,.int .i64 0]) 4 40 Tryz.underlying25 al ao ap aq rfl (by decide) (.slice ab S.length cs) S.length (CA S) rfl J.drew ⟨ai.heap.size,0,none⟩ 1 1 [.int .i64 1,.string ns,.int .i64 d,.int .i64 (-1)] rfl rfl t ?q2 (by decide) ?q3 ?q4 ?q5 _ rfl ?_)
        case q2=>first | exact ⟨rfl,rfl,rfl,rfl⟩ | trivial | (simp;done) | (refine ⟨?_, ?_, ?_⟩ <;> rfl) | (intro u hu;simp at hu;rcases hu with rfl | rfl | rfl | rfl <;> rfl)
        case q3=>unfold maxLen;omega
        case q4=>omega
        case q5=>omega
        intro C E j M b Y Z;have i:(ai.alloc (.cells #[.int .i64 1,.string ns,.int .i64 d,.int .i64 (-1)] 49)).grownBy j (Value.slice ab S.length cs).ownBlock:=⟨b.os,b.tape,b.output,b.size,b.block⟩
        have z:An j (w.heap.size+1+1) _ _:=⟨(Ap i _ k.lt (Ad k X.P.st (by decide))).trans k.out⟩
        have a9:=z.cell 1;have ba:=z.frozen 1;obtain ⟨aa,g,F,O⟩:=X.pushS (.cells #[.int .i64 1,.string ns,.int .i64 d,.int .i64 (-1)] 49) (by show (ns:ByteArray).size≤1048576;first | omega | decide) i M
        have aU:=Ab (show XE B R (w.heap.size+1) (w.heap.size+1+1) w.heap.size a n c w (j.setCell ⟨w.heap.size+1+1,1,none⟩ (.slice (some ⟨C,0,none⟩) (S.length+1) E)) from ⟨aF,(L ++ [(ns,1+x / 3 % 4)]),aj,(.slice (some ⟨g8,0,none⟩) (L.length+1) bj),S ++ [⟨1,ns,d,(-1)⟩],_,aa,g,F,by simp;omega,by simp;omega,by simp;omega,O⟩);have aV:=Ab (show 14 - Eg (((j.setCell ⟨w.heap.size+1+1,1,none⟩ (.slice (some ⟨C,0,none⟩) (S.length+1) E)).cell? ⟨w.heap.size+1+1,1,none⟩).getD undef) < 14 - Eg ((wr.cell? ⟨w.heap.size+1+1,1,none⟩).getD undef) by
         have e:(j.setCell ⟨w.heap.size+1+1,1,none⟩ (.slice (some ⟨C,0,none⟩) (S.length+1) E)).cell? ⟨w.heap.size+1+1,1,none⟩=some (.slice (some ⟨C,0,none⟩) (S.length+1) E):=g.row.cell 1;rw[e,Aa bD];show 14 - (S.length+1) < 14 - S.length;omega)
        clear aa g F O z k M b Y Z i J t X;go_wp2_with fail
        exact ⟨Aa aU,Aa aV⟩
      ·skip;obtain ⟨bK,bL,ay,az,bM,aM,a6,-⟩:=W.G.cells;subst a6;obtain ⟨⟨au,av,ag,aw⟩,T,⟨U,V,I⟩,⟨aD,ax,A⟩⟩:=W.cells;have bT:=I 2;obtain ⟨cN,cO,cP,bU,aQ,bV⟩:=W.G;have aR:=aQ.lets;have aE:=aQ.row;clear aQ bV;have bf:=(World.ownsRow.alloc aR (.cells #[.string (l ++o),.int .i64 (1+x / 3 % 4)] 102)).drew;have bg:=World.news_of_block (heap_alloc_new aL (.cells #[.string (l ++o),.int .i64 (1+x / 3 % 4)] 102));have ah:=W.G.lt.1.1;have bh:=aE.alloc (.cells #[.string (l ++o),.int .i64 (1+x / 3 % 4)] 102);have bW:=bh.cell 2;have bw:=(W.s.alloc (.cells #[.string (l ++o),.int .i64 (1+x / 3 % 4)] 102)).cell 1;have bi:(Value.slice ay L.length az).ownBlock≠some (w.heap.size+1):=Ad aE aR (by decide);obtain ⟨bX,bY,bZ,b0,b1⟩:=info_parts La;clear T U I A aD ax aM au ag aw;go_wp2_with fail
       go_region_law (refine step_append_lies _ rfl _ _ 97 rfl B 102 bX (.agg #[.string ByteArray.empty,.int .i64 0]) 2 24 Tryz.underlying97 bY bZ b0 b1 rfl (by decide) (.slice ay L.length az) L.length (J1 L) rfl bf ⟨aL.heap.size,0,none⟩ 1 1 [.string (l ++o),.int .i64 (1+x / 3 % 4)] rfl rfl bg (by intro u hu;simp at hu;rcases hu with rfl | rfl <;> rfl) (by decide) (by unfold maxLen;omega) (by omega) (by simp;omega) _ rfl ?_;intro g8 bj aS bk b Y Z;have i:(aL.alloc (.cells #[.string (l ++o),.int .i64 (1+x / 3 % 4)] 102)).grownBy aS (Value.slice ay L.length az).ownBlock:=⟨b.os,b.tape,b.output,b.size,b.block⟩;have aT:An aS (w.heap.size+1) #[.pointer (some ⟨R,0,none⟩),aj,.slice ay L.length az,.bool bU] 99:=⟨(Ap i _ aE.lt bi).trans aE.out⟩;have bp:=aT.cell 2;have b2:=aT.frozen 2)
       all_goals
        have X:=W.pushL (.cells #[.string (l ++o),.int .i64 (1+x / 3 % 4)] 102) ((l ++o),1+x / 3 % 4) (by show (l ++o).size≤1000;omega) i bk;clear bh bW bw bi aE aR bf bg b Y Z i aT bp b2 W av V bT bk;generalize aS.setCell ⟨w.heap.size+1,2,none⟩ (.slice (some ⟨g8,0,none⟩) (L.length+1) bj)=ai at X ⊢;obtain ⟨⟨au,av,ag,aw⟩,T,⟨U,V,I⟩,⟨aD,ax,A⟩⟩:=X.cells;have a7:=A 1;have J:=World.ownsRow.alloc X.P.st (.cells #[.int .i64 1,.string (l ++o),.int .i64 d,.int .i64 (-1)] 49);have t:=World.news_of_block (heap_alloc_new ai (.cells #[.int .i64 1,.string (l ++o),.int .i64 d,.int .i64 (-1)] 49));have ah:=X.G.lt.1.1;have a8:B≤ai.heap.size:=by simpa using ah
        have K:ai.heap.size=ai.heap.size:=by first | rfl | simp
        rw[K] at t;clear K;obtain ⟨ak,al,ao,ap,aq⟩:=info_parts Df;have k:=X.P.row;clear T U V I A;go_wp2_with (at_builtin;refine wpList_append_lies _ rfl _ _ 25 rfl B 49 ak (.agg #[.int .i64 0,.string ByteArray.empty,.int .i64 0,.int .i64 0]) 4 40 Tryz.underlying25 al ao ap aq rfl (by decide) (.slice ab S.length cs) S.length (CA S) rfl J.drew ⟨ai.heap.size,0,none⟩ 1 1 [.int .i64 1,.string (l ++o),.int .i64 d,.int .i64 (-1)] rfl rfl t ?q2 (by decide) ?q3 ?q4 ?q5 _ rfl ?_)
        case q2=>first | exact ⟨rfl,rfl,rfl,rfl⟩ | trivial | (simp;done) | (refine ⟨?_, ?_, ?_⟩ <;> rfl) | (intro u hu;simp at hu;rcases hu with rfl | rfl | rfl | rfl <;> rfl)
        case q3=>unfold maxLen;omega
        case q4=>omega
        case q5=>omega
        intro C E j M b Y Z;have i:(ai.alloc (.cells #[.int .i64 1,.string (l ++o),.int .i64 d,.int .i64 (-1)] 49)).grownBy j (Value.slice ab S.length cs).ownBlock:=⟨b.os,b.tape,b.output,b.size,b.block⟩
        have z:An j (w.heap.size+1+1) _ _:=⟨(Ap i _ k.lt (Ad k X.P.st (by decide))).trans k.out⟩
        have a9:=z.cell 1;have ba:=z.frozen 1;obtain ⟨aa,g,F,O⟩:=X.pushS (.cells #[.int .i64 1,.string (l ++o),.int .i64 d,.int .i64 (-1)] 49) (by show ((l ++o):ByteArray).size≤1048576;first | omega | decide) i M
        have aU:=Ab (show XE B R (w.heap.size+1) (w.heap.size+1+1) w.heap.size a n c w (j.setCell ⟨w.heap.size+1+1,1,none⟩ (.slice (some ⟨C,0,none⟩) (S.length+1) E)) from ⟨aF,(L ++ [((l ++o),1+x / 3 % 4)]),aj,(.slice (some ⟨g8,0,none⟩) (L.length+1) bj),S ++ [⟨1,(l ++o),d,(-1)⟩],_,aa,g,F,by simp;omega,by simp;omega,by simp;omega,O⟩);have aV:=Ab (show 14 - Eg (((j.setCell ⟨w.heap.size+1+1,1,none⟩ (.slice (some ⟨C,0,none⟩) (S.length+1) E)).cell? ⟨w.heap.size+1+1,1,none⟩).getD undef) < 14 - Eg ((wr.cell? ⟨w.heap.size+1+1,1,none⟩).getD undef) by
         have e:(j.setCell ⟨w.heap.size+1+1,1,none⟩ (.slice (some ⟨C,0,none⟩) (S.length+1) E)).cell? ⟨w.heap.size+1+1,1,none⟩=some (.slice (some ⟨C,0,none⟩) (S.length+1) E):=g.row.cell 1;rw[e,Aa bD];show 14 - (S.length+1) < 14 - S.length;omega)
        clear aa g F O z k M b Y Z i J t X;go_wp2_with fail
        exact ⟨Aa aU,Aa aV⟩
    ·have bp:(x % 3== 0)=false:=beq_eq_false_iff_ne.2 e3;have ac:=(Below.refl Q.heap.size Q).alloc NLN (.cells #[.int .i64 2,.string ⟨#[]⟩,.int .i64 (-1),.int .i64 (-1)] 49);have ad:KZ B R (w.heap.size+1) (w.heap.size+1+1) w.heap.size Q.heap.size a n c m L nd lt S (.slice ab S.length cs) (.int .i64 2) (.string ⟨#[]⟩) (.int .i64 (-1)) (.int .i64 (-1)) w (Q.alloc (.cells #[.int .i64 2,.string ⟨#[]⟩,.int .i64 (-1),.int .i64 (-1)] 49)):=
      ⟨bd.below ac,bE.below ac,ce.after ac NLN,An.new Q _ _,cf.trans (ac.mono bd.lt.1.1),⟨fun e=>by have:=(bE.st.lt _ e).2;omega,bd.lt.1.1,by omega,by omega⟩⟩
     clear bd bE ce cf ac;have a4:L.length≤100:=by omega
     have cR:x % 3=1∨x % 3=2:=by omega
     clear e3;by_cases ci:x=254
     ·have dk:(x== 254)=true:=beq_iff_eq.2 ci;have cS:(x % 3== 1)=false:=beq_eq_false_iff_ne.2 (by omega);clear ci cR;go_wp2_with fail
      generalize Q.alloc (.cells #[.int .i64 2,.string ⟨#[]⟩,.int .i64 (-1),.int .i64 (-1)] 49)=bq at ad ⊢;refine (BA R a n c bq ad.G.lt.2.2).mono ?_;rintro r aK ⟨cT,rfl,cj,ck,bm,bn⟩;have aG:=ad.touch bn bm;clear ad bn bm;obtain ⟨b3,cU⟩:∃ b3:Nat,(b3:Int)=64 - cT % 2:=⟨(64 - cT % 2).toNat,by omega⟩
      have dl: 1≤b3:=by omega
      have dm:b3≤64:=by omega
      have dn:=Ab cU;clear cU;dsimp only;go_wp2_with fail
      rw[← Aa dn];refine (Vx aG.G (by omega) a4 b3 dl dm).mono ?_;rintro r H ⟨⟨d,rfl⟩,aF,aj,a1,a2,aA,aB⟩;have ae:=aG.gk aA aB;have f:=ae.set 2 (.int .i64 d) rfl;obtain ⟨⟨br,bs,bt,bu⟩,aC,-⟩:=ae.cells;have bv:=aC 2;clear a1 aA aB aG ae aC;dsimp only;obtain ⟨⟨au,av,ag,aw⟩,T,⟨U,V,I⟩,⟨aD,ax,A⟩⟩:=f.cells;have a7:=A 1;have J:=World.ownsRow.alloc f.P.st (.cells #[.int .i64 2,.string ⟨#[]⟩,.int .i64 d,.int .i64 (-1)] 49);have t:=World.news_of_block (heap_alloc_new (H.setCell ⟨Q.heap.size,2,none⟩ (.int .i64 d)) (.cells #[.int .i64 2,.string ⟨#[]⟩,.int .i64 d,.int .i64 (-1)] 49));have ah:=f.G.lt.1.1;have a8:B≤H.heap.size:=by simpa using ah
      have K:(H.setCell ⟨Q.heap.size,2,none⟩ (.int .i64 d)).heap.size=H.heap.size:=by first | rfl | simp
      rw[K] at t;clear K;obtain ⟨ak,al,ao,ap,aq⟩:=info_parts Df;have k:=f.P.row;clear T U V I A;go_wp2_with (at_builtin;refine wpList_append_lies _ rfl _ _ 25 rfl B 49 ak (.agg #[.int .i64 0,.string ByteArray.empty,.int .i64 0,.int .i64 0]) 4 40 Tryz.underlying25 al ao ap aq rfl (by decide) (.slice ab S.length cs) S.length (CA S) rfl J.drew ⟨H.heap.size,0,none⟩ 1 1 [.int .i64 2,.string ⟨#[]⟩,.int .i64 d,.int .i64 (-1)] rfl rfl t ?q2 (by decide) ?q3 ?q4 ?q5 _ rfl ?_)
      case q2=>first | exact ⟨rfl,rfl,rfl,rfl⟩ | trivial | (simp;done) | (refine ⟨?_, ?_, ?_⟩ <;> rfl) | (intro u hu;simp at hu;rcases hu with rfl | rfl | rfl | rfl <;> rfl)
      case q3=>unfold maxLen;omega
      case q4=>omega
      case q5=>omega
      intro C E j M b Y Z;have i:((H.setCell ⟨Q.heap.size,2,none⟩ (.int .i64 d)).alloc (.cells #[.int .i64 2,.string ⟨#[]⟩,.int .i64 d,.int .i64 (-1)] 49)).grownBy j (Value.slice ab S.length cs).ownBlock:=⟨b.os,b.tape,b.output,b.size,b.block⟩
      have z:An j (w.heap.size+1+1) _ _:=⟨(Ap i _ k.lt (Ad k f.P.st (by decide))).trans k.out⟩
      have a9:=z.cell 1;have ba:=z.frozen 1;obtain ⟨aa,g,F,O⟩:=f.pushS (.cells #[.int .i64 2,.string ⟨#[]⟩,.int .i64 d,.int .i64 (-1)] 49) (by show (⟨#[]⟩:ByteArray).size≤1048576;first | omega | decide) i M
      have aU:=Ab (show XE B R (w.heap.size+1) (w.heap.size+1+1) w.heap.size a n c w (j.setCell ⟨w.heap.size+1+1,1,none⟩ (.slice (some ⟨C,0,none⟩) (S.length+1) E)) from ⟨aF,L,aj,lt,S ++ [⟨2,⟨#[]⟩,d,(-1)⟩],_,aa,g,F,by simp;omega,by simp;omega,by simp;omega,O⟩);have aV:=Ab (show 14 - Eg (((j.setCell ⟨w.heap.size+1+1,1,none⟩ (.slice (some ⟨C,0,none⟩) (S.length+1) E)).cell? ⟨w.heap.size+1+1,1,none⟩).getD undef) < 14 - Eg ((wr.cell? ⟨w.heap.size+1+1,1,none⟩).getD undef) by
       have e:(j.setCell ⟨w.heap.size+1+1,1,none⟩ (.slice (some ⟨C,0,none⟩) (S.length+1) E)).cell? ⟨w.heap.size+1+1,1,none⟩=some (.slice (some ⟨C,0,none⟩) (S.length+1) E):=g.row.cell 1;rw[e,Aa bD];show 14 - (S.length+1) < 14 - S.length;omega)
      clear aa g F O z k M b Y Z i J t f;go_wp2_with fail
      exact ⟨Aa aU,Aa aV⟩
     ·have dk:(x== 254)=false:=beq_eq_false_iff_ne.2 ci;clear ci;go_wp2_with fail
      generalize Q.alloc (.cells #[.int .i64 2,.string ⟨#[]⟩,.int .i64 (-1),.int .i64 (-1)] 49)=bq at ad ⊢;refine (Fr a4 5 (by omega) 1 m nd _ (by omega) (by show m+364≤1000000;omega) ad.G).mono ?_;rintro r H ⟨⟨d,rfl⟩,aF,aj,a1,a2,aA,aB⟩;have bQ:aF≤m+364:=a2;have ae:=ad.gk aA aB;have f:=ae.set 2 (.int .i64 d) rfl;obtain ⟨⟨br,bs,bt,bu⟩,aC,-⟩:=ae.cells;have bv:=aC 2;clear a1 a2 aA aB ad ae aC;dsimp only;rcases cR with e1 | e2
      ·have cS:(x % 3== 1)=true:=beq_iff_eq.2 e1;clear e1;go_wp2_with fail
       generalize H.setCell ⟨Q.heap.size,2,none⟩ (.int .i64 d)=aY at f ⊢;clear br bs bt bu bv;refine (Fr a4 4 (by omega) 4 aF aj _ (by omega) (by show aF+121≤1000000;omega) f.G).mono ?_;rintro r aJ ⟨⟨aZ,rfl⟩,cV,dp,a1,a2,aA,aB⟩;have dz:cV≤aF+121:=a2;have ae:=f.gk aA aB;have W:=ae.set 3 (.int .i64 aZ) rfl;obtain ⟨⟨br,bs,bt,bu⟩,aC,-⟩:=ae.cells;have bv:=aC 3;clear a1 a2 aA aB f ae aC;dsimp only;obtain ⟨⟨au,av,ag,aw⟩,T,⟨U,V,I⟩,⟨aD,ax,A⟩⟩:=W.cells;have a7:=A 1;have J:=World.ownsRow.alloc W.P.st (.cells #[.int .i64 2,.string ⟨#[]⟩,.int .i64 d,.int .i64 aZ] 49);have t:=World.news_of_block (heap_alloc_new (aJ.setCell ⟨Q.heap.size,3,none⟩ (.int .i64 aZ)) (.cells #[.int .i64 2,.string ⟨#[]⟩,.int .i64 d,.int .i64 aZ] 49));have ah:=W.G.lt.1.1;have a8:B≤aJ.heap.size:=by simpa using ah
       have K:(aJ.setCell ⟨Q.heap.size,3,none⟩ (.int .i64 aZ)).heap.size=aJ.heap.size:=by first | rfl | simp
       rw[K] at t;clear K;obtain ⟨ak,al,ao,ap,aq⟩:=info_parts Df;have k:=W.P.row;clear T U V I A;go_wp2_with (at_builtin;refine wpList_append_lies _ rfl _ _ 25 rfl B 49 ak (.agg #[.int .i64 0,.string ByteArray.empty,.int .i64 0,.int .i64 0]) 4 40 Tryz.underlying25 al ao ap aq rfl (by decide) (.slice ab S.length cs) S.length (CA S) rfl J.drew ⟨aJ.heap.size,0,none⟩ 1 1 [.int .i64 2,.string ⟨#[]⟩,.int .i64 d,.int .i64 aZ] rfl rfl t ?q2 (by decide) ?q3 ?q4 ?q5 _ rfl ?_)
       case q2=>first | exact ⟨rfl,rfl,rfl,rfl⟩ | trivial | (simp;done) | (refine ⟨?_, ?_, ?_⟩ <;> rfl) | (intro u hu;simp at hu;rcases hu with rfl | rfl | rfl | rfl <;> rfl)
       case q3=>unfold maxLen;omega
       case q4=>omega
       case q5=>omega
       intro C E j M b Y Z;have i:((aJ.setCell ⟨Q.heap.size,3,none⟩ (.int .i64 aZ)).alloc (.cells #[.int .i64 2,.string ⟨#[]⟩,.int .i64 d,.int .i64 aZ] 49)).grownBy j (Value.slice ab S.length cs).ownBlock:=⟨b.os,b.tape,b.output,b.size,b.block⟩
       have z:An j (w.heap.size+1+1) _ _:=⟨(Ap i _ k.lt (Ad k W.P.st (by decide))).trans k.out⟩
       have a9:=z.cell 1;have ba:=z.frozen 1;obtain ⟨aa,g,F,O⟩:=W.pushS (.cells #[.int .i64 2,.string ⟨#[]⟩,.int .i64 d,.int .i64 aZ] 49) (by show (⟨#[]⟩:ByteArray).size≤1048576;first | omega | decide) i M
       have aU:=Ab (show XE B R (w.heap.size+1) (w.heap.size+1+1) w.heap.size a n c w (j.setCell ⟨w.heap.size+1+1,1,none⟩ (.slice (some ⟨C,0,none⟩) (S.length+1) E)) from ⟨cV,L,dp,lt,S ++ [⟨2,⟨#[]⟩,d,aZ⟩],_,aa,g,F,by simp;omega,by simp;omega,by simp;omega,O⟩);have aV:=Ab (show 14 - Eg (((j.setCell ⟨w.heap.size+1+1,1,none⟩ (.slice (some ⟨C,0,none⟩) (S.length+1) E)).cell? ⟨w.heap.size+1+1,1,none⟩).getD undef) < 14 - Eg ((wr.cell? ⟨w.heap.size+1+1,1,none⟩).getD undef) by
        have e:(j.setCell ⟨w.heap.size+1+1,1,none⟩ (.slice (some ⟨C,0,none⟩) (S.length+1) E)).cell? ⟨w.heap.size+1+1,1,none⟩=some (.slice (some ⟨C,0,none⟩) (S.length+1) E):=g.row.cell 1;rw[e,Aa bD];show 14 - (S.length+1) < 14 - S.length;omega)
       clear aa g F O z k M b Y Z i J t W;go_wp2_with fail
       exact ⟨Aa aU,Aa aV⟩
      ·have cS:(x % 3== 1)=false:=beq_eq_false_iff_ne.2 (by omega);clear e2;obtain ⟨⟨au,av,ag,aw⟩,T,⟨U,V,I⟩,⟨aD,ax,A⟩⟩:=f.cells;have a7:=A 1;have J:=World.ownsRow.alloc f.P.st (.cells #[.int .i64 2,.string ⟨#[]⟩,.int .i64 d,.int .i64 (-1)] 49);have t:=World.news_of_block (heap_alloc_new (H.setCell ⟨Q.heap.size,2,none⟩ (.int .i64 d)) (.cells #[.int .i64 2,.string ⟨#[]⟩,.int .i64 d,.int .i64 (-1)] 49));have ah:=f.G.lt.1.1;have a8:B≤H.heap.size:=by simpa using ah
       have K:(H.setCell ⟨Q.heap.size,2,none⟩ (.int .i64 d)).heap.size=H.heap.size:=by first | rfl | simp
       rw[K] at t;clear K;obtain ⟨ak,al,ao,ap,aq⟩:=info_parts Df;have k:=f.P.row;clear T U V I A;go_wp2_with (at_builtin;refine wpList_append_lies _ rfl _ _ 25 rfl B 49 ak (.agg #[.int .i64 0,.string ByteArray.empty,.int .i64 0,.int .i64 0]) 4 40 Tryz.underlying25 al ao ap aq rfl (by decide) (.slice ab S.length cs) S.length (CA S) rfl J.drew ⟨H.heap.size,0,none⟩ 1 1 [.int .i64 2,.string ⟨#[]⟩,.int .i64 d,.int .i64 (-1)] rfl rfl t ?q2 (by decide) ?q3 ?q4 ?q5 _ rfl ?_)
       case q2=>first | exact ⟨rfl,rfl,rfl,rfl⟩ | trivial | (simp;done) | (refine ⟨?_, ?_, ?_⟩ <;> rfl) | (intro u hu;simp at hu;rcases hu with rfl | rfl | rfl | rfl <;> rfl)
       case q3=>unfold maxLen;omega
       case q4=>omega
       case q5=>omega
       intro C E j M b Y Z;have i:((H.setCell ⟨Q.heap.size,2,none⟩ (.int .i64 d)).alloc (.cells #[.int .i64 2,.string ⟨#[]⟩,.int .i64 d,.int .i64 (-1)] 49)).grownBy j (Value.slice ab S.length cs).ownBlock:=⟨b.os,b.tape,b.output,b.size,b.block⟩
       have z:An j (w.heap.size+1+1) _ _:=⟨(Ap i _ k.lt (Ad k f.P.st (by decide))).trans k.out⟩
       have a9:=z.cell 1;have ba:=z.frozen 1;obtain ⟨aa,g,F,O⟩:=f.pushS (.cells #[.int .i64 2,.string ⟨#[]⟩,.int .i64 d,.int .i64 (-1)] 49) (by show (⟨#[]⟩:ByteArray).size≤1048576;first | omega | decide) i M
       have aU:=Ab (show XE B R (w.heap.size+1) (w.heap.size+1+1) w.heap.size a n c w (j.setCell ⟨w.heap.size+1+1,1,none⟩ (.slice (some ⟨C,0,none⟩) (S.length+1) E)) from ⟨aF,L,aj,lt,S ++ [⟨2,⟨#[]⟩,d,(-1)⟩],_,aa,g,F,by simp;omega,by simp;omega,by simp;omega,O⟩);have aV:=Ab (show 14 - Eg (((j.setCell ⟨w.heap.size+1+1,1,none⟩ (.slice (some ⟨C,0,none⟩) (S.length+1) E)).cell? ⟨w.heap.size+1+1,1,none⟩).getD undef) < 14 - Eg ((wr.cell? ⟨w.heap.size+1+1,1,none⟩).getD undef) by
        have e:(j.setCell ⟨w.heap.size+1+1,1,none⟩ (.slice (some ⟨C,0,none⟩) (S.length+1) E)).cell? ⟨w.heap.size+1+1,1,none⟩=some (.slice (some ⟨C,0,none⟩) (S.length+1) E):=g.row.cell 1;rw[e,Aa bD];show 14 - (S.length+1) < 14 - S.length;omega)
       clear aa g F O z k M b Y Z i J t f;go_wp2_with fail
       exact ⟨Aa aU,Aa aV⟩
   ·have dA: ¬ ((4 :Int) < y):=hy;have a4:L.length≤100:=by omega
    have ac:=(Below.refl aO.heap.size aO).alloc NLN (.cells #[.int .i64 3,.string ⟨#[]⟩,.int .i64 (-1),.int .i64 (-1)] 49);have ad:KZ B R (w.heap.size+1) (w.heap.size+1+1) w.heap.size aO.heap.size a n c m L nd lt S (.slice ab S.length cs) (.int .i64 3) (.string ⟨#[]⟩) (.int .i64 (-1)) (.int .i64 (-1)) w (aO.alloc (.cells #[.int .i64 3,.string ⟨#[]⟩,.int .i64 (-1),.int .i64 (-1)] 49)):=
     ⟨aP.below ac,bP.below ac,cb.after ac NLN,An.new aO _ _,cc.trans (ac.mono aP.lt.1.1),⟨fun e=>by have:=(bP.st.lt _ e).2;omega,aP.lt.1.1,by omega,by omega⟩⟩
    clear aP bP cb cc ac;go_wp2_with fail
    clear ca;generalize aO.alloc (.cells #[.int .i64 3,.string ⟨#[]⟩,.int .i64 (-1),.int .i64 (-1)] 49)=bq at ad ⊢;refine (BA R a n c bq ad.G.lt.2.2).mono ?_;rintro r aK ⟨x,rfl,cp,cq,bm,bn⟩;have aG:=ad.touch bn bm;clear ad bn bm;dsimp only;by_cases h0: 0 < x % 3
    ·go_wp2_with fail
     refine (Fr a4 3 (by omega) 4 m nd _ (by omega) (by show m+40≤1000000;omega) aG.G).mono ?_;rintro r H ⟨⟨d,rfl⟩,aF,aj,a1,a2,aA,aB⟩;have bQ:aF≤m+40:=a2;have ae:=aG.gk aA aB;have f:=ae.set 3 (.int .i64 d) rfl;obtain ⟨⟨br,bs,bt,bu⟩,aC,-⟩:=ae.cells;have bv:=aC 3;clear a1 a2 aA aB aG ae aC;dsimp only;obtain ⟨bK,bL,ay,az,bM,aM,a6,-⟩:=f.G.cells;obtain ⟨⟨au,av,ag,aw⟩,T,⟨U,V,I⟩,⟨aD,ax,A⟩⟩:=f.cells;have a7:=A 1;have J:=World.ownsRow.alloc f.P.st (.cells #[.int .i64 3,.string ⟨#[]⟩,.int .i64 (-1),.int .i64 d] 49);have t:=World.news_of_block (heap_alloc_new (H.setCell ⟨aO.heap.size,3,none⟩ (.int .i64 d)) (.cells #[.int .i64 3,.string ⟨#[]⟩,.int .i64 (-1),.int .i64 d] 49));have ah:=f.G.lt.1.1;have a8:B≤H.heap.size:=by simpa using ah
     have K:(H.setCell ⟨aO.heap.size,3,none⟩ (.int .i64 d)).heap.size=H.heap.size:=by first | rfl | simp
     rw[K] at t;clear K;obtain ⟨ak,al,ao,ap,aq⟩:=info_parts Df;have k:=f.P.row;clear T U V I A;go_wp2_with (at_builtin;refine wpList_append_lies _ rfl _ _ 25 rfl B 49 ak (.agg #[.int .i64 0,.string ByteArray.empty,.int .i64 0,.int .i64 0]) 4 40 Tryz.underlying25 al ao ap aq rfl (by decide) (.slice ab S.length cs) S.length (CA S) rfl J.drew ⟨H.heap.size,0,none⟩ 1 1 [.int .i64 3,.string ⟨#[]⟩,.int .i64 (-1),.int .i64 d] rfl rfl t ?q2 (by decide) ?q3 ?q4 ?q5 _ rfl ?_)
     case q2=>first | exact ⟨rfl,rfl,rfl,rfl⟩ | trivial | (simp;done) | (refine ⟨?_, ?_, ?_⟩ <;> rfl) | (intro u hu;simp at hu;rcases hu with rfl | rfl | rfl | rfl <;> rfl)
     case q3=>unfold maxLen;omega
     case q4=>omega
     case q5=>omega
     intro C E j M b Y Z;have i:((H.setCell ⟨aO.heap.size,3,none⟩ (.int .i64 d)).alloc (.cells #[.int .i64 3,.string ⟨#[]⟩,.int .i64 (-1),.int .i64 d] 49)).grownBy j (Value.slice ab S.length cs).ownBlock:=⟨b.os,b.tape,b.output,b.size,b.block⟩
     have z:An j (w.heap.size+1+1) _ _:=⟨(Ap i _ k.lt (Ad k f.P.st (by decide))).trans k.out⟩
     have a9:=z.cell 1;have ba:=z.frozen 1;obtain ⟨aa,g,F,O⟩:=f.pushS (.cells #[.int .i64 3,.string ⟨#[]⟩,.int .i64 (-1),.int .i64 d] 49) (by decide) i M;clear z k M b Y Z i J t f;obtain ⟨N,a0,a3,cy,ar,aW⟩:=aa;have aN:=Ab aW;clear aW;have g1:(j.setCell ⟨w.heap.size+1+1,1,none⟩ (.slice (some ⟨C,0,none⟩) (S.length+1) E)).cell? ⟨w.heap.size+1,1,none⟩=some aj:=ar.row.cell 1;have aH:=g.row.set 0 aj;have bF:=g.row.cell 0;have bG:=g.row.cell 1;have cz:=g.row.frozen 0;have af:=F.setFar (p:=⟨w.heap.size+1+1,0,none⟩) (by simp;omega) aj;have bH:=aH.cell 0;have bI:=aH.cell 1;have cj:=af.cell 0;have ck:=af.cell 1;have cA:=af.frozen 0;have cB:=af.frozen 1;have bx:=Ab (J6 ar g F O (by omega) (by omega));have aI:=Ab (And.intro ar.good.1 (And.intro g.good (show N.length≤20000 from by rw[Aa aN];omega)));clear ar g F O aH af;subst aM;go_wp2_with fail
     obtain ⟨bz,bA,aX,bB⟩:=Aa bx;exact bodyPost_ret (No Tryz.results19 rfl bz) rfl ⟨⟨_,_,N,_,a0,a3,rfl,bA,by rw[List.length_append] at aX ⊢;exact aX,(Aa aI).1,(Aa aI).2.1,(Aa aI).2.2,by simp;omega⟩,bB⟩
    ·skip;have f:=aG;have bQ:m≤m+40:=by omega
     clear aG;obtain ⟨bK,bL,ay,az,bM,aM,a6,-⟩:=f.G.cells;obtain ⟨⟨au,av,ag,aw⟩,T,⟨U,V,I⟩,⟨aD,ax,A⟩⟩:=f.cells;have a7:=A 1;have J:=World.ownsRow.alloc f.P.st (.cells #[.int .i64 3,.string ⟨#[]⟩,.int .i64 (-1),.int .i64 (-1)] 49);have t:=World.news_of_block (heap_alloc_new aK (.cells #[.int .i64 3,.string ⟨#[]⟩,.int .i64 (-1),.int .i64 (-1)] 49));have ah:=f.G.lt.1.1;have a8:B≤aK.heap.size:=by simpa using ah
     have K:aK.heap.size=aK.heap.size:=by first | rfl | simp
     rw[K] at t;clear K;obtain ⟨ak,al,ao,ap,aq⟩:=info_parts Df;have k:=f.P.row;clear T U V I A;go_wp2_with (at_builtin;refine wpList_append_lies _ rfl _ _ 25 rfl B 49 ak (.agg #[.int .i64 0,.string ByteArray.empty,.int .i64 0,.int .i64 0]) 4 40 Tryz.underlying25 al ao ap aq rfl (by decide) (.slice ab S.length cs) S.length (CA S) rfl J.drew ⟨aK.heap.size,0,none⟩ 1 1 [.int .i64 3,.string ⟨#[]⟩,.int .i64 (-1),.int .i64 (-1)] rfl rfl t ?q2 (by decide) ?q3 ?q4 ?q5 _ rfl ?_)
     case q2=>first | exact ⟨rfl,rfl,rfl,rfl⟩ | trivial | (simp;done) | (refine ⟨?_, ?_, ?_⟩ <;> rfl) | (intro u hu;simp at hu;rcases hu with rfl | rfl | rfl | rfl <;> rfl)
     case q3=>unfold maxLen;omega
     case q4=>omega
     case q5=>omega
     intro C E j M b Y Z;have i:(aK.alloc (.cells #[.int .i64 3,.string ⟨#[]⟩,.int .i64 (-1),.int .i64 (-1)] 49)).grownBy j (Value.slice ab S.length cs).ownBlock:=⟨b.os,b.tape,b.output,b.size,b.block⟩
     have z:An j (w.heap.size+1+1) _ _:=⟨(Ap i _ k.lt (Ad k f.P.st (by decide))).trans k.out⟩
     have a9:=z.cell 1;have ba:=z.frozen 1;obtain ⟨aa,g,F,O⟩:=f.pushS (.cells #[.int .i64 3,.string ⟨#[]⟩,.int .i64 (-1),.int .i64 (-1)] 49) (by decide) i M;clear z k M b Y Z i J t f;obtain ⟨N,a0,a3,cy,ar,aW⟩:=aa;have aN:=Ab aW;clear aW;have g1:(j.setCell ⟨w.heap.size+1+1,1,none⟩ (.slice (some ⟨C,0,none⟩) (S.length+1) E)).cell? ⟨w.heap.size+1,1,none⟩=some nd:=ar.row.cell 1;have aH:=g.row.set 0 nd;have bF:=g.row.cell 0;have bG:=g.row.cell 1;have cz:=g.row.frozen 0;have af:=F.setFar (p:=⟨w.heap.size+1+1,0,none⟩) (by simp;omega) nd;have bH:=aH.cell 0;have bI:=aH.cell 1;have cj:=af.cell 0;have ck:=af.cell 1;have cA:=af.frozen 0;have cB:=af.frozen 1;have bx:=Ab (J6 ar g F O (by omega) (by omega));have aI:=Ab (And.intro ar.good.1 (And.intro g.good (show N.length≤20000 from by rw[Aa aN];omega)));clear ar g F O aH af;subst aM;go_wp2_with fail
     obtain ⟨bz,bA,aX,bB⟩:=Aa bx;exact bodyPost_ret (No Tryz.results19 rfl bz) rfl ⟨⟨_,_,N,_,a0,a3,rfl,bA,by rw[List.length_append] at aX ⊢;exact aX,(Aa aI).1,(Aa aI).2.1,(Aa aI).2.2,by simp;omega⟩,bB⟩
  ·have cZ: ¬ ((S.length:Int) < 14):=by omega
   have a4:L.length≤100:=by omega
   have ac:=(Below.refl wr.heap.size wr).alloc NLN (.cells #[.int .i64 3,.string ⟨#[]⟩,.int .i64 (-1),.int .i64 (-1)] 49);have ad:KZ B R (w.heap.size+1) (w.heap.size+1+1) w.heap.size wr.heap.size a n c m L nd lt S (.slice ab S.length cs) (.int .i64 3) (.string ⟨#[]⟩) (.int .i64 (-1)) (.int .i64 (-1)) w (wr.alloc (.cells #[.int .i64 3,.string ⟨#[]⟩,.int .i64 (-1),.int .i64 (-1)] 49)):=
    ⟨bc.below ac,bo.below ac,b8.after ac NLN,An.new wr _ _,b9.trans (ac.mono bc.lt.1.1),⟨fun e=>by have:=(bo.st.lt _ e).2;omega,bc.lt.1.1,by omega,by omega⟩⟩
   clear bc bo b8 b9 ac;go_wp2_with fail
   clear ca;generalize wr.alloc (.cells #[.int .i64 3,.string ⟨#[]⟩,.int .i64 (-1),.int .i64 (-1)] 49)=bq at ad ⊢;refine (BA R a n c bq ad.G.lt.2.2).mono ?_;rintro r aK ⟨x,rfl,cp,cq,bm,bn⟩;have aG:=ad.touch bn bm;clear ad bn bm;dsimp only;by_cases h0: 0 < x % 3
   ·go_wp2_with fail
    refine (Fr a4 3 (by omega) 4 m nd _ (by omega) (by show m+40≤1000000;omega) aG.G).mono ?_;rintro r H ⟨⟨d,rfl⟩,aF,aj,a1,a2,aA,aB⟩;have bQ:aF≤m+40:=a2;have ae:=aG.gk aA aB;have f:=ae.set 3 (.int .i64 d) rfl;obtain ⟨⟨br,bs,bt,bu⟩,aC,-⟩:=ae.cells;have bv:=aC 3;clear a1 a2 aA aB aG ae aC;dsimp only;obtain ⟨bK,bL,ay,az,bM,aM,a6,-⟩:=f.G.cells;obtain ⟨⟨au,av,ag,aw⟩,T,⟨U,V,I⟩,⟨aD,ax,A⟩⟩:=f.cells;have a7:=A 1;have J:=World.ownsRow.alloc f.P.st (.cells #[.int .i64 3,.string ⟨#[]⟩,.int .i64 (-1),.int .i64 d] 49);have t:=World.news_of_block (heap_alloc_new (H.setCell ⟨wr.heap.size,3,none⟩ (.int .i64 d)) (.cells #[.int .i64 3,.string ⟨#[]⟩,.int .i64 (-1),.int .i64 d] 49));have ah:=f.G.lt.1.1;have a8:B≤H.heap.size:=by simpa using ah
    have K:(H.setCell ⟨wr.heap.size,3,none⟩ (.int .i64 d)).heap.size=H.heap.size:=by first | rfl | simp
    rw[K] at t;clear K;obtain ⟨ak,al,ao,ap,aq⟩:=info_parts Df;have k:=f.P.row;clear T U V I A;go_wp2_with (at_builtin;refine wpList_append_lies _ rfl _ _ 25 rfl B 49 ak (.agg #[.int .i64 0,.string ByteArray.empty,.int .i64 0,.int .i64 0]) 4 40 Tryz.underlying25 al ao ap aq rfl (by decide) (.slice ab S.length cs) S.length (CA S) rfl J.drew ⟨H.heap.size,0,none⟩ 1 1 [.int .i64 3,.string ⟨#[]⟩,.int .i64 (-1),.int .i64 d] rfl rfl t ?q2 (by decide) ?q3 ?q4 ?q5 _ rfl ?_)
    case q2=>first | exact ⟨rfl,rfl,rfl,rfl⟩ | trivial | (simp;done) | (refine ⟨?_, ?_, ?_⟩ <;> rfl) | (intro u hu;simp at hu;rcases hu with rfl | rfl | rfl | rfl <;> rfl)
    case q3=>unfold maxLen;omega
    case q4=>omega
    case q5=>omega
    intro C E j M b Y Z;have i:((H.setCell ⟨wr.heap.size,3,none⟩ (.int .i64 d)).alloc (.cells #[.int .i64 3,.string ⟨#[]⟩,.int .i64 (-1),.int .i64 d] 49)).grownBy j (Value.slice ab S.length cs).ownBlock:=⟨b.os,b.tape,b.output,b.size,b.block⟩
    have z:An j (w.heap.size+1+1) _ _:=⟨(Ap i _ k.lt (Ad k f.P.st (by decide))).trans k.out⟩
    have a9:=z.cell 1;have ba:=z.frozen 1;obtain ⟨aa,g,F,O⟩:=f.pushS (.cells #[.int .i64 3,.string ⟨#[]⟩,.int .i64 (-1),.int .i64 d] 49) (by decide) i M;clear z k M b Y Z i J t f;obtain ⟨N,a0,a3,cy,ar,aW⟩:=aa;have aN:=Ab aW;clear aW;have g1:(j.setCell ⟨w.heap.size+1+1,1,none⟩ (.slice (some ⟨C,0,none⟩) (S.length+1) E)).cell? ⟨w.heap.size+1,1,none⟩=some aj:=ar.row.cell 1;have aH:=g.row.set 0 aj;have bF:=g.row.cell 0;have bG:=g.row.cell 1;have cz:=g.row.frozen 0;have af:=F.setFar (p:=⟨w.heap.size+1+1,0,none⟩) (by simp;omega) aj;have bH:=aH.cell 0;have bI:=aH.cell 1;have cj:=af.cell 0;have ck:=af.cell 1;have cA:=af.frozen 0;have cB:=af.frozen 1;have bx:=Ab (J6 ar g F O (by omega) (by omega));have aI:=Ab (And.intro ar.good.1 (And.intro g.good (show N.length≤20000 from by rw[Aa aN];omega)));clear ar g F O aH af;subst aM;go_wp2_with fail
    obtain ⟨bz,bA,aX,bB⟩:=Aa bx;exact bodyPost_ret (No Tryz.results19 rfl bz) rfl ⟨⟨_,_,N,_,a0,a3,rfl,bA,by rw[List.length_append] at aX ⊢;exact aX,(Aa aI).1,(Aa aI).2.1,(Aa aI).2.2,by simp;omega⟩,bB⟩
   ·skip;have f:=aG;have bQ:m≤m+40:=by omega
    clear aG;obtain ⟨bK,bL,ay,az,bM,aM,a6,-⟩:=f.G.cells;obtain ⟨⟨au,av,ag,aw⟩,T,⟨U,V,I⟩,⟨aD,ax,A⟩⟩:=f.cells;have a7:=A 1;have J:=World.ownsRow.alloc f.P.st (.cells #[.int .i64 3,.string ⟨#[]⟩,.int .i64 (-1),.int .i64 (-1)] 49);have t:=World.news_of_block (heap_alloc_new aK (.cells #[.int .i64 3,.string ⟨#[]⟩,.int .i64 (-1),.int .i64 (-1)] 49));have ah:=f.G.lt.1.1;have a8:B≤aK.heap.size:=by simpa using ah
    have K:aK.heap.size=aK.heap.size:=by first | rfl | simp
    rw[K] at t;clear K;obtain ⟨ak,al,ao,ap,aq⟩:=info_parts Df;have k:=f.P.row;clear T U V I A;go_wp2_with (at_builtin;refine wpList_append_lies _ rfl _ _ 25 rfl B 49 ak (.agg #[.int .i64 0,.string ByteArray.empty,.int .i64 0,.int .i64 0]) 4 40 Tryz.underlying25 al ao ap aq rfl (by decide) (.slice ab S.length cs) S.length (CA S) rfl J.drew ⟨aK.heap.size,0,none⟩ 1 1 [.int .i64 3,.string ⟨#[]⟩,.int .i64 (-1),.int .i64 (-1)] rfl rfl t ?q2 (by decide) ?q3 ?q4 ?q5 _ rfl ?_)
    case q2=>first | exact ⟨rfl,rfl,rfl,rfl⟩ | trivial | (simp;done) | (refine ⟨?_, ?_, ?_⟩ <;> rfl) | (intro u hu;simp at hu;rcases hu with rfl | rfl | rfl | rfl <;> rfl)
    case q3=>unfold maxLen;omega
    case q4=>omega
    case q5=>omega
    intro C E j M b Y Z;have i:(aK.alloc (.cells #[.int .i64 3,.string ⟨#[]⟩,.int .i64 (-1),.int .i64 (-1)] 49)).grownBy j (Value.slice ab S.length cs).ownBlock:=⟨b.os,b.tape,b.output,b.size,b.block⟩
    have z:An j (w.heap.size+1+1) _ _:=⟨(Ap i _ k.lt (Ad k f.P.st (by decide))).trans k.out⟩
    have a9:=z.cell 1;have ba:=z.frozen 1;obtain ⟨aa,g,F,O⟩:=f.pushS (.cells #[.int .i64 3,.string ⟨#[]⟩,.int .i64 (-1),.int .i64 (-1)] 49) (by decide) i M;clear z k M b Y Z i J t f;obtain ⟨N,a0,a3,cy,ar,aW⟩:=aa;have aN:=Ab aW;clear aW;have g1:(j.setCell ⟨w.heap.size+1+1,1,none⟩ (.slice (some ⟨C,0,none⟩) (S.length+1) E)).cell? ⟨w.heap.size+1,1,none⟩=some nd:=ar.row.cell 1;have aH:=g.row.set 0 nd;have bF:=g.row.cell 0;have bG:=g.row.cell 1;have cz:=g.row.frozen 0;have af:=F.setFar (p:=⟨w.heap.size+1+1,0,none⟩) (by simp;omega) nd;have bH:=aH.cell 0;have bI:=aH.cell 1;have cj:=af.cell 0;have ck:=af.cell 1;have cA:=af.frozen 0;have cB:=af.frozen 1;have bx:=Ab (J6 ar g F O (by omega) (by omega));have aI:=Ab (And.intro ar.good.1 (And.intro g.good (show N.length≤20000 from by rw[Aa aN];omega)));clear ar g F O aH af;subst aM;go_wp2_with fail
    obtain ⟨bz,bA,aX,bB⟩:=Aa bx;exact bodyPost_ret (No Tryz.results19 rfl bz) rfl ⟨⟨_,_,N,_,a0,a3,rfl,bA,by rw[List.length_append] at aX ⊢;exact aX,(Aa aI).1,(Aa aI).2.1,(Aa aI).2.2,by simp;omega⟩,bB⟩
end Go.Proofs.YtdldimphcpojoaaGreatDoor
