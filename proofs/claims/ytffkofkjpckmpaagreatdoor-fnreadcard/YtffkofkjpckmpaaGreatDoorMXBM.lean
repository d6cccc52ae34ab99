/-
  KTI, KTP. Own work.
-/
import Derived.Test.YtffkofkjpckmpaaGreatDoorMXBL
import Derived.Deep.AppendLies
import Derived.Test.YtffkofkjpckmpaaGreatDoorMXBH
import Derived.Test.YtffkofkjpckmpaaGreatDoorMXAA
import Derived.Test.YtffkofkjpckmpaaGreatDoorMXBE
import Derived.Test.YtffkofkjpckmpaaGreatDoorMXBP
namespace Go.Proofs.YtffkofkjpckmpaaGreatDoor
set_option maxRecDepth 100000
set_option maxHeartbeats 12800000
open Go.RowKit
set_option linter.unusedVariables false
theorem AaH {x:Int}(a: 0≤x)(b:x≤255){j:Nat}(c:j=(x / 12 % 4).toNat):(IntKind.i64.wrap (x.tdiv 12)).tmod 4=(j:Int):=by
 have e1:x.tdiv 12=x / 12:=Int.tdiv_eq_ediv_of_nonneg a;have e2:IntKind.i64.wrap (x / 12)=x / 12:=by
  simp[IntKind.wrap,IntKind.bits,IntKind.signed];omega
 have e3:(x / 12).tmod 4=x / 12 % 4:=Int.tmod_eq_emod_of_nonneg (by omega);rw[e1,e2,e3];omega
theorem Y6 (w:World)(k:Nat)(hk:k < 3):∃ s:ByteArray,s.size≤10∧(w.alloc (.cells #[.string ⟨#[118,48]⟩,.string ⟨#[97,115,107,101,100]⟩,.string ⟨#[110,111,119]⟩] 9)).cell? ⟨w.heap.size,k,none⟩=some (.string s):=by
 have h:=(Am.new w #[.string ⟨#[118,48]⟩,.string ⟨#[97,115,107,101,100]⟩,.string ⟨#[110,111,119]⟩] 9).cell k
 match k,hk with
 | 0,_=>exact ⟨_,by decide,h⟩
 | 1,_=>exact ⟨_,by decide,h⟩
 | 2,_=>exact ⟨_,by decide,h⟩
theorem AaI (k:Nat)(hk:k < 4):∃ s:ByteArray,s.size≤10∧∀ w:World,(w.alloc (.cells #[.string ⟨#[118]⟩,.string ⟨#[119]⟩,.string ⟨#[98,97,115,101]⟩,.string ⟨#[120,95,49]⟩] 9)).cell? ⟨w.heap.size,k,none⟩=some (.string s):=by
 have h:=fun w:World=>(Am.new w #[.string ⟨#[118]⟩,.string ⟨#[119]⟩,.string ⟨#[98,97,115,101]⟩,.string ⟨#[120,95,49]⟩] 9).cell k
 match k,hk with
 | 0,_=>exact ⟨_,by decide,h⟩
 | 1,_=>exact ⟨_,by decide,h⟩
 | 2,_=>exact ⟨_,by decide,h⟩
 | 3,_=>exact ⟨_,by decide,h⟩
def PlI (B R gb pb b0:Nat) (a:Option Addr) (n c:Nat) (w wr:World):Prop:=
 ∃ (m:Nat) (L:List (ByteArray × Int)) (nd lt:Value) (S:List St) (sv:Value),IQ B R gb a n c m L nd lt wr∧Z6 wr B pb S sv∧Am wr b0 #[.slice none 0 0,.slice none 0 0] 27∧S.length≤14∧L.length≤S.length∧m≤800 * S.length∧Below B w wr
theorem Sg {B R:Nat}{a:Option Addr}{n c:Nat}{w:World}(bK:CE w R a n c)(cC:B≤R)(cD: 0 < n→∀ q,a=some q→q.block < B)(aI:Bool):
  Calls Tryz.prog 27 #[.pointer (some ⟨R,0,none⟩),.bool aI] w fun r w'=>(∃ nd bp N S a6 a7,r= .returned (.agg #[nd,bp])∧Cj w' B nd N a6 a7∧w'.ownsRow B 51 4 bp S.length (Dm S)∧(∀ x∈N,ndG x)∧(∀ s∈S,s.name.size≤1048576)∧N.length≤20000∧S.length≤15)∧Below B w w':=by
 have cE:=bK.lt;have bL:=(Below.refl w.heap.size w).alloc NLN (.cells #[.slice none 0 0,.slice none 0 0] 27);have bM:=bL.alloc bL.size (.cells #[.pointer (some ⟨R,0,none⟩),.slice none 0 0,.slice none 0 0,.bool aI] 131);have bq:=bM.alloc bM.size (.cells #[.slice none 0 0,.slice none 0 0] 27);have bN:=((Am.new w #[.slice none 0 0,.slice none 0 0] 27).alloc (.cells #[.pointer (some ⟨R,0,none⟩),.slice none 0 0,.slice none 0 0,.bool aI] 131)).alloc (.cells #[.slice none 0 0,.slice none 0 0] 27);have br:=(Am.new (w.alloc (.cells #[.slice none 0 0,.slice none 0 0] 27)) #[.pointer (some ⟨R,0,none⟩),.slice none 0 0,.slice none 0 0,.bool aI] 131).alloc (.cells #[.slice none 0 0,.slice none 0 0] 27);have bs:=Am.new ((w.alloc (.cells #[.slice none 0 0,.slice none 0 0] 27)).alloc (.cells #[.pointer (some ⟨R,0,none⟩),.slice none 0 0,.slice none 0 0,.bool aI] 131)) #[.slice none 0 0,.slice none 0 0] 27;simp only[World.size_alloc] at br bs;have hr2:=bK.after bq cE;go_enter Tryz.func27,Tryz.ntmps27
 go_wp2_with fail
 generalize ((w.alloc (.cells #[.slice none 0 0,.slice none 0 0] 27)).alloc (.cells #[.pointer (some ⟨R,0,none⟩),.slice none 0 0,.slice none 0 0,.bool aI] 131)).alloc (.cells #[.slice none 0 0,.slice none 0 0] 27)=a8 at bq bN br bs hr2 ⊢;clear bL bM;have b7:=Ab (show PlI B R (w.heap.size+1) (w.heap.size+1+1) w.heap.size a n c w a8 from ⟨0, [],_,_, [],_,⟨[], [], [],aI,⟨br,hr2,Cj.nil _ _,World.ownsRow_nil _ _ _ _,⟨⟨by omega,cC⟩,cD⟩,(fun x hx=>by cases hx),(fun x hx=>by cases hx)⟩,rfl⟩,⟨bs,World.ownsRow_nil _ _ _ _,fun s hs=>by cases hs⟩,bN,by simp,by simp,by simp,bq.mono (by omega)⟩);clear bN br bs hr2 bq bK;go_loopw [] (fun wr=>PlI B R (w.heap.size+1) (w.heap.size+1+1) w.heap.size a n c w wr) (fun wr=>14 - I0 ((wr.cell? ⟨w.heap.size+1+1,1,none⟩).getD undef))
 case atStart=>exact Aa b7
 case round=>
  clear b7;obtain ⟨m,L,nd,lt,S,bp,aR,aS,bt,dk,dl,dm,bu⟩:=hrel;obtain ⟨ab,cs,b8,-⟩:=Af aS.st;have bO:=aS.row.cell 1;have bP:=Ab (show I0 ((wr.cell? ⟨w.heap.size+1+1,1,none⟩).getD undef)=S.length by
   have:wr.cell? ⟨w.heap.size+1+1,1,none⟩=some bp:=bO;rw[this,b8];rfl)
  subst b8;by_cases h14:S.length < 14
  case' neg=>
   have cF: ¬ ((S.length:Int) < 14):=by omega
   obtain ⟨M,cG⟩:∃ M,M=wr:=⟨_,rfl⟩
   subst cG;have af:=aR;have aT:=aS;have a9:=bt;have ba:=bu;clear aR aS bt bu
  case' pos=>
   have cF:(S.length:Int) < 14:=by omega
   go_wp2_with fail
   refine (Sf R a n c wr aR.lt.2.2).mono ?_;rintro r M ⟨y,rfl,dn,dp,bb⟩;have af:=aR.below bb;have aT:=aS.below bb;have a9:=bt.after bb NLN;have ba:=bu.trans (bb.mono aR.lt.1.1);clear aR aS bt bu bb;dsimp only;by_cases hy: 4 < y
   case' neg=>have dq: ¬ ((4 :Int) < y):=hy
   case pos=>
    go_wp2_with fail
    refine (BJ R a n c M af.lt.2.2).mono ?_;rintro r i ⟨x,rfl,b9,ca,hr2,ac⟩;have bv:Gk B R (w.heap.size+1) lt nd M nd i:=Gk.of_touch ac af.lt.2.1.2 af.lt.1.2.2;have aJ:=af.touch ac hr2;have aU:=aT.gk bv af;have bw:=bv.row af a9 (by decide) (by decide) (by decide) (by decide);have bx:=ba.trans bv.low;clear af aT a9 ba bv ac hr2 bO;dsimp only;by_cases e3:x % 3=0
    ·have bQ:(x % 3== 0)=true:=zI.2 e3;have aN:L.length≤100:=by omega
     clear e3;have I:=(Below.refl i.heap.size i).alloc NLN (.cells #[.int .i64 1,.string ⟨#[]⟩,.int .i64 (-1),.int .i64 (-1)] 51);have C:NS B R (w.heap.size+1) (w.heap.size+1+1) w.heap.size i.heap.size a n c m L nd lt S (.slice ab S.length cs) (.int .i64 1) (.string ⟨#[]⟩) (.int .i64 (-1)) (.int .i64 (-1)) w (i.alloc (.cells #[.int .i64 1,.string ⟨#[]⟩,.int .i64 (-1),.int .i64 (-1)] 51)):=
      ⟨aJ.below I,aU.below I,bw.after I NLN,Am.new i _ _,bx.trans (I.mono aJ.lt.1.1),⟨fun e=>by have:=(aU.st.lt _ e).2;omega,aJ.lt.1.1,by omega,by omega⟩⟩
     clear aJ aU bw bx I;go_wp2_with fail
     generalize i.alloc (.cells #[.int .i64 1,.string ⟨#[]⟩,.int .i64 (-1),.int .i64 (-1)] 51)=bc at C ⊢;refine (H5 aN 4 (by omega) (1+x / 3 % 4) m nd _ (by omega) (by show m+121≤1000000;omega) C.G).mono ?_;rintro r J ⟨⟨d,rfl⟩,ah,ao,a1,a2,O,Q⟩;have bR:ah≤m+121:=a2;have t:=C.gk O Q;have f:=t.set 2 (.int .i64 d) rfl;obtain ⟨⟨aV,aW,aX,aY⟩,T,-⟩:=t.cells;have aZ:=T 2;clear a1 a2 O Q C t T;obtain ⟨⟨av,aw,ac,ax⟩,U,⟨ad,ae,V⟩,⟨aK,ay,E⟩⟩:=f.cells;have cb:=U 1;clear U ad ae V E aK;dsimp only;go_wp2_with fail
     generalize J.setCell ⟨i.heap.size,2,none⟩ (.int .i64 d)=ap at f av aw ac ax ay cb ⊢;clear aV aW aX aY aZ;apply Ut
     ·intro cH;have cI:(Tryz.f63.name== "runtime.NumGoroutine")=false:=by kernel_rfl
      have cJ: Tryz.f63.body.isNone=false:=by kernel_rfl
      have bS:=Ab (fun (a8:World)=>(Dp (S.length:Int) a8 (by omega) (by omega)).mono (R':=fun e w'=>∃ v,e= .returned v∧(v= .string (Jr (S.length:Int).toNat)∧Below a8.heap.size a8 w')) (fun r w' h=>⟨_,h.1,rfl,h.2⟩));obtain ⟨aq,cK,bz⟩:=AaI (x / 12 % 4).toNat (by omega);obtain ⟨az,bT⟩:∃ az:Nat,az=(x / 12 % 4).toNat:=⟨_,rfl⟩
      have hq:(IntKind.i64.wrap (x.tdiv 12)).tmod 4=(az:Int):=AaH b9 ca bT;have cL:(az:Int) < 4:=by omega
      have cM:az < 4:=by omega
      rw[← bT] at bz;clear bT;have cc:=f.below (Di ap);have bU:=f.below ((Below.refl ap.heap.size ap).alloc NLN (.cells #[.string ⟨#[118]⟩,.string ⟨#[119]⟩,.string ⟨#[98,97,115,101]⟩,.string ⟨#[120,95,49]⟩] 9));have cd:=bz ap;obtain ⟨⟨cN,bV,cO,cP⟩,ce,-,⟨cQ,cR,cS⟩⟩:=bU.cells;have cT:=ce 1;clear ce cS cQ;have cf:=bU.below (Di _);have cg:=Ed (S.length:Int).toNat;generalize Jr (S.length:Int).toNat=aA at bS cg;have cU: ¬ (9223372036854775807 < aq.size+aA.size):=by omega
      have aL:=Ab (show (aq ++aA).size≤100 by rw[Ar];omega);go_region_law (refine Jd rfl 63 _ Tryz.func63 cI cJ _ _ rfl (.int .i64 (S.length:Int)) rfl _ (Aa bS _) ?_;rintro dr W ⟨rfl,bA⟩;first | (have bd:=cf.below bA;have ch:W.cell? ⟨ap.heap.size,az,none⟩=some (.string aq):=(bA.cell (p:=⟨ap.heap.size,az,none⟩) (by show ap.heap.size < (ap.alloc _).heap.size;simp)).trans cd;obtain ⟨⟨bB,bC,bD,bE⟩,bf,-,-⟩:=bd.cells;have ci:=bf 1;clear bf) | (have cj:=cc.below bA;have bd:=cj.below ((Below.refl W.heap.size W).alloc NLN (.cells #[.string ⟨#[118]⟩,.string ⟨#[119]⟩,.string ⟨#[98,97,115,101]⟩,.string ⟨#[120,95,49]⟩] 9));obtain ⟨⟨bB,bC,bD,bE⟩,bf,-,-⟩:=bd.cells;have ci:=bf 1;have ch:=bz W;clear bf))
      all_goals
       have l:=bd.set 1 (.string (aq ++aA)) rfl;have a0:=Ab l;clear cN bV cO cP cR cT cd ch bd l bB bC bD bE ci bz cK cg cU hq cL cM bS cc bU cf
       first
       |(clear cj;generalize (W.alloc (.cells #[.string ⟨#[118]⟩,.string ⟨#[119]⟩,.string ⟨#[98,97,115,101]⟩,.string ⟨#[120,95,49]⟩] 9)).setCell ⟨i.heap.size,1,none⟩ (.string (aq ++aA))=ai at a0 ⊢;generalize W.heap.size=bW)
       |(generalize W.setCell ⟨i.heap.size,1,none⟩ (.string (aq ++aA))=ai at a0 ⊢;generalize ap.heap.size=bW)
       clear bA;revert a0;revert ai;revert aL;revert aA;revert aq;revert az;revert bW;exact cH.out
     intro bW az aq aA aL ai a0;have l:=Aa a0;clear a0 f av aw ac ax ay cb;have bF:=Aa aL;clear aL;cases aI
     case' false=>generalize aq ++aA=nm at l bF ⊢
     case' true=>
      by_cases ds: 245 < x
      case' pos=>
       clear bF;obtain ⟨nm,bF,cV⟩:=Y6 ai (x % 3).toNat (by omega);have bX:=l.below ((Below.refl ai.heap.size ai).alloc NLN (.cells #[.string ⟨#[118,48]⟩,.string ⟨#[97,115,107,101,100]⟩,.string ⟨#[110,111,119]⟩] 9));replace l:=bX.set 1 (.string nm) rfl;obtain ⟨⟨cW,cX,cY,cZ⟩,ck,-,-⟩:=bX.cells;have c0:=ck 1;clear ck bX;go_wp2_with fail
       generalize (ai.alloc (.cells #[.string ⟨#[118,48]⟩,.string ⟨#[97,115,107,101,100]⟩,.string ⟨#[110,111,119]⟩] 9)).setCell ⟨i.heap.size,1,none⟩ (.string nm)=ai at l ⊢;clear cW cX cY cZ c0 cV
      case' neg=>generalize aq ++aA=nm at l bF ⊢
     all_goals
      obtain ⟨cl,cm,a3,a4,cn,bg,bY,-⟩:=l.G.cells;subst bY;obtain ⟨⟨av,aw,ac,ax⟩,U,⟨ad,ae,V⟩,⟨aK,ay,E⟩⟩:=l.cells;have c1:=V 2;obtain ⟨dt,du,dv,c2,bZ,c3⟩:=l.G;have b0:=bZ.lets;have bh:=bZ.row;clear bZ c3;have co:=(World.ownsRow.alloc b0 (.cells #[.string nm,.int .i64 (1+x / 3 % 4)] 134)).drew;have cp:=World.news_of_block (heap_alloc_new ai (.cells #[.string nm,.int .i64 (1+x / 3 % 4)] 134));have ar:=l.G.lt.1.1;have cq:=bh.alloc (.cells #[.string nm,.int .i64 (1+x / 3 % 4)] 134);have c4:=cq.cell 2;have bV:=(l.s.alloc (.cells #[.string nm,.int .i64 (1+x / 3 % 4)] 134)).cell 1;have cr:(Value.slice a3 L.length a4).ownBlock≠some (w.heap.size+1):=Ad bh b0 (by decide);obtain ⟨c5,c6,c7,c8,c9⟩:=info_parts Y7;clear U ad V E aK ay bg av ac ax
      first | go_wp2_with fail | skip
      go_region_law (refine step_append_lies _ rfl _ _ 129 rfl B 134 c5 (.agg #[.string ByteArray.empty,.int .i64 0]) 2 24 Tryz.underlying129 c6 c7 c8 c9 rfl (by decide) (.slice a3 L.length a4) L.length (Og L) rfl co ⟨ai.heap.size,0,none⟩ 1 1 [.string nm,.int .i64 (1+x / 3 % 4)] rfl rfl cp (by intro u hu;simp at hu;rcases hu with rfl | rfl <;> rfl) (by decide) (by unfold maxLen;omega) (by omega) (by simp;omega) _ rfl ?_;intro g8 ct b1 cu b aj ak;have o:(ai.alloc (.cells #[.string nm,.int .i64 (1+x / 3 % 4)] 134)).grownBy b1 (Value.slice a3 L.length a4).ownBlock:=⟨b.os,b.tape,b.output,b.size,b.block⟩;have b2:Am b1 (w.heap.size+1) #[.pointer (some ⟨R,0,none⟩),ao,.slice a3 L.length a4,.bool c2] 131:=⟨(Ax o _ bh.lt cr).trans bh.out⟩;have bQ:=b2.cell 2;have da:=b2.frozen 2)
      all_goals
       have aM:=l.pushL (.cells #[.string nm,.int .i64 (1+x / 3 % 4)] 134) (nm,1+x / 3 % 4) (by show nm.size≤1000;omega) o cu;clear cq c4 bV cr bh b0 co cp b aj ak o b2 bQ da l aw ae c1 cu;generalize b1.setCell ⟨w.heap.size+1,2,none⟩ (.slice (some ⟨g8,0,none⟩) (L.length+1) ct)=a5 at aM ⊢;obtain ⟨⟨av,aw,ac,ax⟩,U,⟨ad,ae,V⟩,⟨aK,ay,E⟩⟩:=aM.cells;have bG:=E 1;have X:=World.ownsRow.alloc aM.P.st (.cells #[.int .i64 1,.string nm,.int .i64 d,.int .i64 (-1)] 51);have z:=World.news_of_block (heap_alloc_new a5 (.cells #[.int .i64 1,.string nm,.int .i64 d,.int .i64 (-1)] 51));have ar:=aM.G.lt.1.1;have bH:B≤a5.heap.size:=by simpa using ar
       have Y:a5.heap.size=a5.heap.size:=by first | rfl | simp
       rw[Y] at z;clear Y;obtain ⟨aB,aC,aD,aE,aF⟩:=info_parts H6;have k:=aM.P.row;clear U ad ae V E;go_wp2_with (at_builtin;refine wpList_append_lies _ rfl _ _ 25 rfl B 51 aB (.agg #[.int .i64 0,.string ByteArray.empty,.int .i64 0,.int .i64 0]) 4 40 Tryz.underlying25 aC aD aE aF rfl (by decide) (.slice ab S.length cs) S.length (Dm S) rfl X.drew ⟨a5.heap.size,0,none⟩ 1 1 [.int .i64 1,.string nm,.int .i64 d,.int .i64 (-1)] rfl rfl z ?q2 (by decide) ?q3 ?q4 ?q5 _ rfl ?_)
       case q2=>first | exact ⟨rfl,rfl,rfl,rfl⟩ | trivial | (simp;done) | (refine ⟨?_, ?_, ?_⟩ <;> rfl) | (intro u hu;simp at hu;rcases hu with rfl | rfl | rfl | rfl <;> rfl)
       case q3=>unfold maxLen;omega
       case q4=>omega
       case q5=>omega
       intro F H j Z b aj ak;have o:(a5.alloc (.cells #[.int .i64 1,.string nm,.int .i64 d,.int .i64 (-1)] 51)).grownBy j (Value.slice ab S.length cs).ownBlock:=⟨b.os,b.tape,b.output,b.size,b.block⟩
       have A:Am j (w.heap.size+1+1) _ _:=⟨(Ax o _ k.lt (Ad k aM.P.st (by decide))).trans k.out⟩
       have bI:=A.cell 1;have f1:=A.frozen 1;obtain ⟨ag,g,K,aa⟩:=aM.pushS (.cells #[.int .i64 1,.string nm,.int .i64 d,.int .i64 (-1)] 51) (by show (nm:ByteArray).size≤1048576;first | omega | decide) o Z
       have bi:=Ab (show PlI B R (w.heap.size+1) (w.heap.size+1+1) w.heap.size a n c w (j.setCell ⟨w.heap.size+1+1,1,none⟩ (.slice (some ⟨F,0,none⟩) (S.length+1) H)) from ⟨ah,(L ++ [(nm,1+x / 3 % 4)]),ao,(.slice (some ⟨g8,0,none⟩) (L.length+1) ct),S ++ [⟨1,nm,d,(-1)⟩],_,ag,g,K,by simp;omega,by simp;omega,by simp;omega,aa⟩);have bj:=Ab (show 14 - I0 (((j.setCell ⟨w.heap.size+1+1,1,none⟩ (.slice (some ⟨F,0,none⟩) (S.length+1) H)).cell? ⟨w.heap.size+1+1,1,none⟩).getD undef) < 14 - I0 ((wr.cell? ⟨w.heap.size+1+1,1,none⟩).getD undef) by
        have e:(j.setCell ⟨w.heap.size+1+1,1,none⟩ (.slice (some ⟨F,0,none⟩) (S.length+1) H)).cell? ⟨w.heap.size+1+1,1,none⟩=some (.slice (some ⟨F,0,none⟩) (S.length+1) H):=g.row.cell 1;rw[e,Aa bP];show 14 - (S.length+1) < 14 - S.length;omega)
       clear ag g K aa A k Z b aj ak o X z aM;go_wp2_with fail
       exact ⟨Aa bi,Aa bj⟩
    ·have bQ:(x % 3== 0)=false:=zA.2 e3;have I:=(Below.refl i.heap.size i).alloc NLN (.cells #[.int .i64 2,.string ⟨#[]⟩,.int .i64 (-1),.int .i64 (-1)] 51);have C:NS B R (w.heap.size+1) (w.heap.size+1+1) w.heap.size i.heap.size a n c m L nd lt S (.slice ab S.length cs) (.int .i64 2) (.string ⟨#[]⟩) (.int .i64 (-1)) (.int .i64 (-1)) w (i.alloc (.cells #[.int .i64 2,.string ⟨#[]⟩,.int .i64 (-1),.int .i64 (-1)] 51)):=
      ⟨aJ.below I,aU.below I,bw.after I NLN,Am.new i _ _,bx.trans (I.mono aJ.lt.1.1),⟨fun e=>by have:=(aU.st.lt _ e).2;omega,aJ.lt.1.1,by omega,by omega⟩⟩
     clear aJ aU bw bx I;have aN:L.length≤100:=by omega
     have cv:x % 3=1∨x % 3=2:=by omega
     clear e3;by_cases bJ:x=254
     case' pos=>
      have db:(x== 254)=true:=zI.2 bJ;have cw:(x % 3== 1)=false:=zA.2 (by omega);clear bJ cv;go_wp2_with fail
      generalize i.alloc (.cells #[.int .i64 2,.string ⟨#[]⟩,.int .i64 (-1),.int .i64 (-1)] 51)=bc at C ⊢;refine (BJ R a n c bc C.G.lt.2.2).mono ?_;rintro r aO ⟨cx,rfl,cy,cz,bk,bl⟩;have aG:=C.touch bl bk;clear C bl bk;obtain ⟨bm,cA⟩:∃ bm:Nat,(bm:Int)=64 - cx % 2:=⟨(64 - cx % 2).toNat,by omega⟩
      have dc: 1≤bm:=by omega
      have dd:bm≤64:=by omega
      have de:=Ab cA;clear cA;dsimp only;go_wp2_with fail
      rw[← Aa de];refine (Y5 aG.G (by omega) aN bm dc dd).mono ?_;rintro r J ⟨⟨d,rfl⟩,ah,ao,a1,a2,O,Q⟩;have t:=aG.gk O Q;have f:=t.set 2 (.int .i64 d) rfl;obtain ⟨⟨aV,aW,aX,aY⟩,T,-⟩:=t.cells;have aZ:=T 2;clear a1 O Q aG t T;dsimp only
     case' neg=>
      have db:(x== 254)=false:=zA.2 bJ;clear bJ;go_wp2_with fail
      generalize i.alloc (.cells #[.int .i64 2,.string ⟨#[]⟩,.int .i64 (-1),.int .i64 (-1)] 51)=bc at C ⊢;refine (H5 aN 5 (by omega) 1 m nd _ (by omega) (by show m+364≤1000000;omega) C.G).mono ?_;rintro r J ⟨⟨d,rfl⟩,ah,ao,a1,a2,O,Q⟩;have bR:ah≤m+364:=a2;have t:=C.gk O Q;have f:=t.set 2 (.int .i64 d) rfl;obtain ⟨⟨aV,aW,aX,aY⟩,T,-⟩:=t.cells;have aZ:=T 2;clear a1 a2 O Q C t T;dsimp only;rcases cv with e1 | e2
      case inl=>
       have cw:(x % 3== 1)=true:=zI.2 e1;clear e1;go_wp2_with fail
       generalize J.setCell ⟨i.heap.size,2,none⟩ (.int .i64 d)=ap at f ⊢;clear aV aW aX aY aZ;refine (H5 aN 4 (by omega) 4 ah ao _ (by omega) (by show ah+121≤1000000;omega) f.G).mono ?_;rintro r W ⟨⟨au,rfl⟩,cB,df,a1,a2,O,Q⟩;have dw:cB≤ah+121:=a2;have t:=f.gk O Q;have l:=t.set 3 (.int .i64 au) rfl;obtain ⟨⟨aV,aW,aX,aY⟩,T,-⟩:=t.cells;have aZ:=T 3;clear a1 a2 O Q f t T;dsimp only;obtain ⟨⟨av,aw,ac,ax⟩,U,⟨ad,ae,V⟩,⟨aK,ay,E⟩⟩:=l.cells;have bG:=E 1;have X:=World.ownsRow.alloc l.P.st (.cells #[.int .i64 2,.string ⟨#[]⟩,.int .i64 d,.int .i64 au] 51);have z:=World.news_of_block (heap_alloc_new (W.setCell ⟨i.heap.size,3,none⟩ (.int .i64 au)) (.cells #[.int .i64 2,.string ⟨#[]⟩,.int .i64 d,.int .i64 au] 51));have ar:=l.G.lt.1.1;have bH:B≤W.heap.size:=by simpa using ar
       have Y:(W.setCell ⟨i.heap.size,3,none⟩ (.int .i64 au)).heap.size=W.heap.size:=by first | rfl | simp
       rw[Y] at z;clear Y;obtain ⟨aB,aC,aD,aE,aF⟩:=info_parts H6;have k:=l.P.row;clear U ad ae V E;go_wp2_with (at_builtin;refine wpList_append_lies _ rfl _ _ 25 rfl B 51 aB (.agg #[.int .i64 0,.string ByteArray.empty,.int .i64 0,.int .i64 0]) 4 40 Tryz.underlying25 aC aD aE aF rfl (by decide) (.slice ab S.length cs) S.length (Dm S) rfl X.drew ⟨W.heap.size,0,none⟩ 1 1 [.int .i64 2,.string ⟨#[]⟩,.int .i64 d,.int .i64 au] rfl rfl z ?q2 (by decide) ?q3 ?q4 ?q5 _ rfl ?_)
       case q2=>first | exact ⟨rfl,rfl,rfl,rfl⟩ | trivial | (simp;done) | (refine ⟨?_, ?_, ?_⟩ <;> rfl) | (intro u hu;simp at hu;rcases hu with rfl | rfl | rfl | rfl <;> rfl)
       case q3=>unfold maxLen;omega
       case q4=>omega
       case q5=>omega
       intro F H j Z b aj ak;have o:((W.setCell ⟨i.heap.size,3,none⟩ (.int .i64 au)).alloc (.cells #[.int .i64 2,.string ⟨#[]⟩,.int .i64 d,.int .i64 au] 51)).grownBy j (Value.slice ab S.length cs).ownBlock:=⟨b.os,b.tape,b.output,b.size,b.block⟩
       have A:Am j (w.heap.size+1+1) _ _:=⟨(Ax o _ k.lt (Ad k l.P.st (by decide))).trans k.out⟩
       have bI:=A.cell 1;have f1:=A.frozen 1;obtain ⟨ag,g,K,aa⟩:=l.pushS (.cells #[.int .i64 2,.string ⟨#[]⟩,.int .i64 d,.int .i64 au] 51) (by show (⟨#[]⟩:ByteArray).size≤1048576;first | omega | decide) o Z
       have bi:=Ab (show PlI B R (w.heap.size+1) (w.heap.size+1+1) w.heap.size a n c w (j.setCell ⟨w.heap.size+1+1,1,none⟩ (.slice (some ⟨F,0,none⟩) (S.length+1) H)) from ⟨cB,L,df,lt,S ++ [⟨2,⟨#[]⟩,d,au⟩],_,ag,g,K,by simp;omega,by simp;omega,by simp;omega,aa⟩);have bj:=Ab (show 14 - I0 (((j.setCell ⟨w.heap.size+1+1,1,none⟩ (.slice (some ⟨F,0,none⟩) (S.length+1) H)).cell? ⟨w.heap.size+1+1,1,none⟩).getD undef) < 14 - I0 ((wr.cell? ⟨w.heap.size+1+1,1,none⟩).getD undef) by
        have e:(j.setCell ⟨w.heap.size+1+1,1,none⟩ (.slice (some ⟨F,0,none⟩) (S.length+1) H)).cell? ⟨w.heap.size+1+1,1,none⟩=some (.slice (some ⟨F,0,none⟩) (S.length+1) H):=g.row.cell 1;rw[e,Aa bP];show 14 - (S.length+1) < 14 - S.length;omega)
       clear ag g K aa A k Z b aj ak o X z l;go_wp2_with fail
       exact ⟨Aa bi,Aa bj⟩
      have cw:(x % 3== 1)=false:=zA.2 (by omega);clear e2
     all_goals
      obtain ⟨⟨av,aw,ac,ax⟩,U,⟨ad,ae,V⟩,⟨aK,ay,E⟩⟩:=f.cells;have bG:=E 1;have X:=World.ownsRow.alloc f.P.st (.cells #[.int .i64 2,.string ⟨#[]⟩,.int .i64 d,.int .i64 (-1)] 51);have z:=World.news_of_block (heap_alloc_new (J.setCell ⟨i.heap.size,2,none⟩ (.int .i64 d)) (.cells #[.int .i64 2,.string ⟨#[]⟩,.int .i64 d,.int .i64 (-1)] 51));have ar:=f.G.lt.1.1;have bH:B≤J.heap.size:=by simpa using ar
      have Y:(J.setCell ⟨i.heap.size,2,none⟩ (.int .i64 d)).heap.size=J.heap.size:=by first | rfl | simp
      rw[Y] at z;clear Y;obtain ⟨aB,aC,aD,aE,aF⟩:=info_parts H6;have k:=f.P.row;clear U ad ae V E;go_wp2_with (at_builtin;refine wpList_append_lies _ rfl _ _ 25 rfl B 51 aB (.agg #[.int .i64 0,.string ByteArray.empty,.int .i64 0,.int .i64 0]) 4 40 Tryz.underlying25 aC aD aE aF rfl (by decide) (.slice ab S.length cs) S.length (Dm S) rfl X.drew ⟨J.heap.size,0,none⟩ 1 1 [.int .i64 2,.string ⟨#[]⟩,.int .i64 d,.int .i64 (-1)] rfl rfl z ?q2 (by decide) ?q3 ?q4 ?q5 _ rfl ?_)
      case q2=>first | exact ⟨rfl,rfl,rfl,rfl⟩ | trivial | (simp;done) | (refine ⟨?_, ?_, ?_⟩ <;> rfl) | (intro u hu;simp at hu;rcases hu with rfl | rfl | rfl | rfl <;> rfl)
      case q3=>unfold maxLen;omega
      case q4=>omega
      case q5=>omega
      intro F H j Z b aj ak;have o:((J.setCell ⟨i.heap.size,2,none⟩ (.int .i64 d)).alloc (.cells #[.int .i64 2,.string ⟨#[]⟩,.int .i64 d,.int .i64 (-1)] 51)).grownBy j (Value.slice ab S.length cs).ownBlock:=⟨b.os,b.tape,b.output,b.size,b.block⟩
      have A:Am j (w.heap.size+1+1) _ _:=⟨(Ax o _ k.lt (Ad k f.P.st (by decide))).trans k.out⟩
      have bI:=A.cell 1;have f1:=A.frozen 1;obtain ⟨ag,g,K,aa⟩:=f.pushS (.cells #[.int .i64 2,.string ⟨#[]⟩,.int .i64 d,.int .i64 (-1)] 51) (by show (⟨#[]⟩:ByteArray).size≤1048576;first | omega | decide) o Z
      have bi:=Ab (show PlI B R (w.heap.size+1) (w.heap.size+1+1) w.heap.size a n c w (j.setCell ⟨w.heap.size+1+1,1,none⟩ (.slice (some ⟨F,0,none⟩) (S.length+1) H)) from ⟨ah,L,ao,lt,S ++ [⟨2,⟨#[]⟩,d,(-1)⟩],_,ag,g,K,by simp;omega,by simp;omega,by simp;omega,aa⟩);have bj:=Ab (show 14 - I0 (((j.setCell ⟨w.heap.size+1+1,1,none⟩ (.slice (some ⟨F,0,none⟩) (S.length+1) H)).cell? ⟨w.heap.size+1+1,1,none⟩).getD undef) < 14 - I0 ((wr.cell? ⟨w.heap.size+1+1,1,none⟩).getD undef) by
       have e:(j.setCell ⟨w.heap.size+1+1,1,none⟩ (.slice (some ⟨F,0,none⟩) (S.length+1) H)).cell? ⟨w.heap.size+1+1,1,none⟩=some (.slice (some ⟨F,0,none⟩) (S.length+1) H):=g.row.cell 1;rw[e,Aa bP];show 14 - (S.length+1) < 14 - S.length;omega)
      clear ag g K aa A k Z b aj ak o X z f;go_wp2_with fail
      exact ⟨Aa bi,Aa bj⟩
  all_goals
   have aN:L.length≤100:=by omega
   have I:=(Below.refl M.heap.size M).alloc NLN (.cells #[.int .i64 3,.string ⟨#[]⟩,.int .i64 (-1),.int .i64 (-1)] 51);have C:NS B R (w.heap.size+1) (w.heap.size+1+1) w.heap.size M.heap.size a n c m L nd lt S (.slice ab S.length cs) (.int .i64 3) (.string ⟨#[]⟩) (.int .i64 (-1)) (.int .i64 (-1)) w (M.alloc (.cells #[.int .i64 3,.string ⟨#[]⟩,.int .i64 (-1),.int .i64 (-1)] 51)):=
    ⟨af.below I,aT.below I,a9.after I NLN,Am.new M _ _,ba.trans (I.mono af.lt.1.1),⟨fun e=>by have:=(aT.st.lt _ e).2;omega,af.lt.1.1,by omega,by omega⟩⟩
   clear af aT a9 ba I;go_wp2_with fail
   clear bO;generalize M.alloc (.cells #[.int .i64 3,.string ⟨#[]⟩,.int .i64 (-1),.int .i64 (-1)] 51)=bc at C ⊢;refine (BJ R a n c bc C.G.lt.2.2).mono ?_;rintro r aO ⟨x,rfl,b9,ca,bk,bl⟩;have aG:=C.touch bl bk;clear C bl bk;dsimp only;by_cases h0: 0 < x % 3
   ·go_wp2_with fail
    refine (H5 aN 3 (by omega) 4 m nd _ (by omega) (by show m+40≤1000000;omega) aG.G).mono ?_;rintro r J ⟨⟨d,rfl⟩,ah,ao,a1,a2,O,Q⟩;have bR:ah≤m+40:=a2;have t:=aG.gk O Q;have f:=t.set 3 (.int .i64 d) rfl;obtain ⟨⟨aV,aW,aX,aY⟩,T,-⟩:=t.cells;have aZ:=T 3;clear a1 a2 O Q aG t T;dsimp only;obtain ⟨cl,cm,a3,a4,cn,bg,bY,-⟩:=f.G.cells;obtain ⟨⟨av,aw,ac,ax⟩,U,⟨ad,ae,V⟩,⟨aK,ay,E⟩⟩:=f.cells;have bG:=E 1;have X:=World.ownsRow.alloc f.P.st (.cells #[.int .i64 3,.string ⟨#[]⟩,.int .i64 (-1),.int .i64 d] 51);have z:=World.news_of_block (heap_alloc_new (J.setCell ⟨M.heap.size,3,none⟩ (.int .i64 d)) (.cells #[.int .i64 3,.string ⟨#[]⟩,.int .i64 (-1),.int .i64 d] 51));have ar:=f.G.lt.1.1;have bH:B≤J.heap.size:=by simpa using ar
    have Y:(J.setCell ⟨M.heap.size,3,none⟩ (.int .i64 d)).heap.size=J.heap.size:=by first | rfl | simp
    rw[Y] at z;clear Y;obtain ⟨aB,aC,aD,aE,aF⟩:=info_parts H6;have k:=f.P.row;clear U ad ae V E;go_wp2_with (at_builtin;refine wpList_append_lies _ rfl _ _ 25 rfl B 51 aB (.agg #[.int .i64 0,.string ByteArray.empty,.int .i64 0,.int .i64 0]) 4 40 Tryz.underlying25 aC aD aE aF rfl (by decide) (.slice ab S.length cs) S.length (Dm S) rfl X.drew ⟨J.heap.size,0,none⟩ 1 1 [.int .i64 3,.string ⟨#[]⟩,.int .i64 (-1),.int .i64 d] rfl rfl z ?q2 (by decide) ?q3 ?q4 ?q5 _ rfl ?_)
    case q2=>first | exact ⟨rfl,rfl,rfl,rfl⟩ | trivial | (simp;done) | (refine ⟨?_, ?_, ?_⟩ <;> rfl) | (intro u hu;simp at hu;rcases hu with rfl | rfl | rfl | rfl <;> rfl)
    case q3=>unfold maxLen;omega
    case q4=>omega
    case q5=>omega
    intro F H j Z b aj ak;have o:((J.setCell ⟨M.heap.size,3,none⟩ (.int .i64 d)).alloc (.cells #[.int .i64 3,.string ⟨#[]⟩,.int .i64 (-1),.int .i64 d] 51)).grownBy j (Value.slice ab S.length cs).ownBlock:=⟨b.os,b.tape,b.output,b.size,b.block⟩
    have A:Am j (w.heap.size+1+1) _ _:=⟨(Ax o _ k.lt (Ad k f.P.st (by decide))).trans k.out⟩
    have bI:=A.cell 1;have f1:=A.frozen 1;obtain ⟨ag,g,K,aa⟩:=f.pushS (.cells #[.int .i64 3,.string ⟨#[]⟩,.int .i64 (-1),.int .i64 d] 51) (by decide) o Z;clear A k Z b aj ak o X z f;obtain ⟨N,a6,a7,dg,aH,bn⟩:=ag;have aL:=Ab bn;clear bn;have g1:(j.setCell ⟨w.heap.size+1+1,1,none⟩ (.slice (some ⟨F,0,none⟩) (S.length+1) H)).cell? ⟨w.heap.size+1,1,none⟩=some ao:=aH.row.cell 1;have aP:=g.row.set 0 ao;have bB:=g.row.cell 0;have bC:=g.row.cell 1;have dh:=g.row.frozen 0;have al:=K.setFar (p:=⟨w.heap.size+1+1,0,none⟩) (by simp;omega) ao;have bD:=aP.cell 0;have bE:=aP.cell 1;have cy:=al.cell 0;have cz:=al.cell 1;have di:=al.frozen 0;have dj:=al.frozen 1;have b3:=Ab (VQ aH g K aa (by omega) (by omega));have aQ:=Ab (And.intro aH.good.1 (And.intro g.good (show N.length≤20000 from by rw[Aa aL];omega)));clear aH g K aa aP al;subst bg;go_wp2_with fail
    obtain ⟨b4,b5,bo,b6⟩:=Aa b3;exact bodyPost_ret (Y8 Tryz.results27 rfl b4) rfl ⟨⟨_,_,N,_,a6,a7,rfl,b5,by rw[zB] at bo ⊢;exact bo,(Aa aQ).1,(Aa aQ).2.1,(Aa aQ).2.2,by simp;omega⟩,b6⟩
   ·skip;have f:=aG;have bR:m≤m+40:=by omega
    clear aG;obtain ⟨cl,cm,a3,a4,cn,bg,bY,-⟩:=f.G.cells;obtain ⟨⟨av,aw,ac,ax⟩,U,⟨ad,ae,V⟩,⟨aK,ay,E⟩⟩:=f.cells;have bG:=E 1;have X:=World.ownsRow.alloc f.P.st (.cells #[.int .i64 3,.string ⟨#[]⟩,.int .i64 (-1),.int .i64 (-1)] 51);have z:=World.news_of_block (heap_alloc_new aO (.cells #[.int .i64 3,.string ⟨#[]⟩,.int .i64 (-1),.int .i64 (-1)] 51));have ar:=f.G.lt.1.1;have bH:B≤aO.heap.size:=by simpa using ar
    have Y:aO.heap.size=aO.heap.size:=by first | rfl | simp
    rw[Y] at z;clear Y;obtain ⟨aB,aC,aD,aE,aF⟩:=info_parts H6;have k:=f.P.row;clear U ad ae V E;go_wp2_with (at_builtin;refine wpList_append_lies _ rfl _ _ 25 rfl B 51 aB (.agg #[.int .i64 0,.string ByteArray.empty,.int .i64 0,.int .i64 0]) 4 40 Tryz.underlying25 aC aD aE aF rfl (by decide) (.slice ab S.length cs) S.length (Dm S) rfl X.drew ⟨aO.heap.size,0,none⟩ 1 1 [.int .i64 3,.string ⟨#[]⟩,.int .i64 (-1),.int .i64 (-1)] rfl rfl z ?q2 (by decide) ?q3 ?q4 ?q5 _ rfl ?_)
    case q2=>first | exact ⟨rfl,rfl,rfl,rfl⟩ | trivial | (simp;done) | (refine ⟨?_, ?_, ?_⟩ <;> rfl) | (intro u hu;simp at hu;rcases hu with rfl | rfl | rfl | rfl <;> rfl)
    case q3=>unfold maxLen;omega
    case q4=>omega
    case q5=>omega
    intro F H j Z b aj ak;have o:(aO.alloc (.cells #[.int .i64 3,.string ⟨#[]⟩,.int .i64 (-1),.int .i64 (-1)] 51)).grownBy j (Value.slice ab S.length cs).ownBlock:=⟨b.os,b.tape,b.output,b.size,b.block⟩
    have A:Am j (w.heap.size+1+1) _ _:=⟨(Ax o _ k.lt (Ad k f.P.st (by decide))).trans k.out⟩
    have bI:=A.cell 1;have f1:=A.frozen 1;obtain ⟨ag,g,K,aa⟩:=f.pushS (.cells #[.int .i64 3,.string ⟨#[]⟩,.int .i64 (-1),.int .i64 (-1)] 51) (by decide) o Z;clear A k Z b aj ak o X z f;obtain ⟨N,a6,a7,dg,aH,bn⟩:=ag;have aL:=Ab bn;clear bn;have g1:(j.setCell ⟨w.heap.size+1+1,1,none⟩ (.slice (some ⟨F,0,none⟩) (S.length+1) H)).cell? ⟨w.heap.size+1,1,none⟩=some nd:=aH.row.cell 1;have aP:=g.row.set 0 nd;have bB:=g.row.cell 0;have bC:=g.row.cell 1;have dh:=g.row.frozen 0;have al:=K.setFar (p:=⟨w.heap.size+1+1,0,none⟩) (by simp;omega) nd;have bD:=aP.cell 0;have bE:=aP.cell 1;have cy:=al.cell 0;have cz:=al.cell 1;have di:=al.frozen 0;have dj:=al.frozen 1;have b3:=Ab (VQ aH g K aa (by omega) (by omega));have aQ:=Ab (And.intro aH.good.1 (And.intro g.good (show N.length≤20000 from by rw[Aa aL];omega)));clear aH g K aa aP al;subst bg;go_wp2_with fail
    obtain ⟨b4,b5,bo,b6⟩:=Aa b3;exact bodyPost_ret (Y8 Tryz.results27 rfl b4) rfl ⟨⟨_,_,N,_,a6,a7,rfl,b5,by rw[zB] at bo ⊢;exact bo,(Aa aQ).1,(Aa aQ).2.1,(Aa aQ).2.2,by simp;omega⟩,b6⟩
set_option maxHeartbeats 6400000
theorem FA.low {w:World}{a:Option Addr}{n c:Nat}{d:List Int}(h:FA w a n c d): 0 < n→∀ q,a=some q→q.block < w.heap.size:=fun h0 q hq=>by
 obtain ⟨b,g,i,e,f,_⟩:=h.cells 0 h0;rw[hq] at e;cases e;exact f
theorem Rd.newAt {w:World}{a:Option Addr}{n c:Nat}{g:List Int}(h:FA w a n c g)(i:n≤1048576)(p:Nat)(hp:p≤n):Rd (w.alloc (.cells #[.slice a n c,.int .i64 (p:Int)] 78)) w.heap.size a n c p:=
 ⟨Am.new _ _ _,hp,i,fun j k=>by
  obtain ⟨b,d,l,m,f,hc,o⟩:=h.cells j k;exact ⟨b,d,l,m,f,by rw[← hc];exact ((Below.refl w.heap.size w).alloc NLN _).cell (p:=⟨b,d+j,none⟩) f,o⟩⟩
def Adw:Value→Nat
 | .string s=>s.size
 |_=>0
theorem XW (a:Option Addr)(n c:Nat)(au:List Int)(w:World)(h:FA w a n c au)(z:n≤1048576):
  Calls Tryz.prog 10 #[.slice a n c] w fun e w'=>(∃ t:ByteArray,e= .returned (.string t)∧t.size≤100000000000)∧Below w.heap.size w w':=by
 have J:=(Below.refl w.heap.size w).alloc NLN (.cells #[.slice a n c,.int .i64 0] 78);have Q:CE _ w.heap.size a n c:=⟨0,Rd.new h z⟩
 go_enter Tryz.func10,Tryz.ntmps10
 go_wp2_with fail
 generalize w.alloc (.cells #[.slice a n c,.int .i64 0] 78)=av at J Q ⊢;refine (BJ _ a n c av Q).mono ?_;rintro e aw ⟨x,rfl,aO,aP,aa,ab⟩;have R:=BT J ab NLN J.size;clear Q ab J;dsimp only;go_wp2_with fail
 refine (AaJ _ a n c aw aa).mono ?_;rintro e aQ ⟨y,rfl,aR,aS,ac,ad,ae⟩;have af:=BT R ae NLN R.size;clear aa ae R;have ax:=Ab ac;clear ac;dsimp only;go_wp2_with fail
 refine (Sg (B:=w.heap.size) ad NLN h.low _).mono ?_;rintro e T ⟨⟨nd,aT,N,S,aU,aV,rfl,U,V,good,ag,ay,az⟩,b3⟩;have W:=af.trans b3;clear ad af b3;obtain ⟨ah,ai,rfl,_⟩:=Af U.own;obtain ⟨aj,cs,rfl,_⟩:=Af V;have ak:=Ab (U.nds rfl (by omega) (fun y hy=>⟨(good y hy).1,(good y hy).2.1⟩));have al:=Ab (GT V rfl (by omega) ag);have X:=Ab (fun y hy=>(good y hy).2.2);clear U V good ag ay az;have L:=(Below.refl T.heap.size T).alloc NLN (.cells #[.slice ah N.length ai,.slice aj S.length cs] 27);have M:=Ab ((Aa ak).below L NLN);have Y:=Ab ((Aa al).below L NLN);have O:=W.trans (L.mono W.size);clear ak al L W;dsimp only;go_wp2_with fail
 generalize T.alloc (.cells #[.slice ah N.length ai,.slice aj S.length cs] 27)=aW at M Y O ⊢;refine (UJ _ _ _ _ _ _ N S _ (Aa M) (Aa Y) (Aa X)).mono ?_;rintro e g ⟨⟨A,rfl,ao⟩,b5⟩;have p:=UI (Aa M) (Aa X) ao;have d:=O.trans (b5.mono O.size);clear ao M Y X b5 O;have h5:=h.below d NLN;dsimp only;by_cases aX:x % 11=10
 ·skip;rcases Decidable.em (x % 3=1) with hl | hl
  case' inl=>
   have l:=(Below.refl g.heap.size g).alloc NLN (.cells #[.slice a n c,.int .i64 0] 78);have m:CE _ g.heap.size a n c:=⟨0,Rd.new h5 z⟩
   have j:=d.trans (l.mono d.size);go_wp2_with fail
   generalize g.alloc (.cells #[.slice a n c,.int .i64 0] 78)=E at m j l ⊢;refine (Gl _ a n c E m A).mono ?_;rintro e f ⟨q,rfl,F,s⟩;have b:=BT j s d.size j.size;have r:q.size≤30000000000:=by omega
   have h7:=h.below b NLN;clear l m j F s p h5 d;dsimp only
  case' inr=>
   have P:=zA.2 hl;have b:=d;have h7:=h5;have r:=p;clear d h5 p;generalize g=f at b h7 ⊢;generalize A=q at r ⊢
  all_goals
   have u:=(Below.refl f.heap.size f).alloc NLN (.cells #[.slice a n c,.int .i64 1] 78);have C: 1≤n→CE _ f.heap.size a n c:=fun hq=>⟨1,Rd.newAt h7 z 1 hq⟩
   have o:=b.trans (u.mono b.size);have I:=b.size;clear b;skip;go_wp2_with fail
   generalize f.alloc (.cells #[.slice a n c,.int .i64 1] 78)=H at o u C ⊢;have Z:(⟨#[32]⟩:ByteArray).size=1:=rfl;go_loop [7] (fun v=>∃ t:ByteArray,v= .string t∧t.size≤30000000000) (fun v=>4000 - Adw v)
   case atStart=>exact ⟨_,rfl,r⟩
   case round=>
    obtain ⟨t,rfl,aA⟩:=hrel;by_cases aB:t.size < 4000
    ·have aC:(t.size:Int) < 4000:=by omega
     go_wp2_with fail
     refine ⟨⟨_,rfl, ?_⟩, ?_⟩
     ·rw[Ar,Z];omega
     ·show 4000 - (t ++_).size < 4000 - t.size;rw[Ar,Z];omega
    ·have aC: ¬ ((t.size:Int) < 4000):=by omega
     have h4: 4000≤t.size:=by omega
     by_cases hy:y % 2=1
     ·go_wp2_with fail
      go_ret
      exact ⟨⟨_,rfl,by rw[Ar,zt,Z];omega⟩,o⟩
     ·have aY:=zA.2 hy;go_wp2_with fail
      go_ret
      exact ⟨⟨_,rfl,by rw[zt];omega⟩,o⟩
 ·by_cases aZ:x % 13=12
  ·skip;rcases Decidable.em (x % 3=1) with hl | hl
   case' inl=>
    have l:=(Below.refl g.heap.size g).alloc NLN (.cells #[.slice a n c,.int .i64 0] 78);have m:CE _ g.heap.size a n c:=⟨0,Rd.new h5 z⟩
    have j:=d.trans (l.mono d.size);go_wp2_with fail
    generalize g.alloc (.cells #[.slice a n c,.int .i64 0] 78)=E at m j l ⊢;refine (Gl _ a n c E m A).mono ?_;rintro e f ⟨q,rfl,F,s⟩;have b:=BT j s d.size j.size;have r:q.size≤30000000000:=by omega
    have h7:=h.below b NLN;clear l m j F s p h5 d;dsimp only
   case' inr=>
    have P:=zA.2 hl;have b:=d;have h7:=h5;have r:=p;clear d h5 p;generalize g=f at b h7 ⊢;generalize A=q at r ⊢
   all_goals
    have u:=(Below.refl f.heap.size f).alloc NLN (.cells #[.slice a n c,.int .i64 1] 78);have C: 1≤n→CE _ f.heap.size a n c:=fun hq=>⟨1,Rd.newAt h7 z 1 hq⟩
    have o:=b.trans (u.mono b.size);have I:=b.size;clear b;skip;go_wp2_with fail
    generalize f.alloc (.cells #[.slice a n c,.int .i64 1] 78)=H at o u C ⊢;have aD:(⟨#[119,104,101,110,32,97,115,107,101,100,32,61,61,32,123,34]⟩:ByteArray).size=16:=rfl;have aE:(⟨#[34,125,32,61,62,32,100,101,110,121,59,32,101,108,115,101,32,100,101,110,121,59]⟩:ByteArray).size=22:=rfl;refine (Ml _ _ H (by omega) (by omega) (by omega) (by omega)).mono ?_;rintro e aF ⟨a0,a1,K,rfl,a2,ap,aq⟩;have aG:=o.trans (aq.mono o.size);clear aq;dsimp only;go_wp2_with fail
    refine (Xe _ _ _ K aF ap.strs (by omega) ap.small _ (by decide)).mono ?_;rintro e aH ⟨⟨aI,rfl,aJ⟩,ar⟩;rw[ar];clear ar;dsimp only;go_wp2_with fail
    go_ret
    exact ⟨⟨_,rfl,by simp only[Ar,aD,aE];omega⟩,aG⟩
  ·by_cases a3:x % 17=16
   ·skip;rcases Decidable.em (x % 3=1) with hl | hl
    case' inl=>
     have l:=(Below.refl g.heap.size g).alloc NLN (.cells #[.slice a n c,.int .i64 0] 78);have m:CE _ g.heap.size a n c:=⟨0,Rd.new h5 z⟩
     have j:=d.trans (l.mono d.size);go_wp2_with fail
     generalize g.alloc (.cells #[.slice a n c,.int .i64 0] 78)=E at m j l ⊢;refine (Gl _ a n c E m A).mono ?_;rintro e f ⟨q,rfl,F,s⟩;have b:=BT j s d.size j.size;have r:q.size≤30000000000:=by omega
     have h7:=h.below b NLN;clear l m j F s p h5 d;dsimp only
    case' inr=>
     have P:=zA.2 hl;have b:=d;have h7:=h5;have r:=p;clear d h5 p;generalize g=f at b h7 ⊢;generalize A=q at r ⊢
    all_goals
     have u:=(Below.refl f.heap.size f).alloc NLN (.cells #[.slice a n c,.int .i64 1] 78);have C: 1≤n→CE _ f.heap.size a n c:=fun hq=>⟨1,Rd.newAt h7 z 1 hq⟩
     have o:=b.trans (u.mono b.size);have I:=b.size;clear b;skip;go_wp2_with fail
     generalize f.alloc (.cells #[.slice a n c,.int .i64 1] 78)=H at o u C ⊢;have aK:(⟨#[110,111,116,32]⟩:ByteArray).size=4:=rfl;have aL:(⟨#[116,114,117,101,32,61,62,32,100,101,110,121,59,32,101,108,115,101,32,103,114,97,110,116,32,97,115,107,101,100,59]⟩:ByteArray).size=31:=rfl;go_loop [7,10] (fun v i=>∃ (k:Nat) (t:ByteArray),v= .string t∧i= .int .i64 k∧k≤70∧t.size≤5+4 * k) (fun _ i=>100 - (intOf i).toNat)
     case atStart=>exact ⟨1,_,rfl,rfl,by omega,by decide⟩
     case round=>
      obtain ⟨k,t,rfl,rfl,hk,aA⟩:=hrel;by_cases aB:(k:Int) < 62+y % 4
      ·go_wp2_with fail
       refine ⟨⟨k+1,_,rfl,by go_num, ?_, ?_⟩, ?_⟩
       ·omega
       ·rw[Ar,aK];omega
       ·simp[intOf];omega
      ·go_wp2_with fail
       go_ret
       exact ⟨⟨_,rfl,by rw[Ar,aL];omega⟩,o⟩
   ·by_cases a4:y % 5=4
    ·skip;rcases Decidable.em (x % 3=1) with hl | hl
     case' inl=>
      have l:=(Below.refl g.heap.size g).alloc NLN (.cells #[.slice a n c,.int .i64 0] 78);have m:CE _ g.heap.size a n c:=⟨0,Rd.new h5 z⟩
      have j:=d.trans (l.mono d.size);go_wp2_with fail
      generalize g.alloc (.cells #[.slice a n c,.int .i64 0] 78)=E at m j l ⊢;refine (Gl _ a n c E m A).mono ?_;rintro e f ⟨q,rfl,F,s⟩;have b:=BT j s d.size j.size;have r:q.size≤30000000000:=by omega
      have h7:=h.below b NLN;clear l m j F s p h5 d;dsimp only
     case' inr=>
      have P:=zA.2 hl;have b:=d;have h7:=h5;have r:=p;clear d h5 p;generalize g=f at b h7 ⊢;generalize A=q at r ⊢
     all_goals
      have u:=(Below.refl f.heap.size f).alloc NLN (.cells #[.slice a n c,.int .i64 1] 78);have C: 1≤n→CE _ f.heap.size a n c:=fun hq=>⟨1,Rd.newAt h7 z 1 hq⟩
      have o:=b.trans (u.mono b.size);have I:=b.size;clear b;skip;go_wp2_with fail
      generalize f.alloc (.cells #[.slice a n c,.int .i64 1] 78)=H at o u C ⊢;refine (Xc _ a n c H (C (by have:=Aa ax;omega)) q (by omega)).mono ?_;rintro e aH ⟨aI,rfl,aJ,aM⟩;have aN:=BT o aM I o.size;dsimp only;go_wp2_with fail
      go_ret
      exact ⟨⟨_,rfl,by omega⟩,aN⟩
    ·skip;rcases Decidable.em (x % 3=1) with hl | hl
     case' inl=>
      have l:=(Below.refl g.heap.size g).alloc NLN (.cells #[.slice a n c,.int .i64 0] 78);have m:CE _ g.heap.size a n c:=⟨0,Rd.new h5 z⟩
      have j:=d.trans (l.mono d.size);go_wp2_with fail
      generalize g.alloc (.cells #[.slice a n c,.int .i64 0] 78)=E at m j l ⊢;refine (Gl _ a n c E m A).mono ?_;rintro e f ⟨q,rfl,F,s⟩;have b:=BT j s d.size j.size;have r:q.size≤30000000000:=by omega
      have h7:=h.below b NLN;clear l m j F s p h5 d;dsimp only
     case' inr=>
      have P:=zA.2 hl;have b:=d;have h7:=h5;have r:=p;clear d h5 p;generalize g=f at b h7 ⊢;generalize A=q at r ⊢
     all_goals
      have u:=(Below.refl f.heap.size f).alloc NLN (.cells #[.slice a n c,.int .i64 1] 78);have C: 1≤n→CE _ f.heap.size a n c:=fun hq=>⟨1,Rd.newAt h7 z 1 hq⟩
      have o:=b.trans (u.mono b.size);have I:=b.size;clear b;skip;go_wp2_with fail
      generalize f.alloc (.cells #[.slice a n c,.int .i64 1] 78)=H at o u C ⊢;go_ret
      exact ⟨⟨_,rfl,by omega⟩,o⟩
end Go.Proofs.YtffkofkjpckmpaaGreatDoor
