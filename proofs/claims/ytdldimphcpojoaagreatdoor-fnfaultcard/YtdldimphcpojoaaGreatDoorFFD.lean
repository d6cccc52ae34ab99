/-
  FnFault: the law. Own work.
-/
import Derived.Test.YtdldimphcpojoaaGreatDoorMXAT
import Derived.Test.YtdldimphcpojoaaGreatDoorKTP
import Derived.Test.YtdldimphcpojoaaGreatDoorMXBE
import Derived.Test.YtdldimphcpojoaaGreatDoorMXAZ
import Derived.Test.YtdldimphcpojoaaGreatDoorMXAQ
namespace Go.Proofs.YtdldimphcpojoaaGreatDoor
set_option maxRecDepth 100000
set_option maxHeartbeats 12800000
open Go.RowKit
set_option linter.unusedVariables false
theorem LM (a:Option Addr)(n c:Nat)(b:List Int)(w:World)(h:EU w a n c b)(d:n≤1048576):
  Calls Tryz.prog 4 #[.slice a n c] w fun e w'=>(∃ t:ByteArray,e= .returned (.string t)∧t.size≤100000000000)∧Below w.heap.size w w':=by
 go_enter Tryz.func4,Tryz.ntmps4
 go_wp2_with fail
 refine (UB a n c b w h d).mono ?_;rintro e i ⟨⟨t,rfl,f⟩,g⟩;dsimp only;go_wp2_with fail
 go_ret
 exact ⟨⟨_,rfl,f⟩,g⟩
theorem Xu {x:Int}(h: 0≤x∧x≤1000000000000):IntKind.i64.wrap x=x:=by simp[IntKind.wrap,IntKind.bits,IntKind.signed];omega
theorem Xv (w:World):Below w.heap.size w w.drew.drew:=(Below.refl w.heap.size w).drew.drew
theorem Qf (w:World)(k:Nat)(hk:k < 4):∃ s:ByteArray,s.size≤40∧(w.alloc (.cells #[.string ⟨#[32,41,32]⟩,.string ⟨#[32,33,32]⟩,.string ⟨#[32,49,50,97,32]⟩,.string ⟨#[32,61,61,32]⟩] 9)).cell? ⟨w.heap.size,k,none⟩=some (.string s):=by
 have h:=(An.new w #[.string ⟨#[32,41,32]⟩,.string ⟨#[32,33,32]⟩,.string ⟨#[32,49,50,97,32]⟩,.string ⟨#[32,61,61,32]⟩] 9).cell k
 match k,hk with
 | 0,_=>exact ⟨_,by decide,h⟩
 | 1,_=>exact ⟨_,by decide,h⟩
 | 2,_=>exact ⟨_,by decide,h⟩
 | 3,_=>exact ⟨_,by decide,h⟩
theorem NM.flt {R:List Nd × List St × List Int × Int × Int}{w w':World}{r:Ending}(h:NM R w r w'):
  ∃ x k a y l b c m d,r= .returned (.tuple #[.agg #[.slice x k a,.slice y l b],.slice c m d,.agg #[.int .i64 R.2.2.2.1,.int .i64 R.2.2.2.2]])∧Below w.heap.size w w':=by
 obtain ⟨⟨nd,g,i,j,n,rfl,h1,h2,h3,-⟩,f⟩:=h;obtain ⟨x,a,rfl,-⟩:=Ah h1.own;obtain ⟨c,d,rfl,-⟩:=Ah h3;obtain ⟨y,b,rfl,-⟩:=Ah h2;exact ⟨_,_,_,_,_,_,_,_,_,rfl,f⟩
theorem MJ {a1 a2 a3 a4 a5 a6:Addr}(a:Option Addr)(n c:Nat)(aR:List Int)(w:World)(h:EU w a n c aR)(S:Wb w a1 a2 a3 a4 a5 a6):
  Calls Tryz.prog 3 #[.slice a n c] w fun e w'=>e= .returned (.bool true)∧Below w.heap.size w w':=by
 by_cases hl: 1048576 < n
 ·have aS:(1048576 :Int) < (n:Int):=by omega
  go_enter Tryz.func3,Tryz.ntmps3
  go_wp2_with fail
  go_ret
  exact ⟨rfl,BRN⟩
 have aS: ¬ ((1048576 :Int) < (n:Int)):=by omega
 have aT:n≤1048576:=by omega
 clear hl;have ap:=Ab (fun (Z:World) (aG:Below w.heap.size w Z) (t:ByteArray) (x:QR) (d:DP (Ar t).toks x)=>Qg t x d Z (S.below aG));have aH:=Ab (fun (Z:World) (aG:Below w.heap.size w Z) (t:ByteArray)=>ST t Z (S.below aG).s6.snt);clear S;go_enter Tryz.func3,Tryz.ntmps3
 go_wp2_with fail
 refine (LM a n c aR w h aT).mono ?_;rintro e bJ ⟨⟨t,rfl,aq⟩,aI⟩;obtain ⟨x,d⟩:=DP.total _ (Ar t).toks NLN;have o:=Ab d;clear d;dsimp only;go_wp2_with fail
 refine (Ko t x (Aa o) _).mono ?_;intro e i s;obtain ⟨K,L,M,N,O,P,bK,m0,bL,rfl,b1⟩:=s.flt;clear s;have ar:=aI.trans (b1.mono aI.size);clear b1 aI;generalize aa:FP t x=R;have f:=Ab aa;clear aa;obtain ⟨bM,bN,bO,C,z⟩:=R;have u:=(Below.refl i.heap.size i).alloc NLN (.cells #[.slice K L M,.slice N O P] 27);have B:=(Below.refl (i.alloc (.cells #[.slice K L M,.slice N O P] 27)).heap.size (i.alloc (.cells #[.slice K L M,.slice N O P] 27))).alloc NLN (.cells #[.int .i64 C,.int .i64 z] 30);have y:=u.trans (B.mono u.size);have g:=An.new (i.alloc (.cells #[.slice K L M,.slice N O P] 27)) #[.int .i64 C,.int .i64 z] 30;simp only[World.size_alloc] at g;have Q:i.heap.size+2≤((i.alloc (.cells #[.slice K L M,.slice N O P] 27)).alloc (.cells #[.int .i64 C,.int .i64 z] 30)).heap.size:=by simp
 have l:=ar.trans (y.mono ar.size);clear u B y;have v:_=some (Value.int .i64 C):=g.cell 0;have c1:_=some (Value.int .i64 z):=g.cell 1;dsimp only;have ab:=Ab h;clear h;generalize aU:(i.alloc (.cells #[.slice K L M,.slice N O P] 27)).alloc (.cells #[.int .i64 C,.int .i64 z] 30)=H at g Q l v c1;have E:=Ab aU;clear aU;rcases Decidable.em (C=0) with hC | hC
 case' inr=>
  have ac:=beq_eq_false_iff_ne.2 hC;go_wp2_with fail
  rw[Aa E];clear E hC ac v c1 ab aq;generalize H=au at g l Q ⊢;generalize t=q at o f ⊢;generalize x=I at o f;generalize C=m at g f ⊢;generalize z=r at g f ⊢
 case' inl=>
  have ac:=beq_iff_eq.2 hC;clear hC;rcases Decidable.em (1 < n) with h1 | h1
  case' inr=>
   have av: ¬ ((1 :Int) < (n:Int)):=by omega
   go_wp2_with fail
   rw[Aa E];clear E av h1 v c1 ab aq ac;generalize H=au at g l Q ⊢;generalize t=q at o f ⊢;generalize x=I at o f;generalize C=m at g f ⊢;generalize z=r at g f ⊢
  case' inl=>
   have av:(1 :Int) < (n:Int):=by omega
   rcases Decidable.em (0 < t.size) with h2 | h2
   case' inr=>
    have aw: ¬ ((0 :Int) < (t.size:Int)):=by omega
    go_wp2_with fail
    rw[Aa E];clear E av h1 aw h2 v c1 ab aq ac;generalize H=au at g l Q ⊢;generalize t=q at o f ⊢;generalize x=I at o f;generalize C=m at g f ⊢;generalize z=r at g f ⊢
   case' inl=>
    have aw:(0 :Int) < (t.size:Int):=by omega
    obtain ⟨ax,bg⟩:∃ p:Nat,n=p+1:=⟨n - 1,by omega⟩
    obtain ⟨ay,bh⟩:∃ p:Nat,n=p+2:=⟨n - 2,by omega⟩
    have az:=(Aa ab).below l NLN;obtain ⟨b,bi,aV,bj,aW,d1,bk,bl⟩:=az.cells ax (by omega);obtain ⟨bP,bQ,q2,bm,_,d2,bn,bo⟩:=az.cells ay (by omega);obtain ⟨bR,bS,q3,bp,_,d3,bq,br⟩:=az.cells 0 (by omega);subst bj;cases bm;cases bp;have e1:IntKind.i64.wrap ((n:Int) - 1)=(ax:Int):=by rw[show (n:Int) - 1=(ax:Int) by omega,Xu];omega
    have e2:IntKind.i64.wrap ((n:Int) - 2)=(ay:Int):=by rw[show (n:Int) - 2=(ay:Int) by omega,Xu];omega
    have aX:(ax:Int) < (n:Int):=by omega
    have bs:(ay:Int) < (n:Int):=by omega
    have aY:=Int.emod_nonneg (aV * 256+q2) (show (t.size:Int)≠0 by omega);have aZ:=Int.emod_lt_of_pos (aV * 256+q2) aw;clear bg bh az aT aS;go_wp2_with fail
    rw[Aa E];go_region
    obtain ⟨j,a0⟩:=Int.eq_ofNat_of_zero_le aY;rw[a0] at aZ ⊢;clear a0 aY;have bt:j < t.size:=by omega
    clear d1 d2 e1 e2 aX bs bk bl bn bo aZ av aw;obtain ⟨T,bu,bv⟩:=Qf H (q3 % 4).toNat (by omega);rw[Nat.add_zero] at d3;have U:=(Below.refl H.heap.size H).alloc NLN (.cells #[.string ⟨#[32,41,32]⟩,.string ⟨#[32,33,32]⟩,.string ⟨#[32,49,50,97,32]⟩,.string ⟨#[32,61,61,32]⟩] 9);have d4:=(U.cell (p:=⟨b,bi,none⟩) aW).trans d3;have bw:(t.extract 0 j).size≤t.size:=by rw[ByteArray.size_extract];omega
    have bx:(t.extract j t.size).size≤t.size:=by rw[ByteArray.size_extract];omega
    have bz: ¬ (9223372036854775807 < (t.extract 0 j).size+T.size):=by omega
    have bA: ¬ (9223372036854775807 < j+T.size):=by omega
    have bB: ¬ (9223372036854775807 < j+T.size+(t.size - j)):=by omega
    have s6: ¬ (9223372036854775807 < (t.extract 0 j ++T).size+(t.extract j t.size).size):=by rw[Ao];omega
    have bC:j≤t.size:=by omega
    have bD:q3 % 4 < 4:=by omega
    have bE: 0≤q3 % 4:=by omega
    go_wp2_with fail
    go_region
    clear bw bx bz bA bB s6 bC bD bE d4 d3 bv bu bq br bt aW;have aA:=(l.trans (U.mono l.size)).trans ((Xv _).mono (l.trans (U.mono l.size)).size);have aJ:=g.after (U.trans ((Xv _).mono U.size)) NLN;generalize t.extract 0 j ++T ++t.extract j t.size=q;generalize t.extract 0 j ++T=bT;generalize t.extract j t.size=bU;generalize t.extract 0 j=bV;clear U l g v c1;generalize (H.alloc (.cells #[.string ⟨#[32,41,32]⟩,.string ⟨#[32,33,32]⟩,.string ⟨#[32,49,50,97,32]⟩,.string ⟨#[32,61,61,32]⟩] 9)).drew.drew=bW at aA aJ ⊢;obtain ⟨I,a7⟩:=DP.total _ (Ar q).toks NLN;clear o;have o:=Ab a7;clear a7;go_wp2_with fail
    refine (Ko q I (Aa o) _).mono ?_;intro e a8 s;obtain ⟨bX,bY,bZ,b0,aX,b2,b3,b6,b7,rfl,b4⟩:=s.flt;clear s;have a9:=aA.trans (b4.mono aA.size);have V:=aJ.after b4 NLN;clear b4 aA aJ;clear f;generalize aa:FP q I=R;have f:=Ab aa;clear aa;obtain ⟨b8,b9,ca,m,r⟩:=R;dsimp only;have v:_=some (Value.int .i64 C):=V.cell 0;have c1:_=some (Value.int .i64 z):=V.cell 1;have bF:=V.frozen 0;have bG:=V.frozen 1;have bH:=ar.size;have g:=(V.set 0 (.int .i64 m)).set 1 (.int .i64 r);have l:=(a9.setCell (p:=⟨i.heap.size+1,0,none⟩) (by show w.heap.size≤i.heap.size+1;omega) (.int .i64 m)).setCell (p:=⟨i.heap.size+1,1,none⟩) (by show w.heap.size≤i.heap.size+1;omega) (.int .i64 r);have Q:i.heap.size+2≤((a8.setCell ⟨i.heap.size+1,0,none⟩ (.int .i64 m)).setCell ⟨i.heap.size+1,1,none⟩ (.int .i64 r)).heap.size:=by have:=g.lt;omega
    go_wp2_with fail
    generalize (a8.setCell ⟨i.heap.size+1,0,none⟩ (.int .i64 m)).setCell ⟨i.heap.size+1,1,none⟩ (.int .i64 r)=au at g l Q ⊢;clear v c1 bF bG V a9 bH h1 h2 ab aq E ac
 all_goals
  clear ar;refine (Aa ap au l q I (Aa o)).mono ?_;intro e J s;obtain ⟨ad,k5,ae,af,ag,ah,cb,cc,cd,rfl,b5⟩:=s.flt;clear s;rw[Aa f];have aK:=l.trans (b5.mono l.size);have ba:=g.after b5 NLN;have ce:=b5.size;clear b5 l g;have u:=(Below.refl J.heap.size J).alloc NLN (.cells #[.slice ad k5 ae,.slice af ag ah] 27);have B:=(Below.refl (J.alloc (.cells #[.slice ad k5 ae,.slice af ag ah] 27)).heap.size (J.alloc (.cells #[.slice ad k5 ae,.slice af ag ah] 27))).alloc NLN (.cells #[.int .i64 m,.int .i64 r] 30);have y:=u.trans (B.mono u.size);have W:=An.new (J.alloc (.cells #[.slice ad k5 ae,.slice af ag ah] 27)) #[.int .i64 m,.int .i64 r] 30;simp only[World.size_alloc] at W;have ai:=ba.after y NLN;have A:=aK.trans (y.mono aK.size);have cf:J.heap.size+2≤((J.alloc (.cells #[.slice ad k5 ae,.slice af ag ah] 27)).alloc (.cells #[.int .i64 m,.int .i64 r] 30)).heap.size:=by simp
  clear u B y aK ba;have v:_=some (Value.int .i64 m):=ai.cell 0;have c1:_=some (Value.int .i64 r):=ai.cell 1;have bb:_=some (Value.int .i64 m):=W.cell 0;have d1:_=some (Value.int .i64 r):=W.cell 1;dsimp only;rcases Decidable.em (m=4) with h4 | h4
  ·obtain ⟨k,hk,bI,aj⟩:=MI (Aa o) (by rw[Aa f];exact h4);rw[Aa f] at hk;dsimp only at hk;subst hk;have ak:=Ab aj;have bc:=beq_iff_eq.2 h4;clear aj h4;go_wp2_with fail
   obtain ⟨aL,aM⟩:=DP.total _ (Ar (q.extract 0 k)).toks NLN;refine (Aa ap _ A _ aL aM).mono ?_;intro e X s;obtain ⟨al,aB,ao,aC,aD,aE,cg,ch,ci,rfl,F⟩:=s.flt;clear s;have aN:=Aa ak aL aM;clear ak aM f o ap aH;generalize FP (q.extract 0 k) aL=aO at aN ⊢;obtain ⟨_,_,_,G,aP⟩:=aO;dsimp only at aN ⊢;have Y:=A.trans (F.mono A.size);have aO:=ai.after F NLN;have bd:=W.after F NLN;have cj:=F.size;clear F A ai W v c1 bb d1;have u:=(Below.refl X.heap.size X).alloc NLN (.cells #[.slice al aB ao,.slice aC aD aE] 27);have B:=(Below.refl (X.alloc (.cells #[.slice al aB ao,.slice aC aD aE] 27)).heap.size (X.alloc (.cells #[.slice al aB ao,.slice aC aD aE] 27))).alloc NLN (.cells #[.int .i64 G,.int .i64 aP] 30);have y:=u.trans (B.mono u.size);have aF:=An.new (X.alloc (.cells #[.slice al aB ao,.slice aC aD aE] 27)) #[.int .i64 G,.int .i64 aP] 30;simp only[World.size_alloc] at aF;have bf:=bd.after y NLN;have aQ:=Y.trans (y.mono Y.size);clear u B y Y aO bd;have v:_=some (Value.int .i64 G):=aF.cell 0;have c1:_=some (Value.int .i64 aP):=aF.cell 1;have d1:_=some (Value.int .i64 (k:Int)):=bf.cell 1;clear aF bf;rcases aN with rfl | rfl | rfl | ⟨rfl,rfl⟩
   all_goals
    go_wp2_with fail
    go_ret
    exact ⟨rfl,aQ⟩
  ·have bc:=beq_eq_false_iff_ne.2 h4;rcases Decidable.em (m=2∨m=3) with h2 | h2
   ·obtain ⟨k,hk,bI,aj⟩:=Qe (t:=q) (x:=I) (by rw[Aa f];exact h2);rw[Aa f] at hk;dsimp only at hk;subst hk;have ak:=Ab aj;clear aj h4 bc;rcases h2 with rfl | rfl
    all_goals
     go_wp2_with fail
     refine (Aa aH _ A (q.extract 0 k)).mono ?_;rintro e X ⟨al,ao,rfl,-,-,F⟩;rw[Aa ak];have Y:=A.trans (F.mono A.size);clear ak f o ap aH F A ai W v c1 bb d1;have aQ:=Y.alloc Y.size (.cells #[.int .i64 0,.int .i64 ((Ar (q.extract 0 k)).at_:Int)] 30);dsimp only;go_wp2_with fail
     go_ret
     exact ⟨rfl,aQ⟩
   ·have ck:=beq_eq_false_iff_ne.2 (fun e=>h2 (.inl e));have cl:=beq_eq_false_iff_ne.2 (fun e=>h2 (.inr e));clear h2 h4;go_wp2_with fail
    go_ret
    exact ⟨rfl,A⟩
end Go.Proofs.YtdldimphcpojoaaGreatDoor
