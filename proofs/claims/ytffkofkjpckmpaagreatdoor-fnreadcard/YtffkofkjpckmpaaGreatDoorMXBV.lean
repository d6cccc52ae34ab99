/-
  FFD0, FRV. Own work.
-/
import Derived.Test.YtffkofkjpckmpaaGreatDoorMXBM
import Derived.Test.YtffkofkjpckmpaaGreatDoorMXBS
import Derived.Test.YtffkofkjpckmpaaGreatDoorMXBU
import Derived.Test.YtffkofkjpckmpaaGreatDoorMXBG
import Derived.Test.YtffkofkjpckmpaaGreatDoorMXBW
import Derived.Test.YtffkofkjpckmpaaGreatDoorMXBE
import Derived.Test.YtffkofkjpckmpaaGreatDoorMXBO
namespace Go.Proofs.YtffkofkjpckmpaaGreatDoor
open Go.RowKit
set_option linter.unusedVariables false
theorem NZ (a:Option Addr)(n c:Nat)(b:List Int)(w:World)(h:FA w a n c b)(d:n≤1048576):
  Calls Tryz.prog 4 #[.slice a n c] w fun e w'=>(∃ t:ByteArray,e= .returned (.string t)∧t.size≤100000000000)∧Below w.heap.size w w':=by
 go_enter Tryz.func4,Tryz.ntmps4
 go_wp2_with fail
 refine (XW a n c b w h d).mono ?_;rintro e i ⟨⟨t,rfl,f⟩,g⟩;dsimp only;go_wp2_with fail
 go_ret
 exact ⟨⟨_,rfl,f⟩,g⟩
theorem Rb.flt {R:List Nd × List St × List Int × Int × Int}{w w':World}{r:Ending}(h:Rb R w r w'):
  ∃ x k a y l b c m d,r= .returned (.tuple #[.agg #[.slice x k a,.slice y l b],.slice c m d,.agg #[.int .i64 R.2.2.2.1,.int .i64 R.2.2.2.2]])∧Below w.heap.size w w':=by
 obtain ⟨⟨nd,g,i,j,n,rfl,h1,h2,h3,-⟩,f⟩:=h;obtain ⟨x,a,rfl,-⟩:=Af h1.own;obtain ⟨c,d,rfl,-⟩:=Af h3;obtain ⟨y,b,rfl,-⟩:=Af h2;exact ⟨_,_,_,_,_,_,_,_,_,rfl,f⟩
set_option maxRecDepth 100000
set_option maxHeartbeats 12800000
theorem Rk {a1 a2 a3 a4 a5 a6:Addr}(a:Option Addr)(n c:Nat)(aJ:List Int)(w:World)(h:FA w a n c aJ)(S:Z4 w a1 a2 a3 a4 a5 a6)(aK:CU w)(aL:Rj w):
  Calls Tryz.prog 3 #[.slice a n c] w fun e w'=>e= .returned (.bool true)∧Below w.heap.size w w':=by
 by_cases hl: 1048576 < n
 ·have bg:(1048576 :Int) < (n:Int):=by omega
  go_enter Tryz.func3,Tryz.ntmps3
  go_wp2_with fail
  go_ret
  exact ⟨rfl,BRN⟩
 have bg: ¬ ((1048576 :Int) < (n:Int)):=by omega
 have bh:n≤1048576:=by omega
 clear hl;have ar:=Ab (fun (aM:World) (bi:Below w.heap.size w aM) (t:ByteArray) (x:QR) (d:DP (Ay t).toks x)=>TY t x d aM (S.below bi));have O:=Ab (And.intro aK aL);clear S aK aL;go_enter Tryz.func3,Tryz.ntmps3
 go_wp2_with fail
 refine (NZ a n c aJ w h bh).mono ?_;rintro e bH ⟨⟨t,rfl,bj⟩,au⟩;obtain ⟨x,d⟩:=DP.total _ (Ay t).toks NLN;have ab:=Ab d;clear d h bj;dsimp only;go_wp2_with fail
 refine (TZ t x (Aa ab) _).mono ?_;intro e H aN;obtain ⟨Q,T,U,V,I,W,bI,m0,bJ,rfl,b1⟩:=aN.flt;clear aN;have aO:=au.trans (b1.mono au.size);clear b1 au;have av:=Ab (Wx t x (Aa ab));have ac:=Ab (X4 (Aa ab));have ad:=Ab (X5 (t:=t) (x:=x));have aw:=Ab (Aa ar · · t x (Aa ab));generalize IX t x=R at av ac ad aw ⊢;obtain ⟨N,L,bK,C,J⟩:=R;have g:=(Below.refl H.heap.size H).alloc NLN (.cells #[.slice Q T U,.slice V I W] 27);have k:=(Below.refl (H.alloc (.cells #[.slice Q T U,.slice V I W] 27)).heap.size (H.alloc (.cells #[.slice Q T U,.slice V I W] 27))).alloc NLN (.cells #[.int .i64 C,.int .i64 J] 30);have f:=g.trans (k.mono g.size);have ae:=Am.new (H.alloc (.cells #[.slice Q T U,.slice V I W] 27)) #[.int .i64 C,.int .i64 J] 30;simp only[World.size_alloc] at ae;have X:=aO.trans (f.mono aO.size);clear g k f;dsimp only;generalize aP:(H.alloc (.cells #[.slice Q T U,.slice V I W] 27)).alloc (.cells #[.int .i64 C,.int .i64 J] 30)=bk at ae X;have aQ:=Ab aP;clear aP;go_wp2_with fail
 rw[Aa aQ];clear aQ;refine (Aa aw bk X).mono ?_;rintro r o ⟨⟨nd,bl,bm,bn,bo,rfl,p,q,E,-⟩,b3⟩;obtain ⟨l,c3,rfl,-⟩:=Af p.own;obtain ⟨m,d3,rfl,-⟩:=Af q;obtain ⟨bL,e3,rfl,-⟩:=Af E;dsimp only at p q E ⊢;have b:=Aa av;have ax:=b.1.1;have ay:=b.2.1.1;have aR:IZ o l N.length c3 N:=p.nds rfl (by omega) (fun x hx=>⟨(b.1.2 x hx).1,(b.1.2 x hx).2.1⟩);have aS:PO o m L.length d3 L:=GT q rfl (by omega) b.2.1.2;have g:=(Below.refl o.heap.size o).alloc NLN (.cells #[.slice l N.length c3,.slice m L.length d3] 27);have k:=(Below.refl (o.alloc (.cells #[.slice l N.length c3,.slice m L.length d3] 27)).heap.size (o.alloc (.cells #[.slice l N.length c3,.slice m L.length d3] 27))).alloc NLN (.cells #[.int .i64 C,.int .i64 J] 30);have f:=g.trans (k.mono g.size);have i:=(Am.new o #[.slice l N.length c3,.slice m L.length d3] 27).after k NLN;have j:=Am.new (o.alloc (.cells #[.slice l N.length c3,.slice m L.length d3] 27)) #[.int .i64 C,.int .i64 J] 30;simp only[World.size_alloc] at j;have af:=aR.below f NLN;have ag:=aS.below f NLN;have u:=b3.trans (f.mono b3.size);have ah:=ae.after u NLN;have F:=X.trans (u.mono X.size);clear aR aS ae X b3 g k f u p q E b ax ay aw;have K:=i.cell 0;have M:=i.cell 1;have az:=j.cell 0;have f1:=j.cell 1;have bp:=ah.cell 0;have bq:=ah.cell 1;generalize aT:(o.alloc (.cells #[.slice l N.length c3,.slice m L.length d3] 27)).alloc (.cells #[.int .i64 C,.int .i64 J] 30)=br at i j ah af ag F;have aA:=Ab aT;clear aT;by_cases hc:C=0
 case neg=>
  have bM:(C== 0)=false:=zA.2 hc;obtain ⟨aU,aV⟩:=Aa ad hc;have bN:((N.length:Int)== 0)=true:=by rw[show N= [] from aU];rfl
  have I:((L.length:Int)== 0)=true:=by rw[show L= [] from aV];rfl
  clear aU aV hc ad ac;go_wp2_with fail
  go_ret
  rw[Aa aA];exact ⟨rfl,F⟩
 subst hc;obtain ⟨aW,hu⟩:=Aa ac rfl;have aB:=Ab hu;have aC:=Ab aW;clear hu aW ac ad;go_wp2_with fail
 rw[Aa aA];clear aA K M az f1 bp bq ah j;refine (Mt l m _ c3 _ d3 N L br af ag ((Aa O).1.below F NLN) ((Aa O).2.below F NLN) (Aa aB)).mono ?_;rintro r bs ⟨⟨s,rfl,aD⟩,b5⟩;have aE:=af.below b5 NLN;have aF:=ag.below b5 NLN;have ai:=i.after b5 NLN;have aj:=F.trans (b5.mono F.size);have aX:=Ab aD;have bO:=Ku (aD.pos (Aa aC));clear af ag i F b5 aD;have K:=ai.cell 0;have M:=ai.cell 1;dsimp only;go_wp2_with fail
 refine (Gd l m _ c3 _ d3 N L bs aE aF ((Aa O).1.below aj NLN)).mono ?_;rintro r bt ⟨rfl,Y⟩;rw[Aa aC];have aY:=aE.below Y NLN;have aZ:=aF.below Y NLN;have a0:=ai.after Y NLN;have Z:=aj.trans (Y.mono aj.size);clear aE aF ai aj Y K M;dsimp only;by_cases h4:s.size≤4000
 case neg=>
  have bu:(4000 :Int) < (s.size:Int):=by omega
  clear h4;go_wp2_with fail
  go_ret
  exact ⟨rfl,Z⟩
 have bu: ¬ ((4000 :Int) < (s.size:Int)):=by omega
 obtain ⟨bv,d,P,a7,-,-,-⟩:=PP (Aa aC) (Aa aB) (Aa aX) h4;have a8:=Ab a7;have a9:=Ab d;clear a7 d h4;go_wp2_with fail
 refine (Aa ar bt Z s (.ok bv) (Aa a9)).mono ?_;rw[Aa a8];rintro r v ⟨⟨nd,bl,bm,bn,bo,rfl,p,q,E,-⟩,aG⟩;obtain ⟨y,z,rfl,-⟩:=Af p.own;obtain ⟨A,B,rfl,-⟩:=Af q;obtain ⟨bP,bQ,rfl,-⟩:=Af E;dsimp only at p q E ⊢;have b:=Aa av;have ax:=b.1.1;have ay:=b.2.1.1;have ba:IZ v y N.length z N:=p.nds rfl (by omega) (fun x hx=>⟨(b.1.2 x hx).1,(b.1.2 x hx).2.1⟩);have bb:PO v A L.length B L:=GT q rfl (by omega) b.2.1.2;have g:=(Below.refl v.heap.size v).alloc NLN (.cells #[.slice y N.length z,.slice A L.length B] 27);have k:=(Below.refl (v.alloc (.cells #[.slice y N.length z,.slice A L.length B] 27)).heap.size (v.alloc (.cells #[.slice y N.length z,.slice A L.length B] 27))).alloc NLN (.cells #[.int .i64 0,.int .i64 0] 30);have f:=g.trans (k.mono g.size);have i:=(Am.new v #[.slice y N.length z,.slice A L.length B] 27).after k NLN;have j:=Am.new (v.alloc (.cells #[.slice y N.length z,.slice A L.length B] 27)) #[.int .i64 0,.int .i64 0] 30;simp only[World.size_alloc] at j;have ak:=ba.below f NLN;have al:=bb.below f NLN;have u:=aG.trans (f.mono aG.size);have aH:=aY.below u NLN;have aI:=aZ.below u NLN;have ao:=a0.after u NLN;have ap:=Z.trans (u.mono Z.size);clear ba bb aY aZ a0 Z aG g k f u p q E b ax ay a8 a9 ar;have bw:=ao.cell 0;have bx:=ao.cell 1;have K:=i.cell 0;have M:=i.cell 1;have az:=j.cell 0;have f1:=j.cell 1;generalize bc:(v.alloc (.cells #[.slice y N.length z,.slice A L.length B] 27)).alloc (.cells #[.int .i64 0,.int .i64 0] 30)=bz at i j ak al aH aI ao ap;have bd:=Ab bc;clear bc;go_wp2_with fail
 rw[Aa bd];clear bd bw bx K M az f1 j ao;refine (LP l y _ c3 z m A _ d3 B N L bz aH ak aI al).mono ?_;rintro r bA ⟨rfl,aa⟩;have bB:=ak.below aa NLN;have bC:=al.below aa NLN;have bf:=i.after aa NLN;have aq:=ap.trans (aa.mono ap.size);clear aH ak aI al ap aa i;have K:=bf.cell 0;have M:=bf.cell 1;dsimp only;go_wp2_with fail
 refine (Mt y A _ z _ B N L bA bB bC ((Aa O).1.below aq NLN) ((Aa O).2.below aq NLN) (Aa aB)).mono ?_;rintro r bR ⟨⟨bD,rfl,bE⟩,bF⟩;have hs:s=bD:=(Aa aX).one bE;subst hs;have bS:(s.toList== s.toList)=true:=by simp
 have bG:=aq.trans (bF.mono aq.size);dsimp only;go_wp2_with fail
 go_ret
 exact ⟨rfl,bG⟩
end Go.Proofs.YtffkofkjpckmpaaGreatDoor
