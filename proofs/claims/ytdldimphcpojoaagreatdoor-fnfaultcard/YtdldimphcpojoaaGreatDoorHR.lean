/-
  Parse, the model: the levels. Own work.
-/
import Derived.Test.YtdldimphcpojoaaGreatDoorMXBC
namespace Go.Proofs.YtdldimphcpojoaaGreatDoor
set_option maxRecDepth 100000
set_option maxHeartbeats 6400000
open Go.RowKit
set_option linter.unusedVariables false
def YD (T:List Af) (lo hi:Nat) (p:Pt) (w:World) (gl:Nat) (vi:Value) (wr:World):Prop:=
 ∃ lv:Nat,lv≤5∧vi= .int .i64 (lv:Int)∧G (YS lv) (Fe T lo hi) p∧Ys wr gl∧Below w.heap.size w wr
theorem WM {B O aC c:Nat}{T:List Af}(av:aC < B)(hl:T.length≤4000)(cw:∀ t∈T,t.text.size≤maxLen){lo hi:Nat}(ab:hi≤T.length)(c6:lo < hi){p:Pt}(g:G 1 (Fe T lo hi) p)
  (cx:∀ bZ bC p,bC≤T.length→bZ≤bC→bC - bZ < hi - lo→G 0 (Fe T bZ bC) p→KU B O aC c T bZ bC p):KU B O aC c T lo hi p:=by
 intro N P nd f W X w b7 hC ap aq;have o:lo < T.length:=by omega
 have cy:see Du T[lo]=false:=by
  obtain ⟨t,r,e,h1,_⟩:=g.head;obtain ⟨_,e1,_⟩:=AB ab e;rw[e1];exact h1 (by omega)
 have cz:=Ab (Ga b7 lo o Du (Ax Du) rfl);rw[cy] at cz;have cA:=Ab g;have d:=Ab b7;have bl:=Ab cx;have cQ:=Ab cw;clear g cx cy b7 cw;go_enter Tryz.func30,Tryz.ntmps30
 go_wp2_with fail
 refine (Aa cz).mono ?_;rintro r bm ⟨rfl,cB⟩;dsimp only;go_wp2_with fail
 refine (E9 _).mono ?_;rintro r b0 ⟨rfl,cR⟩;dsimp only;go_wp2_with fail
 refine (GS _).mono ?_;rintro r c8 ⟨rfl,cS⟩;dsimp only;go_wp2_with fail
 refine (F7 _).mono ?_;rintro r c9 ⟨rfl,cT⟩;dsimp only;go_wp2_with fail
 clear cR cS cT;obtain ⟨cC,bx⟩:=Vo bm;have bD:=Ab (show YD T lo hi p w (bm.heap.size+5) (.int .i64 0) (Yk bm) from ⟨0,by omega,rfl,Aa cA,cC,cB.trans (bx.mono cB.size)⟩);clear cC bx cA;show Code.wp _ _ _ _ (Yk bm);generalize Yk bm=da at bD ⊢;have bE:bm.heap.size+5=bm.heap.size+1+1+1+1+1:=rfl;rw[bE] at bD;clear bE;obtain ⟨bF,bE⟩:∃ bF,bF=bm.heap.size+1+1+1+1+1:=⟨_,rfl⟩
 rw[← bE] at bD ⊢;clear bE;go_loopw [12,13,63] (fun _ _ b8 wr=>YD T lo hi p w bF b8 wr) (fun _ _ b8 _=>5 - (intOf b8).toNat)
 case atStart=>exact Aa bD
 case round=>
  clear bD;obtain ⟨lv,db,rfl,bG,b1,y⟩:=hrel;by_cases h5:lv < 5
  ·have cU:(lv:Int) < 5:=by omega
   obtain ⟨cD,n,cE,hc,bn⟩:=b1.2 lv h5;have cF:=Ab b1;have cG:=Ab bn;have b2:=Ab bG;clear b1 bn bG;have cH:=Ab (CQ 5 lv h5);have b3:=Ab (Ga ((Aa d).below y) lo o Ee (Ax Ee) rfl);cases bo:(((lv:Int)== 2) && see Ee T[lo])
   ·have bz:=Ab (X5 h5 (Aa b2) (fun e t r he=>by
     obtain ⟨_,e1,_⟩:=AB ab he;rw[← e1];subst e;simpa using bo))
    clear b2;cases h2:((lv:Int)== 2)
    ·clear bo;go_wp2_with fail
     refine (Mk ((Aa d).below y) hl lo hi (by omega) ab cD 0 n cE (AW (Wc lv)) (Aa cG)).mono ?_;rintro r br ⟨rfl,bH⟩;have aF:=y.trans (bH.mono y.size);have b9:=Ab ((Aa cF).below bH);rcases Aa bz with ⟨l,t,r,op,ah,ac,Y,ax,bI,bJ,gR,aV⟩ | ⟨bK,aV⟩
     ·have a6:=Ab (show (((T.take hi).drop lo).foldl (Cl (AW (Wc lv))) ⟨false,0,lo,-1⟩).acc=((lo+l.length:Nat):Int) from (aV lo).trans (by omega));rw[Aa a6];obtain ⟨bL,bM,ca⟩:=E6 ab Y (by omega);obtain ⟨bN,b,Z,aO⟩:=AB ab bM;have ad:=Ab (Aa bl lo (lo+l.length) ah (by omega) (by omega) (by omega) (by rw[bL];exact bJ));have a7:=Ab (Aa bl (lo+l.length+1) hi ac (by omega) (by omega) (by omega) (by rw[Z];exact gR));obtain ⟨aD,bs⟩:∃ aD,aD=lo+l.length:=⟨_,rfl⟩
      have ai:=Ab (show ∃ h:aD < T.length,T[aD]=t from by subst bs;exact ⟨bN,b⟩);have bO:=Ab (Vl bI);have bt:=Ab ax;rw[← bs] at ad a7 aO ⊢;unfold KU at ad a7;simp only[Int.natCast_add,Int.natCast_one] at ad a7;have aA:N.length+(ah.ex.cnt+ac.ex.cnt+1)≤65535:=by rw[ax] at ap;exact ap
      have aB:P.length+(ah.ex.cnt+ac.ex.cnt+1)≤65535:=by rw[ax] at aq;exact aq
      have cV:(0 :Int)≤(aD:Int):=by omega
      have m:Nk B O nd f w nd f br:=Nk.of_all aF (by have:=hC.row.lt;have:=hC.low;omega);have s:=hC.below aF;have j:=(Aa d).below aF;clear aV Y ax bI bJ gR bL bM ca bN b Z bz a6 bs;dsimp only;go_wp2_with fail
      refine (Aa ad N P nd f W X br j s (by omega) (by omega)).mono ?_;rintro r ar ⟨rfl,ak,al,K,L,i,A,C⟩;have au:=m.trans A;have aW:=(Aa d).of i au.low av;obtain ⟨a1,Q⟩:∃ a1:Int,a1=((N.length+(BI ah.ex N.length).length - 1 :Nat):Int):=⟨_,rfl⟩
      obtain ⟨V,F⟩:∃ M,M=N ++BI ah.ex N.length:=⟨_,rfl⟩
      obtain ⟨ao,H⟩:∃ M,M=P ++CX ah.ex:=⟨_,rfl⟩
      obtain ⟨aX,R⟩:∃ M,M=W ++K:=⟨_,rfl⟩
      obtain ⟨aY,S⟩:∃ M,M=X ++L:=⟨_,rfl⟩
      rw[← F,← H,← R,← S] at i;rw[← Q];have I:V.length=N.length+ah.ex.cnt:=by rw[F,List.length_append,Am]
      have aa:ao.length=P.length+ah.ex.cnt:=by rw[H,List.length_append,AU]
      have cb:V.length+(ac.ex.cnt+1)≤65535:=by omega
      have cc:ao.length+(ac.ex.cnt+1)≤65535:=by omega
      have a8:=Ab (And.intro Q (And.intro F (And.intro H (And.intro R (And.intro S (And.intro I (And.intro aa C)))))));clear Q F H R S I aa C m A s j;dsimp only;go_wp2_with fail
      refine (Aa a7 V ao ak al aX aY ar aW i (by omega) (by omega)).mono ?_;rintro r bA ⟨rfl,GH,cW,bu,bv,aP,bp,bP⟩;have aQ:=au.trans bp;have a9:=(Aa d).of aP aQ.low av;obtain ⟨a2,aR⟩:∃ a2:Int,a2=((V.length+(BI ac.ex V.length).length - 1 :Nat):Int):=⟨_,rfl⟩
      obtain ⟨ba,aH⟩:∃ M,M=V ++BI ac.ex V.length:=⟨_,rfl⟩
      obtain ⟨bw,aI⟩:∃ M,M=ao ++CX ac.ex:=⟨_,rfl⟩
      obtain ⟨cd,aS⟩:∃ M,M=aX ++bu:=⟨_,rfl⟩
      obtain ⟨ce,aT⟩:∃ M,M=aY ++bv:=⟨_,rfl⟩
      rw[← aH,← aI,← aS,← aT] at aP;rw[← aR];have I:ba.length=V.length+ac.ex.cnt:=by rw[aH,List.length_append,Am]
      have aa:bw.length=ao.length+ac.ex.cnt:=by rw[aI,List.length_append,AU]
      have bb:ba.length+1≤65535:=by omega
      have bc:bw.length+1≤65535:=by omega
      have cf:=Ab (And.intro aR (And.intro aH (And.intro aI (And.intro aS (And.intro aT (And.intro I (And.intro aa (And.intro bP au.low.size))))))));clear aR aH aI aS aT I aa bP au bp i aW cb cc;obtain ⟨bQ,aZ⟩:=Aa ai;obtain ⟨ae,aw,q2,q3⟩:=a9.at4 aD bQ;rw[aZ] at q2;have bx:=a9.at0;have cX:(aD:Int) < (T.length:Int):=by omega
      clear ae aw q3 aZ;dsimp only;go_wp2_with fail
      obtain ⟨cg,ch,bn,e1,e2,e3⟩:=Aa bO;rw[bn];refine (OJ cg ch e1 e2 bA).mono ?_;rintro r aj ⟨rfl,bd⟩;have bR:B≤bA.heap.size:=by have:=aP.row.lt;have:=aP.low;omega
      have ci:=aP.below bd;have cj:=a9.below bd;have bS:=aQ.trans (Nk.of_all bd bR);rw[← e3];have ck:=Ab (And.intro aQ.low.size bS.low.size);clear e1 e2 e3 bn bd aP a9 aQ q2 bx bO bR;dsimp only;go_wp2_with fail
      refine (Fl cj av ci bb bc [a1,a2] _ 2 rfl rfl (by unfold maxLen;omega) op aD bQ).mono ?_;rintro r bf ⟨rfl,bg,bh,ay,aK⟩;have aL:=bS.trans aK;obtain ⟨_,aZ⟩:=Aa ai;rw[aZ] at ay;obtain ⟨Q,F,H,R,S,I,aa,aM⟩:=Aa a8;obtain ⟨aR,aH,aI,aS,aT,bT,cl,bU,bV⟩:=Aa cf;have aN:=aF.size;have af:=Ab (show NB B O (.slice (some ⟨aC,0,none⟩) T.length c) N (BI p.ex N.length) P (CX p.ex) nd f W X w (.returned (.int .i64 (ba.length:Int))) bf from by
       rw[Aa bt];have bi:ba ++ [⟨op,0,⟨#[]⟩, [], [a1,a2]⟩]=N ++BI (Pt.bin t.at_ op ah ac).ex N.length:=by
        have e1:a1=((N.length+ah.ex.cnt - 1 :Nat):Int):=by rw[Q,Am]
        have e2:a2=((N.length+ah.ex.cnt+ac.ex.cnt - 1 :Nat):Int):=by rw[aR,Am,I]
        rw[e1,e2,aH,I,F,Pt.ex,BI];simp only[List.append_assoc]
       have bj:bw ++ [(t.at_:Int)]=P ++CX (Pt.bin t.at_ op ah ac).ex:=by
        rw[aI,H,Pt.ex,CX];simp only[List.append_assoc]
       refine ⟨by rw[Am,Pt.ex,Ex.cnt,bT,I];congr 2;omega,bg,bh,K ++bu ++ [.slice none 0 0],L ++bv ++ [.slice (some ⟨aj.heap.size,0,none⟩) 2 2], ?_,aL, ?_⟩
       ·rw[← bi,← bj];have e1:W ++(K ++bu ++ [.slice none 0 0])=cd ++ [.slice none 0 0]:=by rw[aS,R];simp
        have e2:X ++(L ++bv ++ [.slice (some ⟨aj.heap.size,0,none⟩) 2 2])=ce ++ [.slice (some ⟨aj.heap.size,0,none⟩) 2 2]:=by rw[aT,S];simp
        rw[e1,e2];exact ay
       ·exact BP (BP (AM aM aN) (AM bU bV)) (CJ (fun q hq=>by
         have h1:aj.heap.size=q:=by simpa[Value.ownBlock] using hq
         have:=(Aa ck).2;omega)))
      clear ay aK aL Q F H R S I aa aM aR aH aI aS aT bT cl bU bV aN aZ;dsimp only;go_wp2_with fail
      go_ret
      exact Aa af
     ·have cm:=Ab (show YD T lo hi p w bF (.int .i64 ((lv:Int)+1)) br from ⟨lv+1,by omega,by rw[Int.natCast_add];rfl,bK,Aa b9,aF⟩);have a6:=Ab (show (((T.take hi).drop lo).foldl (Cl (AW (Wc lv))) ⟨false,0,lo,-1⟩).acc= -1 from aV lo);rw[Aa a6];clear bK aV bz;dsimp only;go_wp2_with fail
      exact ⟨Aa cm,Aa cH⟩
    ·rw[h2,Bool.true_and] at bo;rw[bo] at b3;clear bo;go_wp2_with fail
     refine (Aa b3).mono ?_;rintro r b0 ⟨rfl,bW⟩;have cn:=y.trans (bW.mono y.size);dsimp only;go_wp2_with fail
     refine (Mk ((Aa d).below cn) hl lo hi (by omega) ab cD 0 n cE (AW (Wc lv)) ((Aa cG).below bW NLN)).mono ?_;rintro r br ⟨rfl,bH⟩;have aF:=cn.trans (bH.mono cn.size);have b9:=Ab (((Aa cF).below bW).below bH);rcases Aa bz with ⟨l,t,r,op,ah,ac,Y,ax,bI,bJ,gR,aV⟩ | ⟨bK,aV⟩
     ·have a6:=Ab (show (((T.take hi).drop lo).foldl (Cl (AW (Wc lv))) ⟨false,0,lo,-1⟩).acc=((lo+l.length:Nat):Int) from (aV lo).trans (by omega));rw[Aa a6];obtain ⟨bL,bM,ca⟩:=E6 ab Y (by omega);obtain ⟨bN,b,Z,aO⟩:=AB ab bM;have ad:=Ab (Aa bl lo (lo+l.length) ah (by omega) (by omega) (by omega) (by rw[bL];exact bJ));have a7:=Ab (Aa bl (lo+l.length+1) hi ac (by omega) (by omega) (by omega) (by rw[Z];exact gR));obtain ⟨aD,bs⟩:∃ aD,aD=lo+l.length:=⟨_,rfl⟩
      have ai:=Ab (show ∃ h:aD < T.length,T[aD]=t from by subst bs;exact ⟨bN,b⟩);have bO:=Ab (Vl bI);have bt:=Ab ax;rw[← bs] at ad a7 aO ⊢;unfold KU at ad a7;simp only[Int.natCast_add,Int.natCast_one] at ad a7;have aA:N.length+(ah.ex.cnt+ac.ex.cnt+1)≤65535:=by rw[ax] at ap;exact ap
      have aB:P.length+(ah.ex.cnt+ac.ex.cnt+1)≤65535:=by rw[ax] at aq;exact aq
      have cV:(0 :Int)≤(aD:Int):=by omega
      have m:Nk B O nd f w nd f br:=Nk.of_all aF (by have:=hC.row.lt;have:=hC.low;omega);have s:=hC.below aF;have j:=(Aa d).below aF;clear aV Y ax bI bJ gR bL bM ca bN b Z bz a6 bs;dsimp only;go_wp2_with fail
      refine (Aa ad N P nd f W X br j s (by omega) (by omega)).mono ?_;rintro r ar ⟨rfl,ak,al,K,L,i,A,C⟩;have au:=m.trans A;have aW:=(Aa d).of i au.low av;obtain ⟨a1,Q⟩:∃ a1:Int,a1=((N.length+(BI ah.ex N.length).length - 1 :Nat):Int):=⟨_,rfl⟩
      obtain ⟨V,F⟩:∃ M,M=N ++BI ah.ex N.length:=⟨_,rfl⟩
      obtain ⟨ao,H⟩:∃ M,M=P ++CX ah.ex:=⟨_,rfl⟩
      obtain ⟨aX,R⟩:∃ M,M=W ++K:=⟨_,rfl⟩
      obtain ⟨aY,S⟩:∃ M,M=X ++L:=⟨_,rfl⟩
      rw[← F,← H,← R,← S] at i;rw[← Q];have I:V.length=N.length+ah.ex.cnt:=by rw[F,List.length_append,Am]
      have aa:ao.length=P.length+ah.ex.cnt:=by rw[H,List.length_append,AU]
      have cb:V.length+(ac.ex.cnt+1)≤65535:=by omega
      have cc:ao.length+(ac.ex.cnt+1)≤65535:=by omega
      have a8:=Ab (And.intro Q (And.intro F (And.intro H (And.intro R (And.intro S (And.intro I (And.intro aa C)))))));clear Q F H R S I aa C m A s j;dsimp only;go_wp2_with fail
      refine (Aa a7 V ao ak al aX aY ar aW i (by omega) (by omega)).mono ?_;rintro r bA ⟨rfl,GH,cW,bu,bv,aP,bp,bP⟩;have aQ:=au.trans bp;have a9:=(Aa d).of aP aQ.low av;obtain ⟨a2,aR⟩:∃ a2:Int,a2=((V.length+(BI ac.ex V.length).length - 1 :Nat):Int):=⟨_,rfl⟩
      obtain ⟨ba,aH⟩:∃ M,M=V ++BI ac.ex V.length:=⟨_,rfl⟩
      obtain ⟨bw,aI⟩:∃ M,M=ao ++CX ac.ex:=⟨_,rfl⟩
      obtain ⟨cd,aS⟩:∃ M,M=aX ++bu:=⟨_,rfl⟩
      obtain ⟨ce,aT⟩:∃ M,M=aY ++bv:=⟨_,rfl⟩
      rw[← aH,← aI,← aS,← aT] at aP;rw[← aR];have I:ba.length=V.length+ac.ex.cnt:=by rw[aH,List.length_append,Am]
      have aa:bw.length=ao.length+ac.ex.cnt:=by rw[aI,List.length_append,AU]
      have bb:ba.length+1≤65535:=by omega
      have bc:bw.length+1≤65535:=by omega
      have cf:=Ab (And.intro aR (And.intro aH (And.intro aI (And.intro aS (And.intro aT (And.intro I (And.intro aa (And.intro bP au.low.size))))))));clear aR aH aI aS aT I aa bP au bp i aW cb cc;obtain ⟨bQ,aZ⟩:=Aa ai;obtain ⟨ae,aw,q2,q3⟩:=a9.at4 aD bQ;rw[aZ] at q2;have bx:=a9.at0;have cX:(aD:Int) < (T.length:Int):=by omega
      clear ae aw q3 aZ;dsimp only;go_wp2_with fail
      obtain ⟨cg,ch,bn,e1,e2,e3⟩:=Aa bO;rw[bn];refine (OJ cg ch e1 e2 bA).mono ?_;rintro r aj ⟨rfl,bd⟩;have bR:B≤bA.heap.size:=by have:=aP.row.lt;have:=aP.low;omega
      have ci:=aP.below bd;have cj:=a9.below bd;have bS:=aQ.trans (Nk.of_all bd bR);rw[← e3];have ck:=Ab (And.intro aQ.low.size bS.low.size);clear e1 e2 e3 bn bd aP a9 aQ q2 bx bO bR;dsimp only;go_wp2_with fail
      refine (Fl cj av ci bb bc [a1,a2] _ 2 rfl rfl (by unfold maxLen;omega) op aD bQ).mono ?_;rintro r bf ⟨rfl,bg,bh,ay,aK⟩;have aL:=bS.trans aK;obtain ⟨_,aZ⟩:=Aa ai;rw[aZ] at ay;obtain ⟨Q,F,H,R,S,I,aa,aM⟩:=Aa a8;obtain ⟨aR,aH,aI,aS,aT,bT,cl,bU,bV⟩:=Aa cf;have aN:=aF.size;have af:=Ab (show NB B O (.slice (some ⟨aC,0,none⟩) T.length c) N (BI p.ex N.length) P (CX p.ex) nd f W X w (.returned (.int .i64 (ba.length:Int))) bf from by
       rw[Aa bt];have bi:ba ++ [⟨op,0,⟨#[]⟩, [], [a1,a2]⟩]=N ++BI (Pt.bin t.at_ op ah ac).ex N.length:=by
        have e1:a1=((N.length+ah.ex.cnt - 1 :Nat):Int):=by rw[Q,Am]
        have e2:a2=((N.length+ah.ex.cnt+ac.ex.cnt - 1 :Nat):Int):=by rw[aR,Am,I]
        rw[e1,e2,aH,I,F,Pt.ex,BI];simp only[List.append_assoc]
       have bj:bw ++ [(t.at_:Int)]=P ++CX (Pt.bin t.at_ op ah ac).ex:=by
        rw[aI,H,Pt.ex,CX];simp only[List.append_assoc]
       refine ⟨by rw[Am,Pt.ex,Ex.cnt,bT,I];congr 2;omega,bg,bh,K ++bu ++ [.slice none 0 0],L ++bv ++ [.slice (some ⟨aj.heap.size,0,none⟩) 2 2], ?_,aL, ?_⟩
       ·rw[← bi,← bj];have e1:W ++(K ++bu ++ [.slice none 0 0])=cd ++ [.slice none 0 0]:=by rw[aS,R];simp
        have e2:X ++(L ++bv ++ [.slice (some ⟨aj.heap.size,0,none⟩) 2 2])=ce ++ [.slice (some ⟨aj.heap.size,0,none⟩) 2 2]:=by rw[aT,S];simp
        rw[e1,e2];exact ay
       ·exact BP (BP (AM aM aN) (AM bU bV)) (CJ (fun q hq=>by
         have h1:aj.heap.size=q:=by simpa[Value.ownBlock] using hq
         have:=(Aa ck).2;omega)))
      clear ay aK aL Q F H R S I aa aM aR aH aI aS aT bT cl bU bV aN aZ;dsimp only;go_wp2_with fail
      go_ret
      exact Aa af
     ·have cm:=Ab (show YD T lo hi p w bF (.int .i64 ((lv:Int)+1)) br from ⟨lv+1,by omega,by rw[Int.natCast_add];rfl,bK,Aa b9,aF⟩);have a6:=Ab (show (((T.take hi).drop lo).foldl (Cl (AW (Wc lv))) ⟨false,0,lo,-1⟩).acc= -1 from aV lo);rw[Aa a6];clear bK aV bz;dsimp only;go_wp2_with fail
      exact ⟨Aa cm,Aa cH⟩
   ·have cY:lv=2∧see Ee T[lo]=true:=by
     simp at bo;exact ⟨by omega,bo.2⟩
    obtain ⟨co,b4⟩:=cY;have h2:((lv:Int)== 2)=true:=by rw[co];rfl
    rw[b4] at b3;obtain ⟨t,r,q,Y,ax,ht,bX⟩:∃ t r q,Fe T lo hi=t ::r∧p= .un t.at_ 9 q∧see Ee t=true∧G 3 r q:=by
     rcases (show G 3 (Fe T lo hi) p from by have:=Aa b2;rw[co] at this;exact this).cut3 with h | g
     ·exact h
     ·obtain ⟨t,r,e,_,h4,_⟩:=g.head;obtain ⟨_,e1,_⟩:=AB ab e;rw[e1,h4 (by omega)] at b4;cases b4
    obtain ⟨_,b,Z,aO⟩:=AB ab Y;have ad:=Ab (Aa bl (lo+1) hi q (by omega) (by omega) (by omega) (by rw[Z];exact bX.low (by omega)));unfold KU at ad;simp only[Int.natCast_add,Int.natCast_one] at ad;have aA:N.length+(q.ex.cnt+1)≤65535:=by rw[ax] at ap;exact ap
    have aB:P.length+(q.ex.cnt+1)≤65535:=by rw[ax] at aq;exact aq
    have bt:=Ab ax;have ai:=Ab b;clear bo b4 Y ax ht bX b Z b2 co;go_wp2_with fail
    refine (Aa b3).mono ?_;rintro r b0 ⟨rfl,bW⟩;have aF:=y.trans (bW.mono y.size);have m:Nk B O nd f w nd f b0:=Nk.of_all aF (by have:=hC.row.lt;have:=hC.low;omega);have s:=hC.below aF;have j:=(Aa d).below aF;dsimp only;go_wp2_with fail
    refine (Aa ad N P nd f W X b0 j s (by omega) (by omega)).mono ?_;rintro r ar ⟨rfl,ak,al,K,L,i,A,C⟩;have au:=m.trans A;have aW:=(Aa d).of i au.low av;obtain ⟨a1,Q⟩:∃ a1:Int,a1=((N.length+(BI q.ex N.length).length - 1 :Nat):Int):=⟨_,rfl⟩
    obtain ⟨V,F⟩:∃ M,M=N ++BI q.ex N.length:=⟨_,rfl⟩
    obtain ⟨ao,H⟩:∃ M,M=P ++CX q.ex:=⟨_,rfl⟩
    obtain ⟨aX,R⟩:∃ M,M=W ++K:=⟨_,rfl⟩
    obtain ⟨aY,S⟩:∃ M,M=X ++L:=⟨_,rfl⟩
    rw[← F,← H,← R,← S] at i;rw[← Q];have I:V.length=N.length+q.ex.cnt:=by rw[F,List.length_append,Am]
    have aa:ao.length=P.length+q.ex.cnt:=by rw[H,List.length_append,AU]
    have bb:V.length+1≤65535:=by omega
    have bc:ao.length+1≤65535:=by omega
    have a8:=Ab (And.intro Q (And.intro F (And.intro H (And.intro R (And.intro S (And.intro I (And.intro aa C)))))));clear Q F H R S I aa C m A s j;dsimp only;go_wp2_with fail
    refine (Fl aW av i bb bc [a1] _ 1 rfl rfl (by unfold maxLen;omega) 9 lo o).mono ?_;rintro r bf ⟨rfl,bg,bh,ay,aK⟩;have aL:=au.trans aK;rw[Aa ai] at ay;obtain ⟨Q,F,H,R,S,I,aa,aM⟩:=Aa a8;have aN:=aF.size;have bY:=au.low.size;have af:=Ab (show NB B O (.slice (some ⟨aC,0,none⟩) T.length c) N (BI p.ex N.length) P (CX p.ex) nd f W X w (.returned (.int .i64 (V.length:Int))) bf from by
     rw[Aa bt];have bi:V ++ [⟨9,0,⟨#[]⟩, [], [a1]⟩]=N ++BI (Pt.un t.at_ 9 q).ex N.length:=by
      have e1:a1=((N.length+q.ex.cnt - 1 :Nat):Int):=by rw[Q,Am]
      rw[e1,F,Pt.ex,BI];simp only[List.append_assoc]
     have bj:ao ++ [(t.at_:Int)]=P ++CX (Pt.un t.at_ 9 q).ex:=by
      rw[H,Pt.ex,CX];simp only[List.append_assoc]
     refine ⟨by rw[Am,Pt.ex,Ex.cnt,I];congr 2,bg,bh,K ++ [.slice none 0 0],L ++ [.slice (some ⟨ar.heap.size,0,none⟩) 1 1], ?_,aL, ?_⟩
     ·rw[← bi,← bj];have e1:W ++(K ++ [.slice none 0 0])=aX ++ [.slice none 0 0]:=by rw[R];simp
      have e2:X ++(L ++ [.slice (some ⟨ar.heap.size,0,none⟩) 1 1])=aY ++ [.slice (some ⟨ar.heap.size,0,none⟩) 1 1]:=by rw[S];simp
      rw[e1,e2];exact ay
     ·exact BP (AM aM aN) (CJ (fun q hq=>by
       have h1:ar.heap.size=q:=by simpa[Value.ownBlock] using hq
       omega)))
    clear ay aK aL Q F H R S I aa aM aN bY;dsimp only;go_wp2_with fail
    go_ret
    exact Aa af
  ·have cU: ¬ ((lv:Int) < 5):=by omega
   have cp:G 7 (Fe T lo hi) p:=by
    have e:lv=5:=by omega
    rw[e] at bG;exact bG
   clear bG b1 h5;rcases cp.cut7 with ⟨t,r,q,Y,ax,ht,bX⟩ | g8
   ·obtain ⟨_,b,Z,aO⟩:=AB ab Y;have ad:=Ab (Aa bl (lo+1) (hi) q (by omega) (by omega) (by omega) (by rw[Z];exact bX.low (by omega)));unfold KU at ad;rw[show ((lo+1 :Nat):Int)=(lo:Int)+1 from by omega] at ad;have aA:N.length+(q.ex.cnt+1)≤65535:=by rw[ax] at ap;exact ap
    have aB:P.length+(q.ex.cnt+1)≤65535:=by rw[ax] at aq;exact aq
    have bt:=Ab ax;have ai:=Ab b;have aE:=Ab (show see AX T[lo]=true from by rw[b];exact ht);clear Y ax ht bX b Z cp;go_wp2_with fail
    refine (Bj (Aa d) y lo o AX true (Aa aE)).mono ?_;rintro r a5 ⟨rfl,a⟩;have z:=y.trans (a.mono y.size);clear a y;dsimp only;have m:Nk B O nd f w nd f a5:=Nk.of_all z (by have:=hC.row.lt;have:=hC.low;omega);have s:=hC.below z;have j:=(Aa d).below z;go_wp2_with fail
    refine (Aa ad N P nd f W X a5 j s (by omega) (by omega)).mono ?_;rintro r ar ⟨rfl,ak,al,K,L,i,A,C⟩;have au:=m.trans A;have aW:=(Aa d).of i au.low av;obtain ⟨a1,Q⟩:∃ a1:Int,a1=((N.length+(BI q.ex N.length).length - 1 :Nat):Int):=⟨_,rfl⟩
    obtain ⟨V,F⟩:∃ M,M=N ++BI q.ex N.length:=⟨_,rfl⟩
    obtain ⟨ao,H⟩:∃ M,M=P ++CX q.ex:=⟨_,rfl⟩
    obtain ⟨aX,R⟩:∃ M,M=W ++K:=⟨_,rfl⟩
    obtain ⟨aY,S⟩:∃ M,M=X ++L:=⟨_,rfl⟩
    rw[← F,← H,← R,← S] at i;rw[← Q];have I:V.length=N.length+q.ex.cnt:=by rw[F,List.length_append,Am]
    have aa:ao.length=P.length+q.ex.cnt:=by rw[H,List.length_append,AU]
    have bb:V.length+1≤65535:=by omega
    have bc:ao.length+1≤65535:=by omega
    have a8:=Ab (And.intro Q (And.intro F (And.intro H (And.intro R (And.intro S (And.intro I (And.intro aa C)))))));clear Q F H R S I aa C m A s j;dsimp only;go_wp2_with fail
    refine (Fl aW av i bb bc [a1] _ 1 rfl rfl (by unfold maxLen;omega) 8 lo o).mono ?_;rintro r bf ⟨rfl,bg,bh,ay,aK⟩;have aL:=au.trans aK;rw[Aa ai] at ay;obtain ⟨Q,F,H,R,S,I,aa,aM⟩:=Aa a8;have aN:=z.size;have bY:=au.low.size;have af:=Ab (show NB B O (.slice (some ⟨aC,0,none⟩) T.length c) N (BI p.ex N.length) P (CX p.ex) nd f W X w (.returned (.int .i64 (V.length:Int))) bf from by
     rw[Aa bt];have bi:V ++ [⟨8,0,⟨#[]⟩, [], [a1]⟩]=N ++BI (Pt.un t.at_ 8 q).ex N.length:=by
      have e1:a1=((N.length+q.ex.cnt - 1 :Nat):Int):=by rw[Q,Am]
      rw[e1,F,Pt.ex,BI];simp only[List.append_assoc]
     have bj:ao ++ [(t.at_:Int)]=P ++CX (Pt.un t.at_ 8 q).ex:=by
      rw[H,Pt.ex,CX];simp only[List.append_assoc]
     refine ⟨by rw[Am,Pt.ex,Ex.cnt,I];congr 2,bg,bh,K ++ [.slice none 0 0],L ++ [.slice (some ⟨ar.heap.size,0,none⟩) 1 1], ?_,aL, ?_⟩
     ·rw[← bi,← bj];have e1:W ++(K ++ [.slice none 0 0])=aX ++ [.slice none 0 0]:=by rw[R];simp
      have e2:X ++(L ++ [.slice (some ⟨ar.heap.size,0,none⟩) 1 1])=aY ++ [.slice (some ⟨ar.heap.size,0,none⟩) 1 1]:=by rw[S];simp
      rw[e1,e2];exact ay
     ·exact BP (AM aM aN) (CJ (fun q hq=>by
       have h1:ar.heap.size=q:=by simpa[Value.ownBlock] using hq
       omega)))
    clear ay aK aL Q F H R S I aa aM aN bY;dsimp only;go_wp2_with fail
    go_ret
    exact Aa af
   ·clear cp;generalize Y:Fe T lo hi=dc at g8;cases g8 with
    | up hk g=>omega
    | bin hk=>omega
    | @par t u r p ht g hu=>
     obtain ⟨_,b,Z,aO⟩:=AB ab Y;obtain ⟨g1,g2,g3⟩:=E6 ab Z (by omega);obtain ⟨_,_,_,g4⟩:=AB ab g2;have cq:hi=lo+1+r.length+1:=by
      have:=DQ (lo:=lo) ab;rw[Y] at this;simp at this;omega
     have ad:=Ab (Aa bl (lo+1) (hi - 1) p (by omega) (by omega) (by omega) (by rw[show hi - 1=lo+1+r.length from by omega,g1];exact g));unfold KU at ad;rw[show ((lo+1 :Nat):Int)=(lo:Int)+1 from by omega] at ad;rw[show ((hi - 1 :Nat):Int)=(hi:Int) - 1 from by omega] at ad;have aE:=Ab (show see AX T[lo]=false from by rw[b];exact Ag ht (by decide));have aJ:=Ab (show see AD T[lo]=true from by rw[b];exact ht);have cZ:(1 :Int)≤(hi:Int):=by omega
     clear Y b Z g1 g2 g ht hu cq;go_wp2_with fail
     refine (Bj (Aa d) y lo o AX false (Aa aE)).mono ?_;rintro r a5 ⟨rfl,a⟩;have z:=y.trans (a.mono y.size);clear a y;dsimp only;go_wp2_with fail
     refine (Bj (Aa d) z lo o AD true (Aa aJ)).mono ?_;rintro r bk ⟨rfl,a⟩;have J:=z.trans (a.mono z.size);clear a z;dsimp only;have m:Nk B O nd f w nd f bk:=Nk.of_all J (by have:=hC.row.lt;have:=hC.low;omega);have s:=hC.below J;have j:=(Aa d).below J;go_wp2_with fail
     refine (Aa ad N P nd f W X bk j s (by omega) (by omega)).mono ?_;rintro r ar ⟨rfl,ak,al,K,L,i,A,C⟩;have af:=Ab (show NB B O (.slice (some ⟨aC,0,none⟩) T.length c) N (BI p.ex N.length) P (CX p.ex) nd f W X w (.returned (.int .i64 ((N.length+(BI p.ex N.length).length - 1 :Nat):Int))) ar from ⟨rfl,ak,al,K,L,i,m.trans A,AM C J.size⟩);clear i A C m s j;dsimp only;go_wp2_with fail
     go_ret
     exact Aa af
    | @size t u v r q ht hu g c0=>
     obtain ⟨_,b,Z,aO⟩:=AB ab Y;obtain ⟨_,_,cI,dd⟩:=AB ab Z;obtain ⟨g1,g2,g3⟩:=E6 ab cI (by omega);obtain ⟨_,_,_,g4⟩:=AB ab g2;have cq:hi=lo+2+r.length+1:=by
      have:=DQ (lo:=lo) ab;rw[Y] at this;simp at this;omega
     have ad:=Ab (Aa bl (lo+2) (hi - 1) q (by omega) (by omega) (by omega) (by rw[show hi - 1=lo+1+1+r.length from by omega,g1];exact g));unfold KU at ad;rw[show ((lo+2 :Nat):Int)=(lo:Int)+2 from by omega] at ad;rw[show ((hi - 1 :Nat):Int)=(hi:Int) - 1 from by omega] at ad;have aE:=Ab (show see AX T[lo]=false from by rw[b];exact Ag ht (by decide));have aJ:=Ab (show see AD T[lo]=false from by rw[b];exact Ag ht (by decide));have aU:=Ab (show see BO T[lo]=true from by rw[b];exact ht);have aA:N.length+(q.ex.cnt+1)≤65535:=ap;have aB:P.length+(q.ex.cnt+1)≤65535:=aq;have ai:=Ab b;have cZ:(1 :Int)≤(hi:Int):=by omega
     clear Y b Z cI g1 g2 g ht hu c0 cq ap aq;go_wp2_with fail
     refine (Bj (Aa d) y lo o AX false (Aa aE)).mono ?_;rintro r a5 ⟨rfl,a⟩;have z:=y.trans (a.mono y.size);clear a y;dsimp only;go_wp2_with fail
     refine (Bj (Aa d) z lo o AD false (Aa aJ)).mono ?_;rintro r bk ⟨rfl,a⟩;have J:=z.trans (a.mono z.size);clear a z;dsimp only;go_wp2_with fail
     refine (Bj (Aa d) J lo o BO true (Aa aU)).mono ?_;rintro r bq ⟨rfl,a⟩;have U:=J.trans (a.mono J.size);clear a J;dsimp only;have m:Nk B O nd f w nd f bq:=Nk.of_all U (by have:=hC.row.lt;have:=hC.low;omega);have s:=hC.below U;have j:=(Aa d).below U;go_wp2_with fail
     refine (Aa ad N P nd f W X bq j s (by omega) (by omega)).mono ?_;rintro r ar ⟨rfl,ak,al,K,L,i,A,C⟩;have au:=m.trans A;have aW:=(Aa d).of i au.low av;obtain ⟨a1,Q⟩:∃ a1:Int,a1=((N.length+(BI q.ex N.length).length - 1 :Nat):Int):=⟨_,rfl⟩
     obtain ⟨V,F⟩:∃ M,M=N ++BI q.ex N.length:=⟨_,rfl⟩
     obtain ⟨ao,H⟩:∃ M,M=P ++CX q.ex:=⟨_,rfl⟩
     obtain ⟨aX,R⟩:∃ M,M=W ++K:=⟨_,rfl⟩
     obtain ⟨aY,S⟩:∃ M,M=X ++L:=⟨_,rfl⟩
     rw[← F,← H,← R,← S] at i;rw[← Q];have I:V.length=N.length+q.ex.cnt:=by rw[F,List.length_append,Am]
     have aa:ao.length=P.length+q.ex.cnt:=by rw[H,List.length_append,AU]
     have bb:V.length+1≤65535:=by omega
     have bc:ao.length+1≤65535:=by omega
     have a8:=Ab (And.intro Q (And.intro F (And.intro H (And.intro R (And.intro S (And.intro I (And.intro aa C)))))));clear Q F H R S I aa C m A s j;dsimp only;go_wp2_with fail
     refine (Fl aW av i bb bc [a1] _ 1 rfl rfl (by unfold maxLen;omega) 10 lo o).mono ?_;rintro r bf ⟨rfl,bg,bh,ay,aK⟩;have aL:=au.trans aK;rw[Aa ai] at ay;obtain ⟨Q,F,H,R,S,I,aa,aM⟩:=Aa a8;have aN:=U.size;have bY:=au.low.size;have af:=Ab (show NB B O (.slice (some ⟨aC,0,none⟩) T.length c) N (BI (Pt.un t.at_ 10 q).ex N.length) P (CX (Pt.un t.at_ 10 q).ex) nd f W X w (.returned (.int .i64 (V.length:Int))) bf from by
      skip;have bi:V ++ [⟨10,0,⟨#[]⟩, [], [a1]⟩]=N ++BI (Pt.un t.at_ 10 q).ex N.length:=by
       have e1:a1=((N.length+q.ex.cnt - 1 :Nat):Int):=by rw[Q,Am]
       rw[e1,F,Pt.ex,BI];simp only[List.append_assoc]
      have bj:ao ++ [(t.at_:Int)]=P ++CX (Pt.un t.at_ 10 q).ex:=by
       rw[H,Pt.ex,CX];simp only[List.append_assoc]
      refine ⟨by rw[Am,Pt.ex,Ex.cnt,I];congr 2,bg,bh,K ++ [.slice none 0 0],L ++ [.slice (some ⟨ar.heap.size,0,none⟩) 1 1], ?_,aL, ?_⟩
      ·rw[← bi,← bj];have e1:W ++(K ++ [.slice none 0 0])=aX ++ [.slice none 0 0]:=by rw[R];simp
       have e2:X ++(L ++ [.slice (some ⟨ar.heap.size,0,none⟩) 1 1])=aY ++ [.slice (some ⟨ar.heap.size,0,none⟩) 1 1]:=by rw[S];simp
       rw[e1,e2];exact ay
      ·exact BP (AM aM aN) (CJ (fun q hq=>by
        have h1:ar.heap.size=q:=by simpa[Value.ownBlock] using hq
        omega)))
     clear ay aK aL Q F H R S I aa aM aN bY;dsimp only;go_wp2_with fail
     go_ret
     exact Aa af
    | @set t u cs ht hc hu=>
     obtain ⟨_,b,Z,aO⟩:=AB ab Y;have cr:I1 (T.drop (lo+1))=NZ cs:=by
      rw[KT ab (by omega),Z,List.append_assoc,List.cons_append,List.nil_append,MP cs hc u _ hu]
     have b5:=Ab (M1 (T.drop (lo+1)) (fun x hx=>Aa cQ x (List.mem_of_mem_drop hx)));rw[cr] at b5;have c1:(NZ cs).length≤4000:=by
      have:=(Aa b5).2;rw[List.length_drop] at this;omega
     have ai:=Ab b;have ct:=Ab (fun (w':World) (c2:Below w.heap.size w w')=>JH ((Aa d).below c2) hl lo o);rw[cr] at ct;have aE:=Ab (show see AX T[lo]=false from by rw[b];exact Ag ht (by decide));have aJ:=Ab (show see AD T[lo]=false from by rw[b];exact Ag ht (by decide));have aU:=Ab (show see BO T[lo]=false from by rw[b];exact Ag ht (by decide));have a0:=Ab (show see BV T[lo]=true from by rw[b];exact ht);obtain ⟨M,cu⟩:∃ M,M=NZ cs:=⟨_,rfl⟩
     rw[← cu] at ct b5 c1;have c3:=Ab cu;have aA:N.length+1≤65535:=ap;have aB:P.length+1≤65535:=aq;clear Y b Z ht hc hu cr cu ap aq;go_wp2_with fail
     refine (Bj (Aa d) y lo o AX false (Aa aE)).mono ?_;rintro r a5 ⟨rfl,a⟩;have z:=y.trans (a.mono y.size);clear a y;dsimp only;go_wp2_with fail
     refine (Bj (Aa d) z lo o AD false (Aa aJ)).mono ?_;rintro r bk ⟨rfl,a⟩;have J:=z.trans (a.mono z.size);clear a z;dsimp only;go_wp2_with fail
     refine (Bj (Aa d) J lo o BO false (Aa aU)).mono ?_;rintro r bq ⟨rfl,a⟩;have U:=J.trans (a.mono J.size);clear a J;dsimp only;go_wp2_with fail
     refine (Bj (Aa d) U lo o BV true (Aa a0)).mono ?_;rintro r a3 ⟨rfl,a⟩;have E:=U.trans (a.mono U.size);clear a U;dsimp only;have m:Nk B O nd f w nd f a3:=Nk.of_all E (by have:=hC.row.lt;have:=hC.low;omega);have s:=hC.below E;have j:=(Aa d).below E;clear m s j;go_wp2_with fail
     refine (Aa ct _ E).mono ?_;rintro r ar ⟨⟨de,df,rfl,cJ⟩,cK⟩;have bB:=E.trans (cK.mono E.size);have cL:=Bg.of_owns cJ (fun k hk=>by rw[Cf M k hk];exact (Aa b5).1 _ (List.getElem_mem _));clear cK cJ;dsimp only;go_wp2_with fail
     refine (Eh _ _ _ _ _ cL (by omega)).mono ?_;rintro r bA ⟨c4,c7,aQ,rfl,cM,cv,cN⟩;have dg:=bB.trans (cv.mono bB.size);have cO:=hC.below bB;have cP:=(Aa d).below bB;have bp:Nk B O nd f w nd f ar:=Nk.of_all bB (by have:=hC.row.lt;have:=hC.low;omega);have c5:=Ab (QD cN);clear cN cL;dsimp only;go_wp2_with fail
     refine (Vp cP av cO cv aA aB aQ c4 c7 cM lo o).mono ?_;rintro r aj ⟨rfl,ak,al,K,L,i,A,C⟩;rw[Aa ai] at i;have af:=Ab (show NB B O (.slice (some ⟨aC,0,none⟩) T.length c) N (BI (Pt.set t.at_ (NZ cs)).ex N.length) P (CX (Pt.set t.at_ (NZ cs)).ex) nd f W X w (.returned (.int .i64 ((N.length+ [(⟨4,0,⟨#[]⟩,aQ, []⟩:Nd)].length - 1 :Nat):Int))) aj from by
      have e:BI (Pt.set t.at_ (NZ cs)).ex N.length= [⟨4,0,⟨#[]⟩,aQ, []⟩]:=by rw[← Aa c3,Aa c5];rfl
      rw[e];exact ⟨rfl,ak,al,K,L,i,bp.trans A,AM C bB.size⟩)
     clear i A C bp cO cP cM cv;dsimp only;go_wp2_with fail
     go_ret
     exact Aa af
    | @num t ht=>
     obtain ⟨_,b,Z,aO⟩:=AB ab Y;have aA:N.length+1≤65535:=ap;have aB:P.length+1≤65535:=aq;have ai:=Ab b;have aE:=Ab (show see AX T[lo]=false from by rw[b];exact Av (by omega) (by omega));have aJ:=Ab (show see AD T[lo]=false from by rw[b];exact Av (by omega) (by omega));have aU:=Ab (show see BO T[lo]=false from by rw[b];exact Av (by omega) (by omega));have a0:=Ab (show see BV T[lo]=false from by rw[b];exact Av (by omega) (by omega));have aG:=ht;clear Y Z ht ap aq;go_wp2_with fail
     refine (Bj (Aa d) y lo o AX false (Aa aE)).mono ?_;rintro r a5 ⟨rfl,a⟩;have z:=y.trans (a.mono y.size);clear a y;dsimp only;go_wp2_with fail
     refine (Bj (Aa d) z lo o AD false (Aa aJ)).mono ?_;rintro r bk ⟨rfl,a⟩;have J:=z.trans (a.mono z.size);clear a z;dsimp only;go_wp2_with fail
     refine (Bj (Aa d) J lo o BO false (Aa aU)).mono ?_;rintro r bq ⟨rfl,a⟩;have U:=J.trans (a.mono J.size);clear a J;dsimp only;go_wp2_with fail
     refine (Bj (Aa d) U lo o BV false (Aa a0)).mono ?_;rintro r a3 ⟨rfl,a⟩;have E:=U.trans (a.mono U.size);clear a U;dsimp only;have m:Nk B O nd f w nd f a3:=Nk.of_all E (by have:=hC.row.lt;have:=hC.low;omega);have s:=hC.below E;have j:=(Aa d).below E;obtain ⟨ae,aw,q2,q3⟩:=j.at4 lo o;have a4:=j.at0;have b6:(lo:Int) < (T.length:Int):=by omega
     rw[b] at ae aw q2 q3;rw[aG] at ae;clear b aG m;go_wp2_with fail
     have ag:=E.alloc E.size (.cells #[.int .i64 1,.int .i64 t.num,.string t.text,.int .i64 (t.at_:Int)] 41);have m:Nk B O nd f w nd f _:=Nk.of_all ag (by have:=hC.row.lt;have:=hC.low;omega);have s:=hC.below ag;have j:=(Aa d).below ag;refine (DI j av s aA aB 1 t.num ⟨#[]⟩ lo o).mono ?_;rintro r aj ⟨rfl,ak,al,K,L,i,A,C⟩;rw[Aa ai] at i;have af:=Ab (show NB B O (.slice (some ⟨aC,0,none⟩) T.length c) N (BI (Pt.int t.at_ t.num).ex N.length) P (CX (Pt.int t.at_ t.num).ex) nd f W X w (.returned (.int .i64 ((N.length+ [(⟨1,t.num,⟨#[]⟩, [], []⟩:Nd)].length - 1 :Nat):Int))) aj from ⟨rfl,ak,al,K,L,i,m.trans A,AM C ag.size⟩);clear i A C m s j ae aw q2 q3 a4;dsimp only;go_wp2_with fail
     go_ret
     exact Aa af
    | @text t ht=>
     obtain ⟨_,b,Z,aO⟩:=AB ab Y;have aA:N.length+1≤65535:=ap;have aB:P.length+1≤65535:=aq;have ai:=Ab b;have aE:=Ab (show see AX T[lo]=false from by rw[b];exact Av (by omega) (by omega));have aJ:=Ab (show see AD T[lo]=false from by rw[b];exact Av (by omega) (by omega));have aU:=Ab (show see BO T[lo]=false from by rw[b];exact Av (by omega) (by omega));have a0:=Ab (show see BV T[lo]=false from by rw[b];exact Av (by omega) (by omega));have aG:=ht;clear Y Z ht ap aq;go_wp2_with fail
     refine (Bj (Aa d) y lo o AX false (Aa aE)).mono ?_;rintro r a5 ⟨rfl,a⟩;have z:=y.trans (a.mono y.size);clear a y;dsimp only;go_wp2_with fail
     refine (Bj (Aa d) z lo o AD false (Aa aJ)).mono ?_;rintro r bk ⟨rfl,a⟩;have J:=z.trans (a.mono z.size);clear a z;dsimp only;go_wp2_with fail
     refine (Bj (Aa d) J lo o BO false (Aa aU)).mono ?_;rintro r bq ⟨rfl,a⟩;have U:=J.trans (a.mono J.size);clear a J;dsimp only;go_wp2_with fail
     refine (Bj (Aa d) U lo o BV false (Aa a0)).mono ?_;rintro r a3 ⟨rfl,a⟩;have E:=U.trans (a.mono U.size);clear a U;dsimp only;have m:Nk B O nd f w nd f a3:=Nk.of_all E (by have:=hC.row.lt;have:=hC.low;omega);have s:=hC.below E;have j:=(Aa d).below E;obtain ⟨ae,aw,q2,q3⟩:=j.at4 lo o;have a4:=j.at0;have b6:(lo:Int) < (T.length:Int):=by omega
     rw[b] at ae aw q2 q3;rw[aG] at ae;clear b aG m;go_wp2_with fail
     have ag:=E.alloc E.size (.cells #[.int .i64 2,.int .i64 t.num,.string t.text,.int .i64 (t.at_:Int)] 41);have m:Nk B O nd f w nd f _:=Nk.of_all ag (by have:=hC.row.lt;have:=hC.low;omega);have s:=hC.below ag;have j:=(Aa d).below ag;refine (DI j av s aA aB 2 0 t.text lo o).mono ?_;rintro r aj ⟨rfl,ak,al,K,L,i,A,C⟩;rw[Aa ai] at i;have af:=Ab (show NB B O (.slice (some ⟨aC,0,none⟩) T.length c) N (BI (Pt.text t.at_ t.text).ex N.length) P (CX (Pt.text t.at_ t.text).ex) nd f W X w (.returned (.int .i64 ((N.length+ [(⟨2,0,t.text, [], []⟩:Nd)].length - 1 :Nat):Int))) aj from ⟨rfl,ak,al,K,L,i,m.trans A,AM C ag.size⟩);clear i A C m s j ae aw q2 q3 a4;dsimp only;go_wp2_with fail
     go_ret
     exact Aa af
    | @name t ht=>
     obtain ⟨_,b,Z,aO⟩:=AB ab Y;have aA:N.length+1≤65535:=ap;have aB:P.length+1≤65535:=aq;have ai:=Ab b;have aE:=Ab (show see AX T[lo]=false from by rw[b];exact Av (by omega) (by omega));have aJ:=Ab (show see AD T[lo]=false from by rw[b];exact Av (by omega) (by omega));have aU:=Ab (show see BO T[lo]=false from by rw[b];exact Av (by omega) (by omega));have a0:=Ab (show see BV T[lo]=false from by rw[b];exact Av (by omega) (by omega));have aG:=ht;clear Y Z ht ap aq;go_wp2_with fail
     refine (Bj (Aa d) y lo o AX false (Aa aE)).mono ?_;rintro r a5 ⟨rfl,a⟩;have z:=y.trans (a.mono y.size);clear a y;dsimp only;go_wp2_with fail
     refine (Bj (Aa d) z lo o AD false (Aa aJ)).mono ?_;rintro r bk ⟨rfl,a⟩;have J:=z.trans (a.mono z.size);clear a z;dsimp only;go_wp2_with fail
     refine (Bj (Aa d) J lo o BO false (Aa aU)).mono ?_;rintro r bq ⟨rfl,a⟩;have U:=J.trans (a.mono J.size);clear a J;dsimp only;go_wp2_with fail
     refine (Bj (Aa d) U lo o BV false (Aa a0)).mono ?_;rintro r a3 ⟨rfl,a⟩;have E:=U.trans (a.mono U.size);clear a U;dsimp only;have m:Nk B O nd f w nd f a3:=Nk.of_all E (by have:=hC.row.lt;have:=hC.low;omega);have s:=hC.below E;have j:=(Aa d).below E;obtain ⟨ae,aw,q2,q3⟩:=j.at4 lo o;have a4:=j.at0;have b6:(lo:Int) < (T.length:Int):=by omega
     rw[b] at ae aw q2 q3;rw[aG] at ae;clear b aG m;go_wp2_with fail
     have ag:=E.alloc E.size (.cells #[.int .i64 3,.int .i64 t.num,.string t.text,.int .i64 (t.at_:Int)] 41);have m:Nk B O nd f w nd f _:=Nk.of_all ag (by have:=hC.row.lt;have:=hC.low;omega);have s:=hC.below ag;have j:=(Aa d).below ag;refine (DI j av s aA aB 5 0 t.text lo o).mono ?_;rintro r aj ⟨rfl,ak,al,K,L,i,A,C⟩;rw[Aa ai] at i;have af:=Ab (show NB B O (.slice (some ⟨aC,0,none⟩) T.length c) N (BI (Pt.name t.at_ t.text).ex N.length) P (CX (Pt.name t.at_ t.text).ex) nd f W X w (.returned (.int .i64 ((N.length+ [(⟨5,0,t.text, [], []⟩:Nd)].length - 1 :Nat):Int))) aj from ⟨rfl,ak,al,K,L,i,m.trans A,AM C ag.size⟩);clear i A C m s j ae aw q2 q3 a4;dsimp only;go_wp2_with fail
     go_ret
     exact Aa af
    | @tru t ht=>
     obtain ⟨_,b,Z,aO⟩:=AB ab Y;have aA:N.length+1≤65535:=ap;have aB:P.length+1≤65535:=aq;have ai:=Ab b;have aE:=Ab (show see AX T[lo]=false from by rw[b];exact Ag ht (by decide));have aJ:=Ab (show see AD T[lo]=false from by rw[b];exact Ag ht (by decide));have aU:=Ab (show see BO T[lo]=false from by rw[b];exact Ag ht (by decide));have a0:=Ab (show see BV T[lo]=false from by rw[b];exact Ag ht (by decide));have hkd:=FR ht;have aG:t.text=⟨#[116,114,117,101]⟩:=Kt ht;clear Y Z ht ap aq;go_wp2_with fail
     refine (Bj (Aa d) y lo o AX false (Aa aE)).mono ?_;rintro r a5 ⟨rfl,a⟩;have z:=y.trans (a.mono y.size);clear a y;dsimp only;go_wp2_with fail
     refine (Bj (Aa d) z lo o AD false (Aa aJ)).mono ?_;rintro r bk ⟨rfl,a⟩;have J:=z.trans (a.mono z.size);clear a z;dsimp only;go_wp2_with fail
     refine (Bj (Aa d) J lo o BO false (Aa aU)).mono ?_;rintro r bq ⟨rfl,a⟩;have U:=J.trans (a.mono J.size);clear a J;dsimp only;go_wp2_with fail
     refine (Bj (Aa d) U lo o BV false (Aa a0)).mono ?_;rintro r a3 ⟨rfl,a⟩;have E:=U.trans (a.mono U.size);clear a U;dsimp only;have m:Nk B O nd f w nd f a3:=Nk.of_all E (by have:=hC.row.lt;have:=hC.low;omega);have s:=hC.below E;have j:=(Aa d).below E;obtain ⟨ae,aw,q2,q3⟩:=j.at4 lo o;have a4:=j.at0;have b6:(lo:Int) < (T.length:Int):=by omega
     rw[b] at ae aw q2 q3;rw[aG] at q2;rcases hkd with hkd | hkd
     ·rw[hkd] at ae;clear hkd;clear b aG m;go_wp2_with fail
      have ag:=E.alloc E.size (.cells #[.int .i64 4,.int .i64 t.num,.string ⟨#[116,114,117,101]⟩,.int .i64 (t.at_:Int)] 41);have az:=ag.alloc ag.size (.cells #[.int .i64 3,.int .i64 1,.string ⟨#[]⟩,.slice none 0 0,.slice none 0 0] 114);have m:Nk B O nd f w nd f _:=Nk.of_all az (by have:=hC.row.lt;have:=hC.low;omega);have s:=hC.below az;have j:=(Aa d).below az;refine (DI j av s aA aB 3 1 ⟨#[]⟩ lo o).mono ?_;rintro r aj ⟨rfl,ak,al,K,L,i,A,C⟩;rw[Aa ai] at i;have af:=Ab (show NB B O (.slice (some ⟨aC,0,none⟩) T.length c) N (BI (Pt.bool t.at_ true).ex N.length) P (CX (Pt.bool t.at_ true).ex) nd f W X w (.returned (.int .i64 ((N.length+ [(⟨3,1,⟨#[]⟩, [], []⟩:Nd)].length - 1 :Nat):Int))) aj from ⟨rfl,ak,al,K,L,i,m.trans A,AM C az.size⟩);clear i A C m s j ae aw q2 q3 a4;dsimp only;go_wp2_with fail
      go_ret
      exact Aa af
     ·rw[hkd] at ae;clear hkd;clear b aG m;go_wp2_with fail
      have ag:=E.alloc E.size (.cells #[.int .i64 5,.int .i64 t.num,.string ⟨#[116,114,117,101]⟩,.int .i64 (t.at_:Int)] 41);have az:=ag.alloc ag.size (.cells #[.int .i64 3,.int .i64 1,.string ⟨#[]⟩,.slice none 0 0,.slice none 0 0] 114);have m:Nk B O nd f w nd f _:=Nk.of_all az (by have:=hC.row.lt;have:=hC.low;omega);have s:=hC.below az;have j:=(Aa d).below az;refine (DI j av s aA aB 3 1 ⟨#[]⟩ lo o).mono ?_;rintro r aj ⟨rfl,ak,al,K,L,i,A,C⟩;rw[Aa ai] at i;have af:=Ab (show NB B O (.slice (some ⟨aC,0,none⟩) T.length c) N (BI (Pt.bool t.at_ true).ex N.length) P (CX (Pt.bool t.at_ true).ex) nd f W X w (.returned (.int .i64 ((N.length+ [(⟨3,1,⟨#[]⟩, [], []⟩:Nd)].length - 1 :Nat):Int))) aj from ⟨rfl,ak,al,K,L,i,m.trans A,AM C az.size⟩);clear i A C m s j ae aw q2 q3 a4;dsimp only;go_wp2_with fail
      go_ret
      exact Aa af
    | @fls t ht=>
     obtain ⟨_,b,Z,aO⟩:=AB ab Y;have aA:N.length+1≤65535:=ap;have aB:P.length+1≤65535:=aq;have ai:=Ab b;have aE:=Ab (show see AX T[lo]=false from by rw[b];exact Ag ht (by decide));have aJ:=Ab (show see AD T[lo]=false from by rw[b];exact Ag ht (by decide));have aU:=Ab (show see BO T[lo]=false from by rw[b];exact Ag ht (by decide));have a0:=Ab (show see BV T[lo]=false from by rw[b];exact Ag ht (by decide));have hkd:=FR ht;have aG:t.text=⟨#[102,97,108,115,101]⟩:=Kt ht;clear Y Z ht ap aq;go_wp2_with fail
     refine (Bj (Aa d) y lo o AX false (Aa aE)).mono ?_;rintro r a5 ⟨rfl,a⟩;have z:=y.trans (a.mono y.size);clear a y;dsimp only;go_wp2_with fail
     refine (Bj (Aa d) z lo o AD false (Aa aJ)).mono ?_;rintro r bk ⟨rfl,a⟩;have J:=z.trans (a.mono z.size);clear a z;dsimp only;go_wp2_with fail
     refine (Bj (Aa d) J lo o BO false (Aa aU)).mono ?_;rintro r bq ⟨rfl,a⟩;have U:=J.trans (a.mono J.size);clear a J;dsimp only;go_wp2_with fail
     refine (Bj (Aa d) U lo o BV false (Aa a0)).mono ?_;rintro r a3 ⟨rfl,a⟩;have E:=U.trans (a.mono U.size);clear a U;dsimp only;have m:Nk B O nd f w nd f a3:=Nk.of_all E (by have:=hC.row.lt;have:=hC.low;omega);have s:=hC.below E;have j:=(Aa d).below E;obtain ⟨ae,aw,q2,q3⟩:=j.at4 lo o;have a4:=j.at0;have b6:(lo:Int) < (T.length:Int):=by omega
     rw[b] at ae aw q2 q3;rw[aG] at q2;rcases hkd with hkd | hkd
     ·rw[hkd] at ae;clear hkd;clear b aG m;go_wp2_with fail
      have ag:=E.alloc E.size (.cells #[.int .i64 4,.int .i64 t.num,.string ⟨#[102,97,108,115,101]⟩,.int .i64 (t.at_:Int)] 41);have az:=ag.alloc ag.size (.cells #[.int .i64 3,.int .i64 0,.string ⟨#[]⟩,.slice none 0 0,.slice none 0 0] 114);have m:Nk B O nd f w nd f _:=Nk.of_all az (by have:=hC.row.lt;have:=hC.low;omega);have s:=hC.below az;have j:=(Aa d).below az;refine (DI j av s aA aB 3 0 ⟨#[]⟩ lo o).mono ?_;rintro r aj ⟨rfl,ak,al,K,L,i,A,C⟩;rw[Aa ai] at i;have af:=Ab (show NB B O (.slice (some ⟨aC,0,none⟩) T.length c) N (BI (Pt.bool t.at_ false).ex N.length) P (CX (Pt.bool t.at_ false).ex) nd f W X w (.returned (.int .i64 ((N.length+ [(⟨3,0,⟨#[]⟩, [], []⟩:Nd)].length - 1 :Nat):Int))) aj from ⟨rfl,ak,al,K,L,i,m.trans A,AM C az.size⟩);clear i A C m s j ae aw q2 q3 a4;dsimp only;go_wp2_with fail
      go_ret
      exact Aa af
     ·rw[hkd] at ae;clear hkd;clear b aG m;go_wp2_with fail
      have ag:=E.alloc E.size (.cells #[.int .i64 5,.int .i64 t.num,.string ⟨#[102,97,108,115,101]⟩,.int .i64 (t.at_:Int)] 41);have az:=ag.alloc ag.size (.cells #[.int .i64 3,.int .i64 0,.string ⟨#[]⟩,.slice none 0 0,.slice none 0 0] 114);have m:Nk B O nd f w nd f _:=Nk.of_all az (by have:=hC.row.lt;have:=hC.low;omega);have s:=hC.below az;have j:=(Aa d).below az;refine (DI j av s aA aB 3 0 ⟨#[]⟩ lo o).mono ?_;rintro r aj ⟨rfl,ak,al,K,L,i,A,C⟩;rw[Aa ai] at i;have af:=Ab (show NB B O (.slice (some ⟨aC,0,none⟩) T.length c) N (BI (Pt.bool t.at_ false).ex N.length) P (CX (Pt.bool t.at_ false).ex) nd f W X w (.returned (.int .i64 ((N.length+ [(⟨3,0,⟨#[]⟩, [], []⟩:Nd)].length - 1 :Nat):Int))) aj from ⟨rfl,ak,al,K,L,i,m.trans A,AM C az.size⟩);clear i A C m s j ae aw q2 q3 a4;dsimp only;go_wp2_with fail
      go_ret
      exact Aa af
end Go.Proofs.YtdldimphcpojoaaGreatDoor
