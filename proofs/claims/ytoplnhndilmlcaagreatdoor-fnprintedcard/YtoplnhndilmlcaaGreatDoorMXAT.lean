/-
  LTU, LTV. Own work.
-/
import Derived.Test.YtoplnhndilmlcaaGreatDoorLTQ
import Derived.Test.YtoplnhndilmlcaaGreatDoorLTI
import Derived.Test.YtoplnhndilmlcaaGreatDoorLTM
import Derived.Test.YtoplnhndilmlcaaGreatDoorMXAS
import Derived.Test.YtoplnhndilmlcaaGreatDoorQT
import Derived.Test.YtoplnhndilmlcaaGreatDoorMXBC
import Derived.Test.YtoplnhndilmlcaaGreatDoorMXBB
namespace Go.Proofs.YtoplnhndilmlcaaGreatDoor
set_option maxRecDepth 100000
set_option maxHeartbeats 1600000
open Go.RowKit
set_option linter.unusedVariables false
def Acn (zs:List Int) (w:World) (r:Ending) (w':World):Prop:=
 ∃ a1 n1 c1 a2 n2 c2 N S,r= .returned (.agg #[.slice a1 n1 c1,.slice a2 n2 c2])∧Hid (Nb zs N S)∧YX w.heap.size w' a1 n1 c1 N∧Zp w.heap.size w' a2 n2 c2 S∧(∀ x∈N,x.num≤9223372036854775807)∧Below w.heap.size w w'
theorem QO {w:World}{lo0 lo c1 c2:Nat}{c d:Option Addr}{N:List Nd}{S:List St}{f g:List Value}(a:A6 w lo (.slice c N.length c1) N f g)(i:w.ownsRow lo 51 4 (.slice d S.length c2) S.length (AR S))(ok:∀ x∈N,Sl x)(l:∀ s∈S,s.name.size≤1048576)(n:N.length≤100000)(o:S.length≤700)(b:lo0≤lo):YX lo0 w c N.length c1 N∧Zp lo0 w d S.length c2 S:=
 ⟨LU a.own b rfl a.len a.lenk (by omega) (fun x hx=>Nat.le_trans (ok x hx).2.1 (by decide)) (fun p m j h h1 h2=>(a.blocks (fun k hk _=>m k (Nat.le_trans b hk))).vw (fun x hx=>(ok x hx).1) j h h1 h2),LV i b rfl (by omega) l⟩
theorem Uy {X:World}{lo a:Nat}{nd d v0 v1:Value}{N:List Nd}{S:List St}{f g:List Value}{cs:Array Value}(C:A6 X lo nd N f g)(P:X.ownsRow lo 51 4 d S.length (AR S))(Z:Aj X a cs 26):A6 ((X.setCell ⟨a,0,none⟩ v0).setCell ⟨a,1,none⟩ v1) lo nd N f g∧((X.setCell ⟨a,0,none⟩ v0).setCell ⟨a,1,none⟩ v1).ownsRow lo 51 4 d S.length (AR S):=by
 have i:∀ q,q≠a→((X.setCell ⟨a,0,none⟩ v0).setCell ⟨a,1,none⟩ v1).heap[q]? =X.heap[q]? :=fun q h=>by
  rw[heap_setCell_other _ _ q _ h,heap_setCell_other _ _ q _ h]
 have c:∀ {t size k:Nat} {v:Value} {l:List Value},X.ownsRow lo t size v k l→26≠t→∀ q,v.ownBlock=some q→((X.setCell ⟨a,0,none⟩ v0).setCell ⟨a,1,none⟩ v1).heap[q]? =X.heap[q]? :=fun m n q hq=>i q (fun e=>Ad Z m n (by rw[hq,e]));exact ⟨C.upto (fun q hq=>c C.own (by decide) q hq) (fun j b q hq=>c (C.names j (by rw[← C.len];exact b) b) (by decide) q hq) (fun j b q hq=>c (C.kids j (by rw[← C.lenk];exact b) b) (by decide) q hq),Ac P (fun q hq=>c P (by decide) q hq)⟩
theorem Zx (a:Option Addr)(n c:Nat)(zs:List Int)(w:World)(h:Ed w a n c zs)(ay:n≤1048576):
  Calls Tryz.prog 10 #[.slice a n c] w fun r w'=>Acn zs w r w':=by
 have az:=Aj.new w #[.slice none 0 0,.slice none 0 0] 26;have al:=(Below.refl w.heap.size w).alloc NLN (.cells #[.slice none 0 0,.slice none 0 0] 26);have aA:(w.alloc (.cells #[.slice none 0 0,.slice none 0 0] 26)).heap.size=w.heap.size+1:=by simp
 have aB:=h.below al NLN;have h1:=H6.new aB ay;have ad:=al.alloc (by simp) (.cells #[.slice a n c,.int .i64 0] 63);have ae:=az.alloc (.cells #[.slice a n c,.int .i64 0] 63);have aC:w.heap.size+1 < ((w.alloc (.cells #[.slice none 0 0,.slice none 0 0] 26)).alloc (.cells #[.slice a n c,.int .i64 0] 63)).heap.size:=by simp
 rw[aA] at h1;have O:=Ab h;clear az al aB aA h;go_enter Tryz.func10,Tryz.ntmps10
 go_wp2_with fail
 generalize (w.alloc (.cells #[.slice none 0 0,.slice none 0 0] 26)).alloc (.cells #[.slice a n c,.int .i64 0] 63)=aT at h1 ad ae aC ⊢;refine (Cd (w.heap.size+1) a n c zs 0 aT h1).mono ?_;rintro e m ⟨y,aD,rfl,P,a4,a5,h2,af⟩;have o:=Fd ad af (by omega) ad.size;have ag:Aj m w.heap.size #[.slice none 0 0,.slice none 0 0] 26:=⟨(af.block _ ae.lt (.inl (by omega))).trans ae.out⟩
 have a6:w.heap.size+1 < m.heap.size:=by have:=af.size;omega
 clear h1 af ad ae aC;dsimp only;by_cases E: 250≤y
 ·obtain ⟨k,hk⟩:=Int.eq_ofNat_of_zero_le (show 0≤y - 250 by omega);have F:k≤5:=by omega
  have aU:=Ab (show Nb zs=QN k by
   funext N S
   have e1:(nx zs 0).1=y:=by rw[Aa P]
   rw[Nb,if_pos (by rw[e1];exact E),e1,hk];rfl)
  have aV: ¬ (y < 250):=by omega
  have aW:(250 :Int)≤y:=E;clear E O h2 P;go_wp2_with fail
  refine (Zo k F m).mono ?_;rintro r aX ⟨⟨nd,aY,N,S,aE,aF,rfl,ah,s,l,ok,t,Q,U⟩,b3⟩;obtain ⟨d,c1,rfl,-⟩:=Af s.own;obtain ⟨f,c2,rfl,-⟩:=Af l;have g:=ag.after b3 NLN;have H:=o.trans (b3.mono o.size);have aG:=g.cell 0;have d1:=g.cell 1;have aH:=g.frozen 0;have f1:=g.frozen 1;have I:=(H.setCell (p:=⟨w.heap.size,0,none⟩) NLN (.slice d N.length c1)).setCell (p:=⟨w.heap.size,1,none⟩) NLN (.slice f S.length c2);have V:=(g.set 0 (.slice d N.length c1)).set 1 (.slice f S.length c2);obtain ⟨aI,aJ⟩:=Uy (v0:= .slice d N.length c1) (v1:= .slice f S.length c2) s l g;have W:=Ab (And.intro (QO (lo0:=w.heap.size) aI aJ ok t Q U (by omega)) (And.intro (show ∀ x∈N,x.num≤9223372036854775807 from fun x hx=>(ok x hx).2.2.1) (And.intro I V)));clear aI aJ ok t Q U I V s l g H b3 ag o;dsimp only;go_wp2_with fail
  obtain ⟨⟨e1,e2⟩,e3,e4,e5⟩:=Aa W;exact bodyPost_ret (Fv Tryz.results10 rfl e5) rfl ⟨d,_,c1,f,_,c2,N,S,rfl,Ab (by rw[Aa aU];exact Aa ah),e1,e2,e3,e4⟩
 ·have aV:y < 250:=by omega
  have aW: ¬ ((250 :Int)≤y):=E;have aZ:IntKind.i64.wrap ((n:Int).tdiv 2)=((n / 2 :Nat):Int):=by
   rw[Int.tdiv_eq_ediv_of_nonneg (by omega)];simp[IntKind.wrap,IntKind.bits,IntKind.signed];omega
  have u:=AbP ((Aa O).below o NLN) ay (n / 2) (by omega);have v:=(Below.refl m.heap.size m).alloc NLN (.cells #[.slice a n c,.int .i64 ((n / 2 :Nat):Int)] 63);have h3:=h2.after v h2.lt;have g:=ag.after v NLN;have H:=o.trans (v.mono o.size);have ao: 0 < n→∀ q,a=some q→q.block < w.heap.size+1:=fun h0 q hq=>by
   obtain ⟨b,J,z,aK,_⟩:=(Aa O).cells 0 h0;rw[hq] at z;have:=Option.some.inj z;rw[this];show b < _;omega
  have aL:=fun (j:Nat) (ap:j < n) (b J:Nat) (z:a=some (⟨b,J,none⟩:Addr))=>ao (by omega) _ z;have ai:((n / 2 :Nat):Int)=(n:Int) / 2:=by omega
  have aM:=Ab (show ∀ N S M T,M7 zs (y % 4== 3) aD M T→(if y % 5=4 then (N,S)=Iq zs (n / 2) M T else N=M∧S=T)→Nb zs N S from fun N S M T h1 h2=>by
   have e1:(nx zs 0).1=y:=by rw[Aa P]
   have e2:(nx zs 0).2=aD:=by rw[Aa P]
   rw[Nb,e1,e2,if_neg E];refine ⟨M,T,h1, ?_⟩;rw[← (Aa O).len];exact h2)
  rw[ai] at v;have F:=u.row;clear E P;go_wp2_with fail
  rw[← ai];rw[← ai] at v;generalize m.alloc (.cells #[.slice a n c,.int .i64 ((n / 2 :Nat):Int)] 63)=aX at u F h3 g H v ⊢;have a7:=F.lt;refine (XA (B:=w.heap.size+1) (R:=w.heap.size+1) h3 NLN ao (y % 4== 3)).mono ?_;rintro r A ⟨⟨nd,aY,M,T,aE,aF,rfl,ah,s,l,ok,t,Q,U⟩,b4⟩;obtain ⟨d,c1,rfl,-⟩:=Af s.own;obtain ⟨f,c2,rfl,-⟩:=Af l;have h4:H6 A m.heap.size a n c zs (n / 2):=⟨b4.rd _ _ (by omega) F,u.len,u.le,u.small,fun j ap=>by
   obtain ⟨b,J,z,aK,hc,a0⟩:=u.cells j ap;exact ⟨b,J,z,aK,(b4.low.cell (p:=⟨b,J+j,none⟩) (aL j ap b J z)).trans hc,a0⟩⟩
  have V:=g.below b4.low (Nat.lt_succ_self _);have I:=H.trans (b4.low.mono (Nat.le_succ _));have a8:=b4.low.size;clear h3 u F g H v b4 ag o h2 ao aL aZ ai O;have C:=(Below.refl A.heap.size A).alloc NLN (.cells #[.slice d M.length c1,.slice f T.length c2] 26);have aN:=Aj.new A #[.slice d M.length c1,.slice f T.length c2] 26;have X:=s.blocks (w':=A.alloc (.cells #[.slice d M.length c1,.slice f T.length c2] 26)) (fun k _ hk=>C.block k hk);have Y:=Ac (w':=A.alloc (.cells #[.slice d M.length c1,.slice f T.length c2] 26)) l (fun q hq=>C.block q (l.lt q hq).2);have h5:=h4.after C h4.lt;have i:=V.after C NLN;have K:=I.trans (C.mono I.size);have a9:=aN.cell 0;have ba:=aN.cell 1;have a3:=C.size;clear s l h4 V I;dsimp only;by_cases c5:y % 5=4
  ·have q5:(y % 5== 4)=true:=beq_iff_eq.2 c5;have aq:=Ab c5;clear c5;go_wp2_with fail
   generalize A.alloc (.cells #[.slice d M.length c1,.slice f T.length c2] 26)=bb at C X Y h5 i K a3 ⊢;refine (Zr h5 M aE aF d c1 X T f c2 Y ok t (by omega) (by omega) (by omega)).mono ?_;rintro r ar ⟨Z,aa,a1,aj,a2,ak,rfl,aO,e1,e2,au⟩;have L:Aj ar w.heap.size #[.slice none 0 0,.slice none 0 0] 26:=⟨(au.block _ i.lt (.inl (by omega))).trans i.out⟩
   have aP:=Fd K au (by omega) K.size;have aG:=L.cell 0;have d1:=L.cell 1;have aH:=L.frozen 0;have f1:=L.frozen 1;have ab:=(aP.setCell (p:=⟨w.heap.size,0,none⟩) NLN (.slice a1 Z.length aj)).setCell (p:=⟨w.heap.size,1,none⟩) NLN (.slice a2 aa.length ak);have ac:=(L.set 0 (.slice a1 Z.length aj)).set 1 (.slice a2 aa.length ak);have av:∀ q,w.heap.size+1≤q→((ar.setCell ⟨w.heap.size,0,none⟩ (.slice a1 Z.length aj)).setCell ⟨w.heap.size,1,none⟩ (.slice a2 aa.length ak)).heap[q]? =ar.heap[q]? :=fun q hq=>by
    have aQ:q≠w.heap.size:=by omega
    rw[heap_setCell_other _ _ q _ aQ,heap_setCell_other _ _ q _ aQ]
   have W:=Ab (And.intro (And.intro (show YX w.heap.size _ _ _ _ _ from fun aw ax=>e1 aw (fun q hq=>(ax q (by omega)).trans (av q hq))) (show Zp w.heap.size _ _ _ _ _ from fun aw ax=>e2 aw (fun q hq=>(ax q (by omega)).trans (av q hq)))) (And.intro (XG (Aa aO) (fun x hx=>(ok x hx).2.2.1)) (And.intro ab ac)));clear e1 e2 ab ac aP L au av ok t Q U X Y h5 i K;dsimp only;go_wp2_with fail
   obtain ⟨⟨e1,e2⟩,e3,e4,e5⟩:=Aa W;exact bodyPost_ret (Fv Tryz.results10 rfl e5) rfl ⟨a1,_,aj,a2,_,ak,Z,aa,rfl,Ab (Aa aM Z aa M T (Aa ah) (by rw[if_pos (Aa aq)];exact Aa aO)),e1,e2,e3,e4⟩
  ·have q5:(y % 5== 4)=false:=beq_eq_false_iff_ne.2 c5;have aq:=Ab c5;clear c5;have aG:=i.cell 0;have d1:=i.cell 1;have aH:=i.frozen 0;have f1:=i.frozen 1;have ab:=(K.setCell (p:=⟨w.heap.size,0,none⟩) NLN (.slice d M.length c1)).setCell (p:=⟨w.heap.size,1,none⟩) NLN (.slice f T.length c2);have ac:=(i.set 0 (.slice d M.length c1)).set 1 (.slice f T.length c2);obtain ⟨aR,aS⟩:=Uy (v0:= .slice d M.length c1) (v1:= .slice f T.length c2) X Y i;have W:=Ab (And.intro (QO (lo0:=w.heap.size) aR aS ok t (by omega) (by omega) (by omega)) (And.intro (show ∀ x∈M,x.num≤9223372036854775807 from fun x hx=>(ok x hx).2.2.1) (And.intro ab ac)));clear ab ac aR aS ok t Q U X Y h5 i K;go_wp2_with fail
   obtain ⟨⟨e1,e2⟩,e3,e4,e5⟩:=Aa W;exact bodyPost_ret (Fv Tryz.results10 rfl e5) rfl ⟨d,_,c1,f,_,c2,M,T,rfl,Ab (Aa aM M T M T (Aa ah) (by rw[if_neg (Aa aq)];exact ⟨rfl,rfl⟩)),e1,e2,e3,e4⟩
set_option maxHeartbeats 12800000
theorem Kh (a:Option Addr)(n c:Nat)(zs:List Int)(w:World)(h:Ed w a n c zs)(v:n≤1048576):
  Calls Tryz.prog 4 #[.slice a n c] w fun r w'=>∃ a1 d c1 a2 f c2 N S,r= .returned (.agg #[.slice a1 d c1,.slice a2 f c2])∧Hid (Nb zs N S)∧Fe w' a1 d c1 N∧KU w' a2 f c2 S∧(∀ x∈N,x.num≤9223372036854775807)∧Below w.heap.size w w':=by
 have j:=Aj.new w #[.slice none 0 0,.slice none 0 0] 26;have i:=(Below.refl w.heap.size w).alloc NLN (.cells #[.slice none 0 0,.slice none 0 0] 26);have y:(w.alloc (.cells #[.slice none 0 0,.slice none 0 0] 26)).heap.size=w.heap.size+1:=by simp
 have h0:=h.below i NLN;go_enter Tryz.func4,Tryz.ntmps4
 go_wp2_with fail
 generalize w.alloc (.cells #[.slice none 0 0,.slice none 0 0] 26)=l at j i y h0 ⊢;refine (Zx a n c zs l h0 v).mono ?_;rintro r m ⟨a1,d,c1,a2,f,c2,N,S,rfl,X,h1,h2,h3,b⟩;have g:=j.after b NLN;have o:=i.trans (b.mono (by omega));have A:=g.cell 0;have d1:=g.cell 1;have B:=g.frozen 0;have f1:=g.frozen 1;have s:=(o.setCell (p:=⟨w.heap.size,0,none⟩) NLN (.slice a1 d c1)).setCell (p:=⟨w.heap.size,1,none⟩) NLN (.slice a2 f c2);have t:=(g.set 0 (.slice a1 d c1)).set 1 (.slice a2 f c2);have k:∀ q,l.heap.size≤q→((m.setCell ⟨w.heap.size,0,none⟩ (.slice a1 d c1)).setCell ⟨w.heap.size,1,none⟩ (.slice a2 f c2)).heap[q]? =m.heap[q]? :=fun q hq=>by
  have u:q≠w.heap.size:=by omega
  rw[heap_setCell_other _ _ q _ u,heap_setCell_other _ _ q _ u]
 have z:=Ab (And.intro (h1 _ k) (And.intro (h2 _ k) (And.intro s t)));clear h1 h2 s t k g o b j i h0 h;dsimp only;go_wp2_with fail
 obtain ⟨e1,e2,e3,e4⟩:=Aa z;exact bodyPost_ret (Fv Tryz.results4 rfl e4) rfl ⟨a1,d,c1,a2,f,c2,N,S,rfl,X,e1,e2,h3,e3⟩
theorem LZ {a1 a2 a3 a4 a5 a6:Addr}(a:Option Addr)(n c:Nat)(zs:List Int)(w:World)(h:Ed w a n c zs)(S:YU w a1 a2 a3 a4 a5 a6)(aO:Cw w)(aP:QP w):
  Calls Tryz.prog 3 #[.slice a n c] w fun e w'=>e= .returned (.bool true)∧Below w.heap.size w w':=by
 by_cases bB: 1048576 < n
 ·have bC:(1048576 :Int) < (n:Int):=by omega
  go_enter Tryz.func3,Tryz.ntmps3
  go_wp2_with fail
  go_ret
  exact ⟨rfl,BRN⟩
 have bC: ¬ ((1048576 :Int) < (n:Int)):=by omega
 have aQ:n≤1048576:=by omega
 clear bB;have aR:=Ab (fun (aS:World) (V:Below w.heap.size w aS) (t:ByteArray) (x:QR) (d:DP (AW t).toks x)=>ST t x d aS (S.below V));have ak:=Ab (And.intro aO aP);have aT:=Ab h;clear S aO aP;go_enter Tryz.func3,Tryz.ntmps3
 go_wp2_with fail
 refine (Kh a n c zs w h aQ).mono ?_;rintro r W ⟨B,al,c1,E,ao,d1,N,L,rfl,aU,aV,aW,u1,aX⟩;have X:=(Below.refl W.heap.size W).alloc NLN (.cells #[.slice B al c1,.slice E ao d1] 26);have ap:=Aj.new W #[.slice B al c1,.slice E ao d1] 26;have Y:=aV.below X NLN;have Z:=aW.below X NLN;have H:=aX.trans (X.mono aX.size);clear aV aW h X;dsimp only;generalize V:W.alloc (.cells #[.slice B al c1,.slice E ao d1] 26)=bD at ap Y Z H;have aY:=Ab V;clear V;have aa:=Ab u1;clear u1;go_wp2_with fail
 rw[Aa aY];clear aY;refine (Kh a n c zs bD ((Aa aT).below H NLN) aQ).mono ?_;rintro r bE ⟨bF,bG,c3,bH,bI,d3,f,l,rfl,aZ,a0,a7,u3,I⟩;obtain ⟨e1,e2⟩:=(Aa aZ).unique (Aa aU);subst e1 e2;clear aU aZ aT u3;obtain rfl:=Y.len;obtain rfl:=Z.len;have a8:=Y.below I NLN;have a9:=Z.below I NLN;have ba:=ap.after I NLN;have J:=H.trans (I.mono H.size);clear Y Z ap H I;dsimp only;go_wp2_with fail
 refine (Th bF bH bG c3 bI d3 _ _ bE a0 a7 ((Aa ak).1.below J NLN) ((Aa ak).2.below J NLN) (Aa aa)).mono ?_;rintro r bJ ⟨⟨s,rfl,bb⟩,b5⟩;have aq:=a8.below b5 NLN;have ar:=a9.below b5 NLN;have ab:=ba.after b5 NLN;have au:=J.trans (b5.mono J.size);clear a8 a9 ba J b5 a0 a7;have p:=ab.cell 0;have q:=ab.cell 1;have av:=Ab bb;clear bb;dsimp only;go_wp2_with fail
 refine (Ti B E _ c1 _ d1 _ _ bJ aq ar (Aa aa)).mono ?_;rintro r bK ⟨⟨bL,rfl,bc⟩,K⟩;have hs:s=bL:=(Aa av).one bc;subst hs;clear bc;have aw:=aq.below K NLN;have ax:=ar.below K NLN;have ac:=ab.after K NLN;have ay:=au.trans (K.mono au.size);clear aq ar ab au K p q;have p:=ac.cell 0;have q:=ac.cell 1;dsimp only;go_wp2_with fail
 refine (FH B E _ c1 _ d1 _ _ bK aw ax).mono ?_;rintro r bM ⟨rfl,M⟩;have bd:=aw.below M NLN;have bf:=ax.below M NLN;have ad:=ac.after M NLN;have F:=ay.trans (M.mono ay.size);clear aw ax ac ay M p q;have p:=ad.cell 0;have q:=ad.cell 1;dsimp only;cases bg:Bs f l with
 | false=>
  go_wp2_with fail
  go_ret
  exact ⟨rfl,F⟩
 | true=>
  by_cases h4:s.size≤4000
  ·have bN: ¬ ((4000 :Int) < (s.size:Int)):=by omega
   obtain ⟨bh,d,P,az,C,bi,bj⟩:=Pn bg (Aa aa) (Aa av) h4;have g:=Vq s (.ok bh) d;rw[az] at g;have bk:=Ab az;have bl:=Ab d;have aA:=Ab (And.intro C (And.intro bi bj));have bm:=Ab g;clear az d C bi bj g bg h4;go_wp2_with fail
   refine (Aa aR bM F s (.ok bh) (Aa bl)).mono ?_;rw[Aa bk];rintro r o ⟨⟨nd,bY,bZ,b0,b1,rfl,ae,af,C,-⟩,aB⟩;obtain ⟨u,v,rfl,-⟩:=Af ae.own;obtain ⟨z,A,rfl,-⟩:=Af af;obtain ⟨bO,e8,rfl,-⟩:=Af C;dsimp only at ae af C ⊢;have g:=Aa bm;have b3:=g.2.2;have b4:=g.1.1;have b6:=g.2.1.1;have bn:Fe o u f.length v f:=ae.nds rfl (by omega) (fun x hx=>⟨(g.1.2 x hx).1,(g.1.2 x hx).2.1⟩);have bo:KU o z l.length A l:=GD af rfl (by omega) g.2.1.2;have bp:Do o bO P.length e8 P:=BN C rfl (by omega);have aC:=(Below.refl o.heap.size o).alloc NLN (.cells #[.slice u f.length v,.slice z l.length A] 26);have aD:=(Below.refl (o.alloc (.cells #[.slice u f.length v,.slice z l.length A] 26)).heap.size (o.alloc (.cells #[.slice u f.length v,.slice z l.length A] 26))).alloc NLN (.cells #[.int .i64 0,.int .i64 0] 32);have O:=aC.trans (aD.mono aC.size);have ag:=(Aj.new o #[.slice u f.length v,.slice z l.length A] 26).after aD NLN;have Q:=Aj.new (o.alloc (.cells #[.slice u f.length v,.slice z l.length A] 26)) #[.int .i64 0,.int .i64 0] 32;simp only[World.size_alloc] at Q;have aE:=bn.below O NLN;have aF:=bo.below O NLN;have aG:=bp.below O NLN;have R:=aB.trans (O.mono aB.size);have aH:=bd.below R NLN;have aI:=bf.below R NLN;have T:=ad.after R NLN;have ah:=F.trans (R.mono F.size);clear bn bo bp bd bf ad F aB aC aD O R ae af C g p q;have p:=T.cell 0;have q:=T.cell 1;have bP:=ag.cell 0;have bQ:=ag.cell 1;have bR:=Q.cell 0;have f1:=Q.cell 1;generalize bq:(o.alloc (.cells #[.slice u f.length v,.slice z l.length A] 26)).alloc (.cells #[.int .i64 0,.int .i64 0] 32)=bS at ag Q aE aF aG aH aI T ah;have br:=Ab bq;clear bq;go_wp2_with fail
   rw[Aa br];clear br p q bP bQ bR f1;refine (KG B u _ c1 v E z _ d1 A f l bS aH aE aI aF).mono ?_;rintro r ai ⟨rfl,aj⟩;have bs:=aG.below aj NLN;have aJ:=T.after aj NLN;have bt:=ah.trans (aj.mono ah.size);clear aH aE aI aF aG T ah aj ag Q;have p:=aJ.cell 0;have q:=aJ.cell 1;have bT:((P.length:Int) !=(f.length:Int))=false:=by rw[(Aa aA).1];simp
   have bu:=Ab bs;clear bs aR ak av bk bl aa bm;dsimp only;go_wp2_with fail
   clear p q aJ bT;go_loopw [56] (fun i wr=>∃ k:Nat,k≤P.length∧i= .int .i64 k∧Below ai.heap.size ai wr) (fun i _=>P.length - (intOf i).toNat)
   case atStart=>exact ⟨0,Nat.zero_le _,rfl,BRN⟩
   case round=>
    obtain ⟨k,hk,rfl,aK⟩:=hrel;by_cases U:k < P.length
    ·have b7:(k:Int) < (P.length:Int):=by omega
     obtain ⟨b,b8,bU,b9,bv⟩:=((Aa bu).below aK NLN).cells k U;have bw:=(Aa aA).2.2 P[k] (List.getElem_mem U);have bx:=Ab (show ∀ m,(h:m < P.length)→m < k→P[m]≠P[k] from fun m h hm=>List.pairwise_iff_getElem.1 (Aa aA).2.1 m k h U hm);subst bU;have bz:=Ab U;generalize hy:P[k]=y at bv bw bx;have ca: ¬ (y < 0):=by omega
     have B: ¬ ((s.size:Int)≤y):=by omega
     clear bw hy U;go_wp2_with fail
     generalize wr=cb at *;have cc:=bv;go_loopw [10] (fun j wr=>∃ m:Nat,m≤k∧j= .int .i64 m∧Below ai.heap.size ai wr) (fun j _=>k - (intOf j).toNat)
     case atStart=>exact ⟨0,Nat.zero_le _,rfl,aK⟩
     case round=>
      obtain ⟨m,hm,rfl,aL⟩:=hrel;by_cases aM:m < k
      ·have cd:(m:Int) < (k:Int):=by omega
       have ce:(m:Int) < (P.length:Int):=by omega
       have aN:m < P.length:=by omega
       obtain ⟨b2,cf,bV,cg,bW⟩:=((Aa bu).below aL NLN).cells m aN;cases bV;have bX:(P[m]== y)=false:=beq_eq_false_iff_ne.2 (Aa bx m aN aM);have bA:=Ab aM;generalize P[m]=ch at bW bX;clear aM aN;go_wp2_with fail
       go_roundw
       case rel=>exact ⟨m+1,Aa bA,by go_num,aL⟩
       case measure=>have:=Aa bA;simp[intOf];omega
      ·have ci: ¬ ((m:Int) < (k:Int)):=by omega
       go_wp2_with fail
       go_roundw
       case rel=>exact ⟨k+1,Aa bz,by go_num,aL⟩
       case measure=>have:=Aa bz;simp[intOf];omega
    ·have cj: ¬ ((k:Int) < (P.length:Int)):=by omega
     go_wp2_with fail
     go_ret
     exact ⟨rfl,bt.trans (aK.mono bt.size)⟩
  ·have bN:(4000 :Int) < (s.size:Int):=by omega
   go_wp2_with fail
   go_ret
   exact ⟨rfl,F⟩
end Go.Proofs.YtoplnhndilmlcaaGreatDoor
