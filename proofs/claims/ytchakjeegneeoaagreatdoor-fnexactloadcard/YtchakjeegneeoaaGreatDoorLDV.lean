/-
  FnExactLoad: the law. Own work.
-/
import Derived.Test.YtchakjeegneeoaaGreatDoorMXBN
import Derived.Test.YtchakjeegneeoaaGreatDoorMXBU
namespace Go.Proofs.YtchakjeegneeoaaGreatDoor
set_option maxRecDepth 100000
set_option maxHeartbeats 12800000
open Go.RowKit
set_option linter.unusedVariables false
structure AdE (w:World) (aX a1 a2 a3 a4 a5 a6 a7 a8 a9:Addr):Prop where
 ev:EvP w a1 a2 a3 a4 a5 a6
 tab:Jl w
 vo:KM w a9
 sn:Y6 w aX a1 a2 a3 a4 a5 a6 a7 a8 a9
theorem sLd {t:ByteArray}{x:QR}(d:DP (AI t).toks x)(w:World):Calls Tryz.prog 4 #[.string t] w (LdA false (Ik t x) w):=
 TR false t x d w (Ab fun V _=>VI t x d V) (Ab fun V a n c b m d N L _ h1 h2 h3=>AeU a b n c m d N L V h1 h2 h3)
theorem iLd {i a1 a2 a3 a4 a5 j k l o:Addr}{g:World}(E:AdE g i a1 a2 a3 a4 a5 j k l o){t:ByteArray}{x:QR}(d:DP (AI t).toks x)(w:World)(h:Below g.heap.size g w):Calls Tryz.prog 5 #[.string t] w (LdA true (Ik t x) w):=
 TR true t x d w (Ab fun V f=>VB t x d V (E.ev.below (h.trans (f.mono h.size)))) (Ab fun V a n c b m d N L f h1 h2 h3=>AeV a b n c m d N L _ _ _ _ _ _ _ _ _ _ V h1 h2 (E.tab.below (h.trans (f.mono h.size)) NLN) (E.vo.below (h.trans (f.mono h.size)) NLN) (E.sn.below (h.trans (f.mono h.size)) NLN) h3)
structure LwS (w v:World) (b c:Nat) (S T:Array Value) (fc fa:Int) (W:World):Prop where
 S0:Al W b S 26
 S1:Al W (b+1) #[.int .i64 fc,.int .i64 fa] 28
 T0:Al W c T 26
 T1:Al W (c+1) #[.int .i64 fc,.int .i64 fa] 28
 E:Below w.heap.size w W
 F:Below v.heap.size v W
theorem LwS.below {w v:World}{b c:Nat}{S T:Array Value}{a d:Int}{W f:World}(h:LwS w v b c S T a d W)(k:Below W.heap.size W f):LwS w v b c S T a d f:=
 ⟨h.S0.after k NLN,h.S1.after k NLN,h.T0.after k NLN,h.T1.after k NLN,h.E.trans (k.mono h.E.size),h.F.trans (k.mono h.F.size)⟩
theorem LwS.touch {w v:World}{b c lo hi:Nat}{S T:Array Value}{a d:Int}{W f:World}(h:LwS w v b c S T a d W)(k:Aj lo hi W f)(h1:b+1 < lo)(h2:hi≤c)(h3:w.heap.size≤lo)(h4:v.heap.size≤lo):LwS w v b c S T a d f:=
 ⟨IR h.S0 k (.inl (by omega)),IR h.S1 k (.inl (by omega)),IR h.T0 k (.inr (by omega)),IR h.T1 k (.inr (by omega)),Gf h.E k h3 h.E.size,Gf h.F k h4 h.F.size⟩
theorem LA (t:ByteArray)(az a1 a2 a3 a4 a5 aA aB aC aD:Addr)(w:World)(E:AdE w az a1 a2 a3 a4 a5 aA aB aC aD):
  Calls Tryz.prog 3 #[.string t] w fun e w'=>e= .returned (.bool true)∧Below w.heap.size w w':=by
 by_cases aE: 1048576 < t.size
 ·have aF:(1048576 :Int) < (t.size:Int):=by omega
  go_enter Tryz.func3,Tryz.ntmps3
  go_wp2_with fail
  go_ret
  exact ⟨rfl,BRN⟩
 have aF: ¬ ((1048576 :Int) < (t.size:Int)):=by omega
 obtain ⟨x,d⟩:=DP.total _ (AI t).toks NLN;have Z:=Ab (fun W h=>iLd E d W h);have aa:=Ab d;clear aE d E;go_enter Tryz.func3,Tryz.ntmps3
 go_wp2_with fail
 refine (sLd (Aa aa) _).mono ?_;rintro e i ⟨q,hq,ab,⟨x0,ac,ad,ae,m0,af,ag,ah,ai,rfl,aj⟩,b3⟩;have n:=Ab (show TyM i x0 ac ad ae m0 af ag ah ai (DI q).1 from aj i NLN fun _ _ _=>rfl);have j:=Ab (show ∀ W,Below w.heap.size w W→Calls Tryz.prog 5 #[.string t] W (CkB true q W) from fun W h=>(Aa Z W h).mono fun r w' ⟨aS,h1,_,h3⟩=>by rw[hq.one h1];exact h3);unfold CkB at j;have c:=Ab ab;clear aj hq ab Z aa;generalize DI q=aG at n j c ⊢;obtain ⟨T,y,z⟩:=aG;dsimp only at n j c ⊢;go_wp2_with fail
 refine PO (P:=fun W=>Calls _ _ _ W _) ?_;intro ak k al A;have f:=b3.trans (k.mono b3.size);refine (Aa j ak f).mono ?_;rintro e ao ⟨⟨x1,aH,aI,aJ,B,aK,aL,C,aM,rfl,l⟩,b5⟩;obtain ⟨H,I,hi,b⟩:=l ao NLN fun _ _ _=>rfl;have aT:i.heap.size+1 < ak.heap.size:=A.lt;clear l b3;dsimp only;go_upto_region 5 with fail
 refine PO (P:=Code.wp _ _ _ _) ?_;intro aN g ap aq;have S6:LwS w i i.heap.size ao.heap.size #[.slice x0 ac ad,.slice ae m0 af,.slice ag ah ai] #[.slice x1 aH aI,.slice aJ B aK,.slice aL C aM] y z aN:=⟨(al.after b5 NLN).after g NLN,(A.after b5 NLN).after g NLN,ap,aq,(f.trans (b5.mono f.size)).trans (g.mono (zD f.size b5.size)),(k.trans (b5.mono k.size)).trans (g.mono (zD k.size b5.size))⟩
 have h5:=b.top;replace b:=b.below g h5;have aO:=f.size;clear k g al A ap aq f b5;obtain ⟨J,b1,b2⟩:=IA S6.S0;obtain ⟨c0,c1,c2⟩:=IA S6.T0;go_wp2_with fail
 refine (Aef (b.mem (Aa c)) ((Aa n).below S6.F)).mono ?_;rintro e aU ⟨rfl,K⟩;have o:=S6.below K;replace b:=b.below K (by have:=b.top;omega);obtain ⟨L,d1⟩:=Ba o.S1;obtain ⟨M,e1⟩:=Ba o.T1;clear S6 K J b1 b2 c0 c1 c2;dsimp only;go_wp2_with fail
 refine (Ti y z _).mono ?_;rintro e aV ⟨rfl,N⟩;have O:=o.below N;replace b:=b.below N (by have:=b.top;omega);obtain ⟨c0,c1,c2⟩:=IA O.T0;clear o N L d1 M e1;dsimp only;go_wp2_with fail
 refine (Pu _ _ _ _ _ _ _ _ _ _ _ _ H I _ _ _ b (Aa c)).mono ?_;rintro e aW ⟨rfl,a,ar⟩;have Q:=O.touch ar (by omega) h5 aO (by omega);have au:B≤65535:=by rw[← b.ns];exact (Aa c).2.1.1
 have av:C≤65535:=by rw[← b.nt];exact (Aa c).2.2
 have hq: ¬ (mkY T.1 B C < 0):=by unfold mkY;omega
 clear O b ar c0 c1 c2;obtain ⟨c0,c1,c2⟩:=IA Q.T0;dsimp only;go_wp2_with fail
 refine (Jm _ _ _ _ _ _ _ _ _ _ _ _ H I _ _ _ a (Aa c) au av).mono ?_;rintro e aP ⟨rfl,R⟩;have S:=Q.below R;replace a:=a.below R (by have:=a.top;omega);clear Q R c0 c1 c2;dsimp only;go_wp2_with fail
 refine (Aa j aP S.E).mono ?_;rintro e aQ ⟨⟨x2,aX,aY,aZ,a0,a6,a7,a8,a9,rfl,l⟩,U⟩;obtain ⟨ba,bb,bc,m⟩:=l aQ NLN fun _ _ _=>rfl;have aw:=S.below U;replace a:=a.below U (by have:=a.top;omega);clear S U l;dsimp only;go_upto_region 16 with fail
 refine PO (P:=Code.wp _ _ _ _) ?_;intro bd p ax s;have u:=aw.below p;replace a:=a.below p (by have:=a.top;omega);replace m:=m.below p m.top;obtain ⟨J,b1,b2⟩:=IA u.S0;obtain ⟨c0,c1,c2⟩:=IA ax;clear aw p;go_wp2_with fail
 refine (Aef (m.mem (Aa c)) ((Aa n).below u.F)).mono ?_;rintro e bf ⟨rfl,v⟩;have V:=u.below v;replace s:=s.after v NLN;replace a:=a.below v (by have:=a.top;omega);obtain ⟨L,d1⟩:=Ba V.S1;obtain ⟨M,e1⟩:=Ba s;clear u v J b1 b2 c0 c1 c2 ax m;dsimp only;go_wp2_with fail
 refine (Ti y z _).mono ?_;rintro e bg ⟨rfl,X⟩;have Y:=V.below X;replace a:=a.below X (by have:=a.top;omega);obtain ⟨c0,c1,c2⟩:=IA Y.T0;clear V X L d1 M e1 s;dsimp only;go_wp2_with fail
 refine (Jm _ _ _ _ _ _ _ _ _ _ _ _ H I _ _ _ a (Aa c) au av).mono ?_;rintro e bh ⟨rfl,ay⟩;have aR:=Y.below ay;clear Y ay c0 c1 c2 a;dsimp only;go_wp2_with fail
 go_ret
 exact ⟨rfl,aR.E⟩
end Go.Proofs.YtchakjeegneeoaaGreatDoor
